/-
  Proved here, joined: ChC16, PubA16, RoomA16
  Conditions: as each part says.
-/
import Derived.Test.YtlghphccmgmomaaGreatJN34
import Derived.Test.YtlghphccmgmomaaGreatJN18
import Derived.Deep.RegionHeld3
import Derived.Deep.RegionLaw

/-
  Proved here: isList, package arena.
  Conditions: none.
-/
namespace Go.Proofs.YtlghphccmgmomaaGreat
open Go Go.RowKit
set_option maxRecDepth 100000

def okH (G : List Ch) (i : Nat) : Bool := match G[i]? with
  | some x => isH x && !(G.take i).any (collB x)
  | none => true
def lstUp (G : List Ch) (k : Nat) : Bool := (List.range k).all (okH G)
def lstB (G : List Ch) : Bool := decide (0 < G.length) && decide (G.length ≤ 3) && lstUp G G.length
theorem okH_some {G : List Ch} {i : Nat} {x : Ch} (h : G[i]? = some x) : okH G i = (isH x && !(G.take i).any (collB x)) := by
  unfold okH
  rw [h]
theorem lstUp_succ (G : List Ch) (k : Nat) : lstUp G (k + 1) = (lstUp G k && okH G k) := by
  unfold lstUp
  rw [List.range_succ, List.all_append]
  simp
theorem lstUp_no {G : List Ch} {i n : Nat} (hi : i < n) (h : okH G i = false) : lstUp G n = false := by
  unfold lstUp
  rw [List.all_eq_false]
  exact ⟨i, List.mem_range.2 hi, by rw [h]; simp⟩
theorem cells11 {w : World} {g : Nat} {T : TypeId} {a b c d e f h i j k l : Value} (hh : w.heap[g]? = some (.cells #[a, b, c, d, e, f, h, i, j, k, l] T (0, 0))) : w.cell? ⟨g, 0, none⟩ = some a ∧ w.cell? ⟨g, 1, none⟩ = some b ∧ w.cell? ⟨g, 2, none⟩ = some c ∧ w.cell? ⟨g, 3, none⟩ = some d ∧ w.cell? ⟨g, 4, none⟩ = some e ∧ w.cell? ⟨g, 5, none⟩ = some f ∧ w.cell? ⟨g, 6, none⟩ = some h ∧ w.cell? ⟨g, 7, none⟩ = some i ∧ w.cell? ⟨g, 8, none⟩ = some j ∧ w.cell? ⟨g, 9, none⟩ = some k ∧ w.cell? ⟨g, 10, none⟩ = some l := by
  refine ⟨?_, ?_, ?_, ?_, ?_, ?_, ?_, ?_, ?_, ?_, ?_⟩ <;> simp [World.cell?, hh]
set_option maxHeartbeats 1600000 in
theorem islist_any (w : World) (A : Option Addr) (G : List Ch) (n cap : Nat) (hn : G.length = n) (hr : RH.Row w A G) (hc : n ≤ cap) (hm : cap ≤ maxLen) :
    Calls Tryz.prog 20 #[.slice A n cap] w fun e w' => e = .returned (.bool (lstB G)) ∧ Below w.heap.size w w' := by
  unfold maxLen at hm
  rcases Nat.eq_zero_or_pos n with h0 | h0
  · have hz : lstB G = false := by unfold lstB; rw [hn, h0]; rfl
    rw [hz]
    subst h0
    clear hz hr hn
    go_enter Tryz.func20, Tryz.ntmps20
    go_wp2
    go_ret
    exact ⟨rfl, Below.refl _ _⟩
  rcases Nat.lt_or_ge 3 n with h3 | h3
  · have hz : lstB G = false := by unfold lstB; rw [hn, decide_eq_false (p := n ≤ 3) (by omega)]; simp
    rw [hz]
    have h1 : ((n : Int) == 0) = false := by simp; omega
    have h2 : decide ((3 : Int) < (n : Int)) = true := decide_eq_true (by omega)
    clear hz hr hn
    go_enter Tryz.func20, Tryz.ntmps20
    go_wp2
    go_ret
    exact ⟨rfl, Below.refl _ _⟩
  obtain ⟨r, hrb⟩ : ∃ r, lstB G = r := ⟨_, rfl⟩
  have HRB : Hid (r = lstUp G n) := by
    show r = _
    rw [← hrb]
    unfold lstB
    rw [hn, decide_eq_true h0, decide_eq_true h3]
    rfl
  rw [hrb]
  obtain ⟨b, off, rfl, hbw, -⟩ := hr.2 (by omega)
  obtain ⟨B, hB⟩ : ∃ B, w.heap.size = B := ⟨_, rfl⟩
  rw [hB] at hbw ⊢
  have HR := Lib.hid hr
  have HN := Lib.hid hn
  have HBS := Lib.hid hB
  have HZ := Lib.hid zero_ch
  have HM := Lib.hid (fun (x : Ch) (w1 : World) => ischange_any x w1)
  have HSH : Hid (∀ (W : World) (i : Nat) (x : Ch), Below B w W → i ≤ n → Calls Tryz.prog 50 #[.slice (some ⟨b, off, none⟩) i cap, .agg #[.int .i64 x.kd, .string x.key, .string x.val, .bool x.had, .string x.old.str, .int .u64 (x.old.id : Nat), .int .u64 (x.old.ver : Nat), .int .i64 x.old.line, .int .i64 x.old.cl, .int .i64 x.line, .int .i64 x.cl]] W fun e w' => e = .returned (.bool ((G.take i).any (collB x))) ∧ Below W.heap.size W w') := fun W i x hW hi =>
    coll_any (l := G.take i) i cap (by rw [List.length_take, hn]; omega) ((hr.below (hB ▸ hW)).take i) x
  have HBW := Lib.hid hbw
  have h1 : ((n : Int) == 0) = false := by simp; omega
  have h2 : decide ((3 : Int) < (n : Int)) = false := decide_eq_false (by omega)
  clear hr hn hB hrb hbw
  go_enter Tryz.func20, Tryz.ntmps20
  go_wp2
  go_loopg [15] n (fun gk s15 wx => ∃ i : Nat, i + gk = n ∧ s15 = .int .i64 i ∧ Hid (Below B w wx) ∧ Hid (lstUp G i = true))
  case atStart => exact ⟨0, by omega, rfl, Below.refl _ _, rfl⟩
  case round =>
    obtain ⟨i, hig, rfl, HW, HG⟩ := hrel
    cases gk with
    | zero =>
      obtain rfl : i = n := by omega
      have hii : ¬ (i : Int) < (i : Int) := by omega
      obtain rfl : r = true := by rw [HRB.out, HG.out]
      go_wp2
      go_ret
      exact ⟨rfl, HW.out⟩
    | succ gk =>
      have hii : (i : Int) < (n : Int) := by omega
      have hicap : (i : Int) ≤ (cap : Int) := by omega
      have hi0 : (0 : Int) ≤ (i : Int) := by omega
      have hgi := List.getElem?_eq_getElem (show i < G.length by have := HN.out; omega)
      generalize G[i]'(by have := HN.out; omega) = x at *
      obtain ⟨b', off', e', -, c0, c1, c2, c3, c4, c5, c6, c7, c8, c9, c10⟩ := chAt (HR.out.below (HBS.out.symm ▸ HW.out)) hgi
      cases e'
      have HMX := Lib.hid (HM.out x)
      have HSX := Lib.hid (fun W hW => HSH.out W i x hW (by omega))
      have HOK : Hid (okH G i = (isH x && !(G.take i).any (collB x))) := okH_some hgi
      have hbB : B ≤ wr.heap.size := by have := HW.out.size; have := HBS.out; omega
      have HBB := Lib.hid hbB
      obtain ⟨g, hg⟩ : ∃ g, wr.heap.size = g := ⟨_, rfl⟩
      have HGX := Lib.hid hg
      have HGB : Hid (B ≤ g) := hg ▸ hbB
      have HN1 : Hid (okH G i = false → r = false) := fun h => by rw [HRB.out]; exact lstUp_no (by omega) h
      have HN2 : Hid (okH G i = true → lstUp G (i + 1) = true) := fun h => by rw [lstUp_succ, HG.out, h]; rfl
      rw [HOK.out] at HN1 HN2
      clear hgi hbB hg
      generalize isH x = m at *
      generalize (G.take i).any (collB x) = sh at *
      generalize x.kd = x0 at *
      generalize x.key = x1 at *
      generalize x.val = x2 at *
      generalize x.had = x3 at *
      generalize x.old.str = x4 at *
      generalize (x.old.id : Int) = x5 at *
      generalize (x.old.ver : Int) = x6 at *
      generalize x.old.line = x7 at *
      generalize x.old.cl = x8 at *
      generalize x.line = x9 at *
      generalize x.cl = x10 at *
      rcases m with _ | _
      case false =>
        obtain rfl := HN1.out rfl
        go_wp2_with (first
          | ((with_reducible show wpList _ _ _ (⟨some 4, .alloc _, _, _, _, _⟩ :: _) _ _); refine wpList_alloc_var (o := ⟨some 4, _, _, _, _, _⟩) rfl 31 rfl g HGX.out _ HZ.out ?_; intro v1 H1 B1)
          | ((with_reducible show wpList _ _ _ (⟨none, .store _ (.tmp 4) _, _, _, _, _⟩ :: _) _ _); refine wpList_store_whole (o := ⟨none, .store 31 (.tmp 4) (.tmp 19), _, _, _, _⟩) rfl _ _ _ rfl rfl g #[.int .i64 x0, .string x1, .string x2, .bool x3, .string x4, .int .u64 x5, .int .u64 x6, .int .i64 x7, .int .i64 x8, .int .i64 x9, .int .i64 x10] rfl rfl 31 _ H1.out size_ch rfl (onesCh _ _ _ _ _ _ _ _ _ _ _) ?_; intro v2 H2 B2)
          | fail)
        obtain ⟨p0, p1, p2, p3, p4, p5, p6, p7, p8, p9, p10⟩ := cells11 H2.out
        have HW2 : Hid (Below B w v2) := HW.out.trans ((B1.out.trans B2.out).mono HGB.out)
        have HL2 : Hid (g < v2.heap.size) := lt_of_heap H2.out
        clear c0 c1 c2 c3 c4 c5 c6 c7 c8 c9 c10
        first
          | (go_region_law
          (first
            | (refine step_skip (by rfl) ?_)
            | (go_simp; go_at_call 49; refine (HMX.out _).mono ?_; rintro e v3 ⟨rfl, b3⟩; have HW3 : Hid (Below B w v3) := (HW2.out.drew).trans (b3.mono (Nat.le_of_lt (Nat.lt_of_le_of_lt HGB.out HL2.out))); clear b3; dsimp only)))
          | fail
        all_goals
          go_wp2
          go_ret
          exact ⟨rfl, HW3.out⟩
      case true =>
        rcases sh with _ | _
        case false =>
          have HG2 := Lib.hid (HN2.out rfl)
          go_wp2_with (first
            | ((with_reducible show wpList _ _ _ (⟨some 4, .alloc _, _, _, _, _⟩ :: _) _ _); refine wpList_alloc_var (o := ⟨some 4, _, _, _, _, _⟩) rfl 31 rfl g HGX.out _ HZ.out ?_; intro v1 H1 B1)
            | ((with_reducible show wpList _ _ _ (⟨none, .store _ (.tmp 4) _, _, _, _, _⟩ :: _) _ _); refine wpList_store_whole (o := ⟨none, .store 31 (.tmp 4) (.tmp 19), _, _, _, _⟩) rfl _ _ _ rfl rfl g #[.int .i64 x0, .string x1, .string x2, .bool x3, .string x4, .int .u64 x5, .int .u64 x6, .int .i64 x7, .int .i64 x8, .int .i64 x9, .int .i64 x10] rfl rfl 31 _ H1.out size_ch rfl (onesCh _ _ _ _ _ _ _ _ _ _ _) ?_; intro v2 H2 B2)
            | fail)
          obtain ⟨p0, p1, p2, p3, p4, p5, p6, p7, p8, p9, p10⟩ := cells11 H2.out
          have HW2 : Hid (Below B w v2) := HW.out.trans ((B1.out.trans B2.out).mono HGB.out)
          have HL2 : Hid (g < v2.heap.size) := lt_of_heap H2.out
          clear c0 c1 c2 c3 c4 c5 c6 c7 c8 c9 c10
          go_region_held3 (fun w' => w'.cell? ⟨g, 0, none⟩ = some (.int .i64 x0) ∧ w'.cell? ⟨g, 1, none⟩ = some (.string x1) ∧ w'.cell? ⟨g, 2, none⟩ = some (.string x2) ∧ w'.cell? ⟨g, 3, none⟩ = some (.bool x3) ∧ w'.cell? ⟨g, 4, none⟩ = some (.string x4) ∧ w'.cell? ⟨g, 5, none⟩ = some (.int .u64 x5) ∧ w'.cell? ⟨g, 6, none⟩ = some (.int .u64 x6) ∧ w'.cell? ⟨g, 7, none⟩ = some (.int .i64 x7) ∧ w'.cell? ⟨g, 8, none⟩ = some (.int .i64 x8) ∧ w'.cell? ⟨g, 9, none⟩ = some (.int .i64 x9) ∧ w'.cell? ⟨g, 10, none⟩ = some (.int .i64 x10)) (go_keep)
            (first
              | (go_at_call 49; refine (HMX.out _).mono ?_; rintro e v3 ⟨rfl, b3⟩; have H3 := Lib.hid ((b3.block g HL2.out).trans H2.out); obtain ⟨q0, q1, q2, q3, q4, q5, q6, q7, q8, q9, q10⟩ := cells11 H3.out; have HW3 : Hid (Below B w v3) := (HW2.out.drew).trans (b3.mono (Nat.le_of_lt (Nat.lt_of_le_of_lt HGB.out HL2.out))); have HL3 : Hid (B ≤ v3.heap.size) := (Nat.le_trans (Nat.le_of_lt (Nat.lt_of_le_of_lt HGB.out HL2.out)) b3.size); clear b3)
              | (go_at_call 50; refine (HSX.out _ HW3.out).mono ?_; rintro e v4 ⟨rfl, b4⟩; have HW4 : Hid (Below B w v4) := HW3.out.trans (b4.mono HL3.out); have H4 := Lib.hid ((b4.block g (lt_of_heap H3.out)).trans H3.out); obtain ⟨r0, r1, r2, r3, r4, r5, r6, r7, r8, r9, r10⟩ := cells11 H4.out; clear b4))
          go_wp2
          go_roundg gk
          case measure => omega
          case rel => exact ⟨i + 1, by omega, by go_num, HW4.out, HG2⟩
        case true =>
          obtain rfl := HN1.out rfl
          go_wp2_with (first
            | ((with_reducible show wpList _ _ _ (⟨some 4, .alloc _, _, _, _, _⟩ :: _) _ _); refine wpList_alloc_var (o := ⟨some 4, _, _, _, _, _⟩) rfl 31 rfl g HGX.out _ HZ.out ?_; intro v1 H1 B1)
            | ((with_reducible show wpList _ _ _ (⟨none, .store _ (.tmp 4) _, _, _, _, _⟩ :: _) _ _); refine wpList_store_whole (o := ⟨none, .store 31 (.tmp 4) (.tmp 19), _, _, _, _⟩) rfl _ _ _ rfl rfl g #[.int .i64 x0, .string x1, .string x2, .bool x3, .string x4, .int .u64 x5, .int .u64 x6, .int .i64 x7, .int .i64 x8, .int .i64 x9, .int .i64 x10] rfl rfl 31 _ H1.out size_ch rfl (onesCh _ _ _ _ _ _ _ _ _ _ _) ?_; intro v2 H2 B2)
            | fail)
          obtain ⟨p0, p1, p2, p3, p4, p5, p6, p7, p8, p9, p10⟩ := cells11 H2.out
          have HW2 : Hid (Below B w v2) := HW.out.trans ((B1.out.trans B2.out).mono HGB.out)
          have HL2 : Hid (g < v2.heap.size) := lt_of_heap H2.out
          clear c0 c1 c2 c3 c4 c5 c6 c7 c8 c9 c10
          go_region_held3 (fun w' => w'.cell? ⟨g, 0, none⟩ = some (.int .i64 x0) ∧ w'.cell? ⟨g, 1, none⟩ = some (.string x1) ∧ w'.cell? ⟨g, 2, none⟩ = some (.string x2) ∧ w'.cell? ⟨g, 3, none⟩ = some (.bool x3) ∧ w'.cell? ⟨g, 4, none⟩ = some (.string x4) ∧ w'.cell? ⟨g, 5, none⟩ = some (.int .u64 x5) ∧ w'.cell? ⟨g, 6, none⟩ = some (.int .u64 x6) ∧ w'.cell? ⟨g, 7, none⟩ = some (.int .i64 x7) ∧ w'.cell? ⟨g, 8, none⟩ = some (.int .i64 x8) ∧ w'.cell? ⟨g, 9, none⟩ = some (.int .i64 x9) ∧ w'.cell? ⟨g, 10, none⟩ = some (.int .i64 x10)) (go_keep)
            (first
              | (go_at_call 49; refine (HMX.out _).mono ?_; rintro e v3 ⟨rfl, b3⟩; have H3 := Lib.hid ((b3.block g HL2.out).trans H2.out); obtain ⟨q0, q1, q2, q3, q4, q5, q6, q7, q8, q9, q10⟩ := cells11 H3.out; have HW3 : Hid (Below B w v3) := (HW2.out.drew).trans (b3.mono (Nat.le_of_lt (Nat.lt_of_le_of_lt HGB.out HL2.out))); have HL3 : Hid (B ≤ v3.heap.size) := (Nat.le_trans (Nat.le_of_lt (Nat.lt_of_le_of_lt HGB.out HL2.out)) b3.size); clear b3)
              | (go_at_call 50; refine (HSX.out _ HW3.out).mono ?_; rintro e v4 ⟨rfl, b4⟩; have HW4 : Hid (Below B w v4) := HW3.out.trans (b4.mono HL3.out); have H4 := Lib.hid ((b4.block g (lt_of_heap H3.out)).trans H3.out); obtain ⟨r0, r1, r2, r3, r4, r5, r6, r7, r8, r9, r10⟩ := cells11 H4.out; clear b4))
          go_wp2
          go_ret
          exact ⟨rfl, HW4.out⟩


end Go.Proofs.YtlghphccmgmomaaGreat

/-
  Proved here: what package arena's isThread and Numbers answer.
  Conditions: none.
-/
namespace Go.Proofs.YtlghphccmgmomaaGreat
open Go Go.RowKit
set_option maxRecDepth 100000

open Classical
section
variable {b : Nat} {w w' : World} {col : Nat → Nat} {z : Pz} {s : Az}
/-- The struct's cells. -/
theorem Ar.at_ (h : Ar b w col z s) : w.cell? ⟨z.ap, 0, none⟩ = some (.pointer (some ⟨z.dp, 0, none⟩)) ∧ w.cell? ⟨z.ap, 4, none⟩ = some (.pointer (some ⟨z.pp, 0, none⟩)) ∧ w.cell? ⟨z.ap, 5, none⟩ = some (.pointer (some ⟨z.rp, 0, none⟩)) ∧ w.cell? ⟨z.ap, 6, none⟩ = some (.pointer (some ⟨z.cp, 0, none⟩)) ∧ w.cell? ⟨z.ap, 7, none⟩ = some (.pointer (some ⟨z.bp, 0, none⟩)) ∧ w.cell? ⟨z.ap, 8, none⟩ = some (.pointer (some ⟨z.tp, 0, none⟩)) ∧ w.cell? ⟨z.ap, 9, none⟩ = some (.pointer (some ⟨z.op, 0, none⟩)) ∧ w.cell? ⟨z.ap, 10, none⟩ = some (.pointer (some ⟨z.lp, 0, none⟩)) ∧ w.cell? ⟨z.ap, 11, none⟩ = some (.int .u64 (s.id : Nat)) ∧ w.cell? ⟨z.ap, 12, none⟩ = some (.int .u64 (s.ver : Nat)) ∧ w.cell? ⟨z.ap, 13, none⟩ = some z.ev := by
  obtain ⟨on, h0⟩ := h.me
  have hh := fun j => (me_at h0 j).1
  exact ⟨hh 0, hh 4, hh 5, hh 6, hh 7, hh 8, hh 9, hh 10, hh 11, hh 12, hh 13⟩
theorem Ar.frozen (h : Ar b w col z s) (j : Nat) : w.frozen? ⟨z.ap, j, none⟩ = false := by
  obtain ⟨on, h0⟩ := h.me
  exact (me_at h0 j).2
def thrB (c : Ck) (t : Int) : Bool := decide (0 ≤ t) && decide (t < (c.owed.length : Nat))
set_option maxHeartbeats 800000 in
theorem isthread_any (h : Ar b w col z s) (t : Int) : Calls Tryz.prog 19 #[.pointer (some ⟨z.ap, 0, none⟩), .int .i64 t] w fun e w' => e = .returned (.bool (thrB s.c t)) ∧ Below w.heap.size w w' := by
  obtain ⟨-, -, -, a6, -⟩ := h.at_
  have HO := Lib.hid (ckowed_any h.ck.two)
  have H4 : Hid (s.c.owed.length ≤ 4) := h.ck.two.raw.small
  generalize z.ap = ap at *
  generalize z.cp = cp at *
  unfold thrB
  obtain ⟨n, hn⟩ : ∃ n, s.c.owed.length = n := ⟨_, rfl⟩
  have HN := Lib.hid hn
  rw [hn]
  cases h0 : decide (0 ≤ t) with
  | false =>
    have h1 : ¬ 0 ≤ t := of_decide_eq_false h0
    clear h hn
    go_enter Tryz.func19, Tryz.ntmps19
    go_wp2
    go_ret
    exact ⟨rfl, Below.refl _ _⟩
  | true =>
    have h1 : 0 ≤ t := of_decide_eq_true h0
    clear h hn
    go_enter Tryz.func19, Tryz.ntmps19
    go_wp2_with fail
    refine HO.out.mono ?_
    clear a6
    rintro e w1 ⟨V, rfl, ho, hb⟩
    have HB := Lib.hid hb
    obtain ⟨A, cap, rfl, -, -, -⟩ := rowI_of_own ho (by have := H4.out; omega)
    rw [HN.out]
    clear ho hb
    go_wp2
    go_ret
    exact ⟨rfl, HB.out⟩
theorem numbers_any (h : Ar b w col z s) : Calls Tryz.prog 6 #[.pointer (some ⟨z.ap, 0, none⟩)] w fun e w' => e = .returned (.tuple #[.int .u64 (s.id : Nat), .int .u64 (s.ver : Nat)]) ∧ ∃ k, w' = w.drewN k := by
  obtain ⟨-, -, -, -, -, -, -, -, a11, a12, -⟩ := h.at_
  have H1 := Lib.hid (fun k : Nat => uload z.ap 11 _ (w.drewN k) a11)
  have H2 := Lib.hid (fun k : Nat => uload z.ap 12 _ (w.drewN k) a12)
  generalize z.ap = ap at *
  clear h a11 a12
  go_enter Tryz.func6, Tryz.ntmps6
  go_wp2
  go_quiet ((go_at_call 35; first | (with_reducible exact quiet_same (H1.out _)) | (with_reducible exact quiet_same (H2.out _))))
  go_wp2
  go_ret2
  exact ⟨rfl, _, rfl⟩
end

end Go.Proofs.YtlghphccmgmomaaGreat

/-
  Proved here: the blocks in limbo, package arena.
  Conditions: none.
-/
namespace Go.Proofs.YtlghphccmgmomaaGreat
open Go Go.RowKit
set_option maxRecDepth 100000

open Classical
/-- Blocks in a slice. -/
theorem tk_info : (Tryz.prog.info? 179).map (fun i => (i.zero, i.size, i.bytes)) = some (some (.agg #[.int .i64 0, .int .i64 0]), 2, 16) := by kernel_rfl
def Tkc (t : Tk) : List Value := [.int .i64 t.1, .int .i64 t.2]
def RT : Rec Tk where
  tE := 179
  tS := 62
  k := 2
  by_ := 16
  zv := .agg #[.int .i64 0, .int .i64 0]
  cells := Tkc
  hk := by omega
  klen := fun _ => rfl
  one := fun x u hu => by
    simp only [Tkc, List.mem_cons, List.not_mem_nil, or_false] at hu
    rcases hu with rfl | rfl <;> rfl
  und := Tryz.underlying62
  info := by
    obtain ⟨i, h1, h2⟩ := Option.map_eq_some_iff.1 tk_info
    simp only [Prod.mk.injEq] at h2
    exact ⟨i, h1, h2.1, h2.2.1, h2.2.2⟩
  zk := by kernel_rfl
  small := by omega
/-- What hands back a row of blocks of its own. -/
def TkTo (w : World) (l : List Tk) (e : Ending) (w' : World) : Prop := ∃ v, e = .returned v ∧ w'.ownsRow w.heap.size RT.tE RT.k v l.length (RT.enc l) ∧ Below w.heap.size w w'
section
variable {b : Nat} {w w' : World} {col : Nat → Nat} {z : Pz} {s : Az}
def limT (B : List En) : List Tk := B.map fun e => (e.line, e.cl)
set_option maxHeartbeats 3200000 in
theorem limbo_any (h : Ar b w col z s) : Calls Tryz.prog 43 #[.pointer (some ⟨z.ap, 0, none⟩)] w (TkTo w (limT s.B)) := by
  obtain ⟨-, -, -, -, a7, -⟩ := h.at_
  have HA := Lib.hid (bgall_any h.bg)
  have HM : Hid (s.B.length ≤ 258) := h.bg.most
  have HZ := Lib.hid zero_entry
  generalize z.ap = ap at *
  generalize z.bp = bp at *
  obtain ⟨g0, hg0⟩ : ∃ g0, w.heap.size = g0 := ⟨_, rfl⟩
  have HG0 := Lib.hid hg0
  have HFIN : Hid (∀ v W, W.ownsRow g0 RT.tE RT.k v s.B.length (RT.enc (limT s.B)) → Below g0 w W → TkTo w (limT s.B) (.returned v) W) := fun v W h1 h2 => ⟨v, rfl, by rw [hg0]; unfold limT at *; rw [List.length_map]; exact h1, hg0 ▸ h2⟩
  obtain ⟨R, hR⟩ : ∃ R, TkTo w (limT s.B) = R := ⟨_, rfl⟩
  rw [hR] at HFIN ⊢
  obtain ⟨B, hB⟩ : ∃ B, s.B = B := ⟨_, rfl⟩
  rw [hB] at HA HM HFIN
  clear h hg0 hR hB
  go_enter Tryz.func43, Tryz.ntmps43
  go_wp2_with fail
  refine HA.out.mono ?_
  clear a7
  rintro e w1 ⟨v, rfl, ho, hb⟩
  obtain ⟨n, hn⟩ : ∃ n, B.length = n := ⟨_, rfl⟩
  have HN := Lib.hid hn
  obtain ⟨_, A, cap, rfl, -, hr, -, -⟩ := rowE_of_own ho (by have := HM.out; omega)
  have HR := Lib.hid hr
  have HB1 : Hid (Below g0 w w1) := HG0.out ▸ hb
  have HL1 : Hid (g0 ≤ w1.heap.size) := HG0.out ▸ hb.size
  obtain ⟨g1, hg1⟩ : ∃ g1, w1.heap.size = g1 := ⟨_, rfl⟩
  have HG1 := Lib.hid hg1
  have hn258 : n ≤ 258 := by have := HM.out; omega
  rw [hn]
  clear ho hb hr hg1 hn
  go_wp2
  go_loopg [12, 3] n (fun gk s12 s3 wx => ∃ (i : Nat) (V : Value), i + gk = n ∧ s12 = .int .i64 i ∧ V = s3 ∧ Hid (wx.ownsRow g1 RT.tE RT.k V i (RT.enc (limT (B.take i)))) ∧ Hid (Below g1 w1 wx))
  case atStart => exact ⟨0, _, by omega, rfl, rfl, World.ownsRow_nil _ _ _ _, Below.refl _ _⟩
  case round =>
    obtain ⟨i, V, hig, rfl, rfl, HO, HW⟩ := hrel
    have hsz : g1 ≤ wr.heap.size := HG1.out ▸ HW.out.size
    cases gk with
    | zero =>
      obtain rfl : i = n := by omega
      have hii : ¬ (i : Int) < (i : Int) := by omega
      have HTK : Hid (B.take i = B) := by rw [← HN.out]; exact List.take_length
      rw [HTK.out] at HO
      have HLE : Hid (g0 ≤ g1) := HG1.out ▸ HL1.out
      have HOF := Lib.hid (own_mono HO.out HLE.out)
      rw [← HN.out] at HOF
      go_wp2
      exact HFIN.out _ _ HOF.out (HB1.out.trans (HW.out.mono HLE.out))
    | succ gk =>
      have hii : (i : Int) < (n : Int) := by omega
      have hi0 : (0 : Int) ≤ (i : Int) := by omega
      obtain ⟨x, hx⟩ : ∃ x, B[i]? = some x := ⟨_, List.getElem?_eq_getElem (by have := HN.out; omega)⟩
      obtain ⟨b1, o1, e1, hb1, k0, k1, k2, k3, k4⟩ := (HR.out.below (HG1.out.symm ▸ HW.out)).at_ hx
      subst e1
      have HNX : Hid (limT (B.take i) ++ [(x.line, x.cl)] = limT (B.take (i + 1))) := by
        show _ = _
        unfold limT
        rw [List.take_add_one, hx]
        simp
      obtain ⟨g, hg⟩ : ∃ g, wr.heap.size = g := ⟨_, rfl⟩
      have HGX := Lib.hid hg
      have HGG : Hid (g1 ≤ g) := hg ▸ hsz
      have HI : Hid (i < 1048576) := by have := HM.out; have := HN.out; show i < _; omega
      clear hx hg hb1 hsz
      generalize x.line = x0 at *
      generalize x.cl = x1 at *
      generalize (x.r : Int) = x2 at *
      generalize (x.d : Int) = x3 at *
      generalize x.anti = x4 at *
      go_wp2_with (first
        | ((with_reducible show wpList _ _ _ (⟨some 5, .alloc _, _, _, _, _⟩ :: _) _ _); refine wpList_alloc_var (o := ⟨some 5, _, _, _, _, _⟩) rfl 34 rfl g HGX.out _ HZ.out ?_; intro v1 H1 B1)
        | ((with_reducible show wpList _ _ _ (⟨none, .store _ (.tmp 5) _, _, _, _, _⟩ :: _) _ _); refine wpList_store_whole (o := ⟨none, .store 34 (.tmp 5) (.tmp 15), _, _, _, _⟩) rfl _ _ _ rfl rfl g #[.int .i64 x0, .int .i64 x1, .int .u64 x2, .int .u64 x3, .int .i64 x4] rfl rfl 34 _ H1.out size_entry rfl (ones5 _ _ _ _ _) ?_; intro v2 H2 B2; obtain ⟨p0, p1, p2, p3, p4⟩ := cells5 H2.out; have HB2 : Hid (Below wr.heap.size wr v2) := HGX.out.symm ▸ B1.out.trans B2.out; have HO2 : Hid (v2.ownsRow g1 RT.tE RT.k V i (RT.enc (limT (B.take i)))) := own_keep HO.out HB2.out; obtain ⟨v3, w3, hrun, ho3, hg3, hob3, hnn3⟩ := RT.run_app_one v2 g1 i V (limT (B.take i)) (x0, x1) HO2.out HI.out (Nat.le_trans HGG.out (by have := HB2.out.size; have := HGX.out; omega)) 62; have HRUN := Lib.hid hrun; have HO3 := Lib.hid ho3; have HGR := Lib.hid hg3; clear hrun ho3 hg3 hob3 hnn3)
        | (at_builtin; refine wpList_app rfl (.tmp 16) (.tmp 22) 62 rfl rfl rfl HRUN.out ?_)
        | fail)
      have HW3 : Hid (Below g1 w1 w3) := (HW.out.trans (HB2.out.mono (Nat.le_trans HGG.out (Nat.le_of_eq HGX.out.symm)))).grown HGR.out (Nat.le_trans HGG.out (by have := HB2.out.size; have := HGX.out; omega)) (fun k hk => own_ge HO2.out k hk)
      rw [HNX.out] at HO3
      go_roundg gk
      case measure => omega
      case rel => exact ⟨i + 1, v3, by omega, by go_num, rfl, HO3, HW3⟩
end

end Go.Proofs.YtlghphccmgmomaaGreat
