/-
  Proved here: whether calls may be a group, as the program tells it.
  Conditions: rows of at most 2^20 calls.
-/
import Derived.Test.YtpmgnhijiodbaaaGood15
import Derived.Test.YtpmgnhijiodbaaaStepApp
import Derived.Deep.RegionHeld3
namespace Go.Proofs.Ytpmgnhijiodbaaa
open Go Go.RowKit
set_option maxRecDepth 100000

def okAt (G : List Cal) (i : Nat) : Bool := match G[i]? with
  | some x => memB x && !sharesB (G.take i) x
  | none => true
def grpUp (G : List Cal) (k : Nat) : Bool := (List.range k).all (okAt G)
def grpB (G : List Cal) : Bool := decide (0 < G.length) && decide (G.length ≤ 3) && grpUp G G.length
theorem okAt_some {G : List Cal} {i : Nat} {x : Cal} (h : G[i]? = some x) : okAt G i = (memB x && !sharesB (G.take i) x) := by
  unfold okAt
  rw [h]
theorem grpUp_succ (G : List Cal) (k : Nat) : grpUp G (k + 1) = (grpUp G k && okAt G k) := by
  unfold grpUp
  rw [List.range_succ, List.all_append]
  simp
theorem grpUp_no {G : List Cal} {i n : Nat} (hi : i < n) (h : okAt G i = false) : grpUp G n = false := by
  unfold grpUp
  rw [List.all_eq_false]
  exact ⟨i, List.mem_range.2 hi, by rw [h]; simp⟩
theorem cells5 {w : World} {g : Nat} {T : TypeId} {a b c d e : Value} (h : w.heap[g]? = some (.cells #[a, b, c, d, e] T (0, 0))) : w.cell? ⟨g, 0, none⟩ = some a ∧ w.cell? ⟨g, 1, none⟩ = some b ∧ w.cell? ⟨g, 2, none⟩ = some c ∧ w.cell? ⟨g, 3, none⟩ = some d ∧ w.cell? ⟨g, 4, none⟩ = some e := by
  refine ⟨?_, ?_, ?_, ?_, ?_⟩ <;> simp [World.cell?, h]
set_option maxHeartbeats 1600000 in
theorem group_any (w : World) (A : Option Addr) (G : List Cal) (n cap : Nat) (hn : G.length = n) (hr : RC.Row w A G) (hc : n ≤ cap) (hm : cap ≤ maxLen) :
    Calls Try.prog 58 #[.slice A n cap] w fun e w' => e = .returned (.bool (grpB G)) ∧ Below w.heap.size w w' := by
  unfold maxLen at hm
  rcases Nat.eq_zero_or_pos n with h0 | h0
  · have hz : grpB G = false := by unfold grpB; rw [hn, h0]; rfl
    rw [hz]
    subst h0
    clear hz hr hn
    go_enter Try.func58, Try.ntmps58
    go_wp2
    go_ret
    exact ⟨rfl, Below.refl _ _⟩
  rcases Nat.lt_or_ge 3 n with h3 | h3
  · have hz : grpB G = false := by unfold grpB; rw [hn, decide_eq_false (p := n ≤ 3) (by omega)]; simp
    rw [hz]
    have h1 : ((n : Int) == 0) = false := by simp; omega
    have h2 : decide ((3 : Int) < (n : Int)) = true := decide_eq_true (by omega)
    clear hz hr hn
    go_enter Try.func58, Try.ntmps58
    go_wp2
    go_ret
    exact ⟨rfl, Below.refl _ _⟩
  obtain ⟨r, hrb⟩ : ∃ r, grpB G = r := ⟨_, rfl⟩
  have HRB : Hid (r = grpUp G n) := by
    show r = _
    rw [← hrb]
    unfold grpB
    rw [hn, decide_eq_true h0, decide_eq_true h3]
    rfl
  rw [hrb]
  obtain ⟨b, off, rfl, hbw, -⟩ := hr.2 (by omega)
  obtain ⟨B, hB⟩ : ∃ B, w.heap.size = B := ⟨_, rfl⟩
  rw [hB] at hbw ⊢
  have HR := Lib.hid hr
  have HN := Lib.hid hn
  have HBS := Lib.hid hB
  have HZ := Lib.hid zero_call
  have HM := Lib.hid (fun (x : Cal) (w1 : World) => member_any x w1)
  have HSH : Hid (∀ (W : World) (i : Nat) (x : Cal), Below B w W → i ≤ n → Calls Try.prog 69 #[.slice (some ⟨b, off, none⟩) i cap, .agg #[.int .i64 x.kd, .string x.key, .string x.val, .string x.to_, .slice x.ga x.gn x.gc]] W fun e w' => e = .returned (.bool (sharesB (G.take i) x)) ∧ Below W.heap.size W w') := fun W i x hW hi =>
    shares_any x W _ (G.take i) i cap (by rw [List.length_take, hn]; omega) ((hr.below (hB ▸ hW)).take i)
  have HBW := Lib.hid hbw
  have h1 : ((n : Int) == 0) = false := by simp; omega
  have h2 : decide ((3 : Int) < (n : Int)) = false := decide_eq_false (by omega)
  clear hr hn hB hrb hbw
  go_enter Try.func58, Try.ntmps58
  go_wp2
  go_loopg [15] n (fun gk s15 wx => ∃ i : Nat, i + gk = n ∧ s15 = .int .i64 i ∧ Hid (Below B w wx) ∧ Hid (grpUp G i = true))
  case atStart => exact ⟨0, by omega, rfl, Below.refl _ _, rfl⟩
  case round =>
    obtain ⟨i, hig, rfl, HW, HG⟩ := hrel
    cases gk with
    | zero =>
      obtain rfl : i = n := by omega
      have hii : ¬ (i : Int) < (i : Int) := by omega
      obtain rfl : r = true := by rw [HRB.out, HG.out]
      go_wp2
      go_ret
      exact ⟨rfl, HW.out⟩
    | succ gk =>
      have hii : (i : Int) < (n : Int) := by omega
      have hicap : (i : Int) ≤ (cap : Int) := by omega
      have hi0 : (0 : Int) ≤ (i : Int) := by omega
      have hgi := List.getElem?_eq_getElem (show i < G.length by have := HN.out; omega)
      generalize G[i]'(by have := HN.out; omega) = x at *
      obtain ⟨b', off', e', -, c0, c1, c2, c3, c4⟩ := callAt (HR.out.below (HBS.out.symm ▸ HW.out)) hgi
      cases e'
      have HMX := Lib.hid (HM.out x)
      have HSX := Lib.hid (fun W hW => HSH.out W i x hW (by omega))
      have HOK : Hid (okAt G i = (memB x && !sharesB (G.take i) x)) := okAt_some hgi
      have hbB : B ≤ wr.heap.size := by have := HW.out.size; have := HBS.out; omega
      have HBB := Lib.hid hbB
      obtain ⟨g, hg⟩ : ∃ g, wr.heap.size = g := ⟨_, rfl⟩
      have HGX := Lib.hid hg
      have HGB : Hid (B ≤ g) := hg ▸ hbB
      have HN1 : Hid (okAt G i = false → r = false) := fun h => by rw [HRB.out]; exact grpUp_no (by omega) h
      have HN2 : Hid (okAt G i = true → grpUp G (i + 1) = true) := fun h => by rw [grpUp_succ, HG.out, h]; rfl
      rw [HOK.out] at HN1 HN2
      clear hgi hbB hg
      generalize memB x = m at *
      generalize sharesB (G.take i) x = sh at *
      generalize x.kd = x0 at *
      generalize x.key = x1 at *
      generalize x.val = x2 at *
      generalize x.to_ = x3 at *
      generalize x.ga = x4 at *
      generalize x.gn = x5 at *
      generalize x.gc = x6 at *
      rcases m with _ | _
      case false =>
        obtain rfl := HN1.out rfl
        go_wp2_with (first
          | ((with_reducible show wpList _ _ _ (⟨some 4, .alloc _, _, _, _, _⟩ :: _) _ _); refine wpList_alloc_var (o := ⟨some 4, _, _, _, _, _⟩) rfl 31 rfl g HGX.out _ HZ.out ?_; intro v1 H1 B1)
          | ((with_reducible show wpList _ _ _ (⟨none, .store _ (.tmp 4) _, _, _, _, _⟩ :: _) _ _); refine wpList_store_whole (o := ⟨none, .store 31 (.tmp 4) (.tmp 19), _, _, _, _⟩) rfl _ _ _ rfl rfl g #[.int .i64 x0, .string x1, .string x2, .string x3, .slice x4 x5 x6] rfl rfl 31 _ H1.out size_call rfl (onesC _ _ _ _ _ _ _) ?_; intro v2 H2 B2)
          | fail)
        obtain ⟨p0, p1, p2, p3, p4⟩ := cells5 H2.out
        have HW2 : Hid (Below B w v2) := HW.out.trans ((B1.out.trans B2.out).mono HGB.out)
        have HL2 : Hid (g < v2.heap.size) := lt_of_heap H2.out
        clear c0 c1 c2 c3 c4
        first
          | (go_region_law
          (first
            | (refine step_skip (by rfl) ?_)
            | (go_simp; go_at_call 68; refine (HMX.out _).mono ?_; rintro e v3 ⟨rfl, b3⟩; have HW3 : Hid (Below B w v3) := (HW2.out.drew).trans (b3.mono (Nat.le_of_lt (Nat.lt_of_le_of_lt HGB.out HL2.out))); clear b3; dsimp only)))
          | fail
        all_goals
          go_wp2
          go_ret
          exact ⟨rfl, HW3.out⟩
      case true =>
        rcases sh with _ | _
        case false =>
          have HG2 := Lib.hid (HN2.out rfl)
          go_wp2_with (first
            | ((with_reducible show wpList _ _ _ (⟨some 4, .alloc _, _, _, _, _⟩ :: _) _ _); refine wpList_alloc_var (o := ⟨some 4, _, _, _, _, _⟩) rfl 31 rfl g HGX.out _ HZ.out ?_; intro v1 H1 B1)
            | ((with_reducible show wpList _ _ _ (⟨none, .store _ (.tmp 4) _, _, _, _, _⟩ :: _) _ _); refine wpList_store_whole (o := ⟨none, .store 31 (.tmp 4) (.tmp 19), _, _, _, _⟩) rfl _ _ _ rfl rfl g #[.int .i64 x0, .string x1, .string x2, .string x3, .slice x4 x5 x6] rfl rfl 31 _ H1.out size_call rfl (onesC _ _ _ _ _ _ _) ?_; intro v2 H2 B2)
            | fail)
          obtain ⟨p0, p1, p2, p3, p4⟩ := cells5 H2.out
          have HW2 : Hid (Below B w v2) := HW.out.trans ((B1.out.trans B2.out).mono HGB.out)
          have HL2 : Hid (g < v2.heap.size) := lt_of_heap H2.out
          clear c0 c1 c2 c3 c4
          go_region_held3 (fun w' => w'.cell? ⟨g, 0, none⟩ = some (.int .i64 x0) ∧ w'.cell? ⟨g, 1, none⟩ = some (.string x1) ∧ w'.cell? ⟨g, 2, none⟩ = some (.string x2) ∧ w'.cell? ⟨g, 3, none⟩ = some (.string x3) ∧ w'.cell? ⟨g, 4, none⟩ = some (.slice x4 x5 x6)) (go_keep)
            (first
              | (go_at_call 68; refine (HMX.out _).mono ?_; rintro e v3 ⟨rfl, b3⟩; have H3 := Lib.hid ((b3.block g HL2.out).trans H2.out); obtain ⟨q0, q1, q2, q3, q4⟩ := cells5 H3.out; have HW3 : Hid (Below B w v3) := (HW2.out.drew).trans (b3.mono (Nat.le_of_lt (Nat.lt_of_le_of_lt HGB.out HL2.out))); have HL3 : Hid (B ≤ v3.heap.size) := (Nat.le_trans (Nat.le_of_lt (Nat.lt_of_le_of_lt HGB.out HL2.out)) b3.size); clear b3)
              | (go_at_call 69; refine (HSX.out _ HW3.out).mono ?_; rintro e v4 ⟨rfl, b4⟩; have HW4 : Hid (Below B w v4) := HW3.out.trans (b4.mono HL3.out); have H4 := Lib.hid ((b4.block g (lt_of_heap H3.out)).trans H3.out); obtain ⟨r0, r1, r2, r3, r4⟩ := cells5 H4.out; clear b4))
          go_wp2
          go_roundg gk
          case measure => omega
          case rel => exact ⟨i + 1, by omega, by go_num, HW4.out, HG2⟩
        case true =>
          obtain rfl := HN1.out rfl
          go_wp2_with (first
            | ((with_reducible show wpList _ _ _ (⟨some 4, .alloc _, _, _, _, _⟩ :: _) _ _); refine wpList_alloc_var (o := ⟨some 4, _, _, _, _, _⟩) rfl 31 rfl g HGX.out _ HZ.out ?_; intro v1 H1 B1)
            | ((with_reducible show wpList _ _ _ (⟨none, .store _ (.tmp 4) _, _, _, _, _⟩ :: _) _ _); refine wpList_store_whole (o := ⟨none, .store 31 (.tmp 4) (.tmp 19), _, _, _, _⟩) rfl _ _ _ rfl rfl g #[.int .i64 x0, .string x1, .string x2, .string x3, .slice x4 x5 x6] rfl rfl 31 _ H1.out size_call rfl (onesC _ _ _ _ _ _ _) ?_; intro v2 H2 B2)
            | fail)
          obtain ⟨p0, p1, p2, p3, p4⟩ := cells5 H2.out
          have HW2 : Hid (Below B w v2) := HW.out.trans ((B1.out.trans B2.out).mono HGB.out)
          have HL2 : Hid (g < v2.heap.size) := lt_of_heap H2.out
          clear c0 c1 c2 c3 c4
          go_region_held3 (fun w' => w'.cell? ⟨g, 0, none⟩ = some (.int .i64 x0) ∧ w'.cell? ⟨g, 1, none⟩ = some (.string x1) ∧ w'.cell? ⟨g, 2, none⟩ = some (.string x2) ∧ w'.cell? ⟨g, 3, none⟩ = some (.string x3) ∧ w'.cell? ⟨g, 4, none⟩ = some (.slice x4 x5 x6)) (go_keep)
            (first
              | (go_at_call 68; refine (HMX.out _).mono ?_; rintro e v3 ⟨rfl, b3⟩; have H3 := Lib.hid ((b3.block g HL2.out).trans H2.out); obtain ⟨q0, q1, q2, q3, q4⟩ := cells5 H3.out; have HW3 : Hid (Below B w v3) := (HW2.out.drew).trans (b3.mono (Nat.le_of_lt (Nat.lt_of_le_of_lt HGB.out HL2.out))); have HL3 : Hid (B ≤ v3.heap.size) := (Nat.le_trans (Nat.le_of_lt (Nat.lt_of_le_of_lt HGB.out HL2.out)) b3.size); clear b3)
              | (go_at_call 69; refine (HSX.out _ HW3.out).mono ?_; rintro e v4 ⟨rfl, b4⟩; have HW4 : Hid (Below B w v4) := HW3.out.trans (b4.mono HL3.out); have H4 := Lib.hid ((b4.block g (lt_of_heap H3.out)).trans H3.out); obtain ⟨r0, r1, r2, r3, r4⟩ := cells5 H4.out; clear b4))
          go_wp2
          go_ret
          exact ⟨rfl, HW4.out⟩

end Go.Proofs.Ytpmgnhijiodbaaa
