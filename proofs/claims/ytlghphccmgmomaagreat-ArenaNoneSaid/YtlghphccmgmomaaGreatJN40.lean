/-
  Proved here, joined: OwnA16, CurA16
  Conditions: as each part says.
-/
import Derived.Test.YtlghphccmgmomaaGreatJN39
import Derived.Deep.RegionHeld3
import Derived.Laws.StructEq

/-
  Proved here: whether changes have their blocks to themselves, package arena.
  Conditions: at most 100,000 links, at most three changes.
-/
namespace Go.Proofs.YtlghphccmgmomaaGreat
open Go Go.RowKit
set_option maxRecDepth 100000

open Classical
/-! ### Blocks to themselves -/
def ownH (L : List Tk) (c : Ch) : Bool := (ofL L c.line).isSome && (ofL L c.line).getD 0 == c.cl
def linesH (G : List Ch) : List Int := (G.filter needH).map Ch.line
theorem linesH_succ {G : List Ch} {i : Nat} {c : Ch} (h : G[i]? = some c) : linesH (G.take (i + 1)) = if needH c then linesH (G.take i) ++ [c.line] else linesH (G.take i) := by
  unfold linesH
  rw [List.take_add_one, h]
  cases hc : needH c <;> simp [hc]
def okO (L : List Tk) (U : List Int) (G : List Ch) (i : Nat) : Bool := match G[i]? with
  | some c => !needH c || (ownH L c && !(U ++ linesH (G.take i)).any fun y => c.line == y)
  | none => true
def ownUp (L : List Tk) (U : List Int) (G : List Ch) (k : Nat) : Bool := (List.range k).all (okO L U G)
theorem okO_some {L : List Tk} {U : List Int} {G : List Ch} {i : Nat} {c : Ch} (h : G[i]? = some c) : okO L U G i = (!needH c || (ownH L c && !(U ++ linesH (G.take i)).any fun y => c.line == y)) := by
  unfold okO
  rw [h]
theorem ownUp_succ (L : List Tk) (U : List Int) (G : List Ch) (k : Nat) : ownUp L U G (k + 1) = (ownUp L U G k && okO L U G k) := by
  unfold ownUp
  rw [List.range_succ, List.all_append]
  simp
theorem ownUp_no {L : List Tk} {U : List Int} {G : List Ch} {i n : Nat} (hi : i < n) (h : okO L U G i = false) : ownUp L U G n = false := by
  unfold ownUp
  rw [List.all_eq_false]
  exact ⟨i, List.mem_range.2 hi, by rw [h]; simp⟩
section
variable {b : Nat} {w w' : World} {col : Nat → Nat} {z : Pz} {s : Az}
theorem usedL_len (hT : s.T.length ≤ 100000) (hQ : s.Q.length ≤ 100000) (hM : s.B.length ≤ 258) : (usedL s).length ≤ 201000 := by
  unfold usedL usedT
  rw [List.length_map, List.length_append, List.length_append]
  have h1 : (livT (s.T ++ s.Q)).length = s.T.length + s.Q.length := by unfold livT; rw [List.length_map, List.length_append]
  have h2 : (limT s.B).length = s.B.length := by unfold limT; rw [List.length_map]
  have h3 : (antT s.B).length ≤ s.B.length := by unfold antT; rw [List.length_map]; exact List.length_filter_le _ _
  omega
theorem linesH_len (G : List Ch) : (linesH G).length ≤ G.length := by
  unfold linesH
  rw [List.length_map]
  exact List.length_filter_le _ _
set_option maxHeartbeats 3200000 in
theorem ownblocks_any (h : Ar b w col z s) (hT : s.T.length ≤ 100000) (hQ : s.Q.length ≤ 100000) (A : Option Addr) (G : List Ch) (n cap : Nat) (hn : G.length = n) (hr : RH.Row w A G) (hn3 : n ≤ 3) :
    Calls Tryz.prog 23 #[.pointer (some ⟨z.ap, 0, none⟩), .slice A n cap] w fun e w' => e = .returned (.bool (ownUp s.L (usedL s) G n)) ∧ Below w.heap.size w w' := by
  have hUL := usedL_len hT hQ h.bg.most
  have HUS := Lib.hid (used_any h hT hQ)
  obtain ⟨r, hrb⟩ : ∃ r, ownUp s.L (usedL s) G n = r := ⟨_, rfl⟩
  have HRB : Hid (r = ownUp s.L (usedL s) G n) := hrb.symm
  rw [hrb]
  obtain ⟨B, hB⟩ : ∃ B, w.heap.size = B := ⟨_, rfl⟩
  have HOF : Hid (∀ W, Below B w W → ∀ x : Int, Calls Tryz.prog 56 #[.pointer (some ⟨z.pp, 0, none⟩), .int .i64 x] W fun e w' => e = .returned (.tuple #[.int .i64 ((ofL s.L x).getD 0), .bool (ofL s.L x).isSome]) ∧ ∃ m, w' = W.drewN m) := fun W hW x => of_any (h.below (hB.symm ▸ hW)).pl x
  have HAP : Hid (∀ W, Below B w W → W.cell? ⟨z.ap, 4, none⟩ = some (.pointer (some ⟨z.pp, 0, none⟩)) ∧ z.ap < B) := fun W hW => by
    obtain ⟨-, a4, -⟩ := (h.below (hB.symm ▸ hW)).at_
    obtain ⟨on, hm⟩ := h.me
    exact ⟨a4, hB ▸ lt_of_heap hm⟩
  rw [hB]
  have HR := Lib.hid hr
  have HN := Lib.hid hn
  have HBS := Lib.hid hB
  have HZ := Lib.hid zero_ch
  have HUL : Hid ((usedL s).length ≤ 201000) := hUL
  generalize usedL s = U at *
  generalize s.L = L at *
  generalize z.ap = ap at *
  generalize z.pp = pp at *
  clear h hT hQ hr hn hB hrb hUL
  go_enter Tryz.func23, Tryz.ntmps23
  go_wp2_with fail
  refine HUS.out.mono ?_
  rintro e w1 ⟨V0, rfl, o1, b1⟩
  rw [HBS.out] at o1 b1
  have HO1 := Lib.hid o1
  have HB1 := Lib.hid b1
  clear o1 b1 HUS
  go_wp2
  go_loopg [14, 5] n (fun gk s14 s5 wx => ∃ (i : Nat) (V : Value), i + gk = n ∧ s14 = .int .i64 i ∧ V = s5 ∧ Hid (wx.ownsRow B 3 1 V (U ++ linesH (G.take i)).length (encI (U ++ linesH (G.take i)))) ∧ Hid (Below B w wx) ∧ Hid (ownUp L U G i = true))
  case atStart => exact ⟨0, _, by omega, rfl, rfl, by show World.ownsRow _ _ _ _ _ _ _; simpa [linesH] using HO1.out, HB1.out, rfl⟩
  case round =>
    obtain ⟨i, V, hig, rfl, rfl, HO, HW, HG⟩ := hrel
    cases gk with
    | zero =>
      obtain rfl : i = n := by omega
      have hii : ¬ (i : Int) < (i : Int) := by omega
      obtain rfl : r = true := by rw [HRB.out, HG.out]
      go_wp2
      go_ret
      exact ⟨rfl, HW.out⟩
    | succ gk =>
      have hii : (i : Int) < (n : Int) := by omega
      have hi0 : (0 : Int) ≤ (i : Int) := by omega
      have hgi := List.getElem?_eq_getElem (show i < G.length by have := HN.out; omega)
      generalize G[i]'(by have := HN.out; omega) = x at *
      obtain ⟨b', off', rfl, -, c0, c1, c2, c3, c4, c5, c6, c7, c8, c9, c10⟩ := chAt (HR.out.below (HBS.out.symm ▸ HW.out)) hgi
      have HNX := Lib.hid (fun w1 => need_any16 x w1)
      have HOX := Lib.hid (fun W hW => HOF.out W hW x.line)
      have HOK : Hid (okO L U G i = (!needH x || (ownH L x && !(U ++ linesH (G.take i)).any fun y => x.line == y))) := okO_some hgi
      have hbB : B ≤ wr.heap.size := by have := HW.out.size; have := HBS.out; omega
      obtain ⟨g, hg⟩ : ∃ g, wr.heap.size = g := ⟨_, rfl⟩
      have HGX := Lib.hid hg
      have HGB : Hid (B ≤ g) := hg ▸ hbB
      have HN1 : Hid (okO L U G i = false → r = false) := fun h => by rw [HRB.out]; exact ownUp_no (by omega) h
      have HN2 : Hid (okO L U G i = true → ownUp L U G (i + 1) = true) := fun h => by rw [ownUp_succ, HG.out, h]; rfl
      have HLN : Hid (U ++ linesH (G.take (i + 1)) = if needH x then U ++ linesH (G.take i) ++ [x.line] else U ++ linesH (G.take i)) := by
        show _ = _
        rw [linesH_succ hgi]
        split
        · rw [List.append_assoc]
        · rfl
      have HUL2 : Hid ((U ++ linesH (G.take i)).length ≤ 201003) := by
        have := HUL.out
        have := linesH_len (G.take i)
        have := List.length_take_le i G
        show _ ≤ _
        rw [List.length_append]
        omega
      rw [HOK.out] at HN1 HN2
      unfold ownH at HN1 HN2
      generalize U ++ linesH (G.take i) = Y at *
      clear hgi hbB hg HOK
      generalize needH x = m at *
      generalize x.kd = x0 at *
      generalize x.key = x1 at *
      generalize x.val = x2 at *
      generalize x.had = x3 at *
      generalize x.old.str = x4 at *
      generalize (x.old.id : Int) = x5 at *
      generalize (x.old.ver : Int) = x6 at *
      generalize x.old.line = x7 at *
      generalize x.old.cl = x8 at *
      generalize x.line = x9 at *
      generalize x.cl = x10 at *
      go_wp2_with (first
        | ((with_reducible show wpList _ _ _ (⟨some 7, .alloc _, _, _, _, _⟩ :: _) _ _); refine wpList_alloc_var (o := ⟨some 7, _, _, _, _, _⟩) rfl 31 rfl g HGX.out _ HZ.out ?_; intro v1 H1 B1)
        | ((with_reducible show wpList _ _ _ (⟨none, .store _ (.tmp 7) _, _, _, _, _⟩ :: _) _ _); refine wpList_store_whole (o := ⟨none, .store 31 (.tmp 7) (.tmp 17), _, _, _, _⟩) rfl _ _ _ rfl rfl g #[.int .i64 x0, .string x1, .string x2, .bool x3, .string x4, .int .u64 x5, .int .u64 x6, .int .i64 x7, .int .i64 x8, .int .i64 x9, .int .i64 x10] rfl rfl 31 _ H1.out size_ch rfl (onesCh _ _ _ _ _ _ _ _ _ _ _) ?_; intro v2 H2 B2; obtain ⟨p0, p1, p2, p3, p4, p5, p6, p7, p8, p9, p10⟩ := cells11 H2.out; have HB2 : Hid (Below g wr v2) := B1.out.trans B2.out; have HW2 : Hid (Below B w v2) := HW.out.trans (HB2.out.mono HGB.out); have HL2 : Hid (g < v2.heap.size) := lt_of_heap H2.out; clear c0 c1 c2 c3 c4 c5 c6 c7 c8 c9 c10)
        | fail)
      refine (HNX.out _).mono ?_
      rintro e v3 ⟨rfl, b3⟩
      clear p0 p1 p2 p3 p4 p5 p6 p7 p8 p9 p10
      have HL23 : Hid (B ≤ v2.heap.size) := Nat.le_of_lt (Nat.lt_of_le_of_lt HGB.out HL2.out)
      have HW3 : Hid (Below B w v3) := HW2.out.trans (b3.mono HL23.out)
      have H3 := Lib.hid ((b3.block g HL2.out).trans H2.out)
      have HL3 : Hid (g < v3.heap.size) := lt_of_heap H3.out
      have HO3 := Lib.hid (own_keep (own_keep HO.out (HGX.out.symm ▸ HB2.out)) b3)
      have HLB3 : Hid (B ≤ v3.heap.size) := Nat.le_of_lt (Nat.lt_of_le_of_lt HGB.out HL3.out)
      obtain ⟨p0, p1, p2, p3, p4, p5, p6, p7, p8, p9, p10⟩ := cells11 H3.out
      clear b3
      cases m with
      | false =>
        have HG2 := Lib.hid (HN2.out rfl)
        have HO4 : Hid (v3.ownsRow B 3 1 V (U ++ linesH (G.take (i + 1))).length (encI (U ++ linesH (G.take (i + 1))))) := by rw [HLN.out]; exact HO3.out
        go_wp2
        go_roundg gk
        case measure => omega
        case rel => exact ⟨i + 1, V, by omega, by go_num, rfl, HO4, HW3, HG2⟩
      | true =>
        obtain ⟨k4, hapB⟩ := HAP.out v3 HW3.out
        have HAPB : Hid (ap < B) := hapB
        go_upto_region 6 with fail
        go_region_held3 (fun w' => w'.cell? ⟨ap, 4, none⟩ = some (.pointer (some ⟨pp, 0, none⟩)) ∧ w'.cell? ⟨g, 9, none⟩ = some (.int .i64 x9)) (go_keep)
          (first
            | (go_at_call 56; refine (HOX.out _ HW3.out.drew).mono ?_; rintro e v4 ⟨rfl, m4, hv4⟩))
        clear hv4
        obtain ⟨v5, hv5⟩ : ∃ W, v3.drewN (1 + m4) = W := ⟨_, rfl⟩
        rw [hv5]
        have H5 : Hid (v5.heap[g]? = some (.cells #[.int .i64 x0, .string x1, .string x2, .bool x3, .string x4, .int .u64 x5, .int .u64 x6, .int .i64 x7, .int .i64 x8, .int .i64 x9, .int .i64 x10] 31 (0, 0))) := by rw [← hv5]; exact H3.out
        have HB5 : Hid (Below v3.heap.size v3 v5) := by rw [← hv5]; exact below_drewN (Below.refl _ _) _
        have HW5 : Hid (Below B w v5) := HW3.out.trans (HB5.out.mono HLB3.out)
        have HO5 := Lib.hid (own_keep HO3.out HB5.out)
        have HLB5 : Hid (B ≤ v5.heap.size) := Nat.le_trans HLB3.out HB5.out.size
        obtain ⟨A5, c5', rfl, hr5, -, -⟩ := rowI_of_own HO5.out (by have := HUL2.out; omega)
        have HCN := Lib.hid (contI_any v5 A5 Y _ c5' rfl hr5 x9)
        clear p0 p1 p2 p3 p4 p5 p6 p7 p8 p9 p10 hv5 hr5 k4
        obtain ⟨p0, p1, p2, p3, p4, p5, p6, p7, p8, p9, p10⟩ := cells11 H5.out
        obtain ⟨u, hu⟩ : ∃ u, (Y.any fun y => x9 == y) = u := ⟨_, rfl⟩
        obtain ⟨q, hq⟩ : ∃ q, (ofL L x9).isSome = q := ⟨_, rfl⟩
        obtain ⟨d, hd⟩ : ∃ d, (ofL L x9).getD 0 = d := ⟨_, rfl⟩
        rw [hu] at HN1 HN2 HCN
        rw [hq, hd] at HN1 HN2
        rw [hq, hd]
        clear hu hq hd HOX
        cases q with
        | false =>
          obtain rfl := HN1.out rfl
          go_wp2
          go_ret
          exact ⟨rfl, HW5.out⟩
        | true =>
          cases he : (d == x10) with
          | false =>
            rw [he] at HN1
            obtain rfl := HN1.out rfl
            have hun : (d != x10) = true := by rw [bne, he]; rfl
            go_wp2
            go_ret
            exact ⟨rfl, HW5.out⟩
          | true =>
            rw [he] at HN1 HN2
            have hun : (d != x10) = false := by rw [bne, he]; rfl
            go_wp2_with fail
            refine HCN.out.mono ?_
            rintro e v7 ⟨rfl, b7⟩
            clear p0 p1 p2 p3 p4 p5 p6 p7 p8 p9 p10
            have HW7 : Hid (Below B w v7) := HW5.out.trans (b7.mono HLB5.out)
            have H7 := Lib.hid ((b7.block g (lt_of_heap H5.out)).trans H5.out)
            have HO7 := Lib.hid (own_keep HO5.out b7)
            have HLB7 : Hid (B ≤ v7.heap.size) := Nat.le_trans HLB5.out b7.size
            clear b7 HCN
            obtain ⟨p0, p1, p2, p3, p4, p5, p6, p7, p8, p9, p10⟩ := cells11 H7.out
            cases u with
            | true =>
              obtain rfl := HN1.out rfl
              go_wp2
              go_ret
              exact ⟨rfl, HW7.out⟩
            | false =>
              have HG2 := Lib.hid (HN2.out rfl)
              obtain ⟨V6, v8, hrun, ho8, hb8⟩ := run_appI_one v7 B _ _ x9 HO7.out (by have := HUL2.out; omega) HLB7.out
              have HRUN := Lib.hid hrun
              have HO8 : Hid (v8.ownsRow B 3 1 V6 (U ++ linesH (G.take (i + 1))).length (encI (U ++ linesH (G.take (i + 1))))) := by
                have e1 : U ++ linesH (G.take (i + 1)) = Y ++ [x9] := by rw [HLN.out]; simp
                rw [e1, List.length_append]
                exact ho8
              have HW8 : Hid (Below B w v8) := HW7.out.trans hb8
              clear hrun ho8 hb8
              go_wp2_with (first
                | (at_builtin; refine wpList_app rfl (.tmp 45) (.tmp 48) 120 rfl rfl rfl HRUN.out ?_)
                | fail)
              go_roundg gk
              case measure => omega
              case rel => exact ⟨i + 1, V6, by omega, by go_num, rfl, HO8, HW8, HG2⟩
end

end Go.Proofs.YtlghphccmgmomaaGreat

/-
  Proved here: two links compared; the first link of the line.
  Conditions: none.
-/
namespace Go.Proofs.YtlghphccmgmomaaGreat
open Go Go.RowKit
set_option maxRecDepth 100000

open Classical
/-! ### Two links compared -/
theorem eq_link (a0 b0 : ByteArray) (a1 a2 a3 a4 b1 b2 b3 b4 : Int) (w : World) : (Op.equalIn 10000 29 (.agg #[.string a0, .int .u64 a1, .int .u64 a2, .int .i64 a3, .int .i64 a4]) (.agg #[.string b0, .int .u64 b1, .int .u64 b2, .int .i64 b3, .int .i64 b4])).run Tryz.prog w = .ok (a0.toList == b0.toList && (a1 == b1 && (a2 == b2 && (a3 == b3 && a4 == b4)))) w := by
  cases h0 : (a0.toList == b0.toList) <;> cases h1 : (a1 == b1) <;> cases h2 : (a2 == b2) <;> cases h3 : (a3 == b3) <;> cases h4 : (a4 == b4)
  all_goals
    simp [go_sem, h0, h1, h2, h3, h4]
theorem tol_inj {a b : ByteArray} (h : a.toList = b.toList) : a = b := by
  rw [ByteArray.toList_eq, ByteArray.toList_eq] at h
  obtain ⟨⟨x⟩⟩ := a
  obtain ⟨⟨y⟩⟩ := b
  simp only at h
  rw [h]
def eqLn (x y : Ln) : Bool := x.str.toList == y.str.toList && (((x.id : Nat) : Int) == (y.id : Nat) && (((x.ver : Nat) : Int) == (y.ver : Nat) && (x.line == y.line && x.cl == y.cl)))
theorem eqLn_iff (x y : Ln) : eqLn x y = true ↔ x = y := by
  unfold eqLn
  simp only [Bool.and_eq_true, beq_iff_eq]
  constructor
  · rintro ⟨h1, h2, h3, h4, h5⟩
    have h1 := tol_inj h1
    obtain ⟨k, i, v, l, c⟩ := x
    obtain ⟨k', i', v', l', c'⟩ := y
    simp only [Ln.str, ByteArray.mk.injEq] at h1
    simp only at h2 h3 h4 h5
    rw [show k = k' by simpa using h1, show i = i' by omega, show v = v' by omega, h4, h5]
  · rintro rfl
    exact ⟨rfl, rfl, rfl, rfl, rfl⟩
/-! ### The first link of the line, nothing changed -/
set_option maxHeartbeats 1600000 in
theorem fihead_below {w : World} {p f : Nat} {v : Value} {P L : List Ln} (h : Fi w p v f P L) :
    Calls Tryz.prog 53 #[.pointer (some ⟨p, 0, none⟩)] w fun e w' => e = .returned (hdV L) ∧ Below w.heap.size w w' := by
  obtain ⟨g, hg⟩ : ∃ g, w.heap.size = g := ⟨_, rfl⟩
  have HG := Lib.hid hg
  have HZ := Lib.hid zero_link
  obtain ⟨y, b, hyb⟩ : ∃ (y : Ln) (b : Bool), hdV L = .tuple #[y.agg, .bool b] := ⟨_, _, rfl⟩
  have HYB := Lib.hid hyb
  have HEB : Hid (∀ (w' : World) (g : Nat), w'.heap[g]? = some (.cells #[.string y.str, .int .u64 (y.id : Nat), .int .u64 (y.ver : Nat), .int .i64 y.line, .int .i64 y.cl] 29 (0, 0)) → LBox w' g y) := fun w' g h => h
  have HH : Hid (∀ w2, Below g w w2 → Calls Tryz.prog 100 #[.pointer (some ⟨p, 0, none⟩)] w2 fun e w' => e = .returned (.tuple #[.agg #[.string y.str, .int .u64 (y.id : Nat), .int .u64 (y.ver : Nat), .int .i64 y.line, .int .i64 y.cl], .bool b]) ∧ Below w2.heap.size w2 w') := fun w2 hb => by
    have h2 := h.below (hg.symm ▸ hb)
    refine (rhead_any h2).mono ?_
    rintro e w' ⟨rfl, hb⟩
    exact ⟨by rw [hyb]; rfl, hb⟩
  clear h hyb
  rw [hg]
  go_enter Tryz.func53, Tryz.ntmps53
  go_wp2_with (first
    | ((with_reducible show wpList _ _ _ (⟨some 2, .alloc _, _, _, _, _⟩ :: _) _ _); refine wpList_alloc_var (o := ⟨some 2, _, _, _, _, _⟩) rfl 29 rfl g HG.out _ HZ.out ?_; intro w2 H2 B2)
    | fail)
  refine (HH.out w2 B2.out).mono ?_
  rintro e w3 ⟨rfl, hb3⟩
  have HB3 : Hid (Below g w w3) := B2.out.trans (hb3.mono (Nat.le_of_lt (lt_of_heap H2.out)))
  have H3 := Lib.hid ((hb3.block g (lt_of_heap H2.out)).trans H2.out)
  clear hb3
  go_wp2_with (first
    | ((with_reducible show wpList _ _ _ (⟨none, .store _ (.tmp 2) _, _, _, _, _⟩ :: _) _ _); refine wpList_store_whole (o := ⟨none, .store 29 (.tmp 2) (.tmp 11), _, _, _, _⟩) rfl _ _ _ rfl rfl g #[.string y.str, .int .u64 (y.id : Nat), .int .u64 (y.ver : Nat), .int .i64 y.line, .int .i64 y.cl] rfl rfl 29 _ H3.out size_link rfl (onesL _ _ _ _ _) ?_; intro w5 H5 B5)
    | fail)
  refine bodyPost_ret (results_l2 rfl rfl rfl (HEB.out _ _ H5.out)) rfl ?_
  rw [HYB.out]
  exact ⟨rfl, HB3.out.trans B5.out⟩

end Go.Proofs.YtlghphccmgmomaaGreat
