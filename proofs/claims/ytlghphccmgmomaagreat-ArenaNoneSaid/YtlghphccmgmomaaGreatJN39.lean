/-
  Proved here, joined: CatA16, UsedA16, ContA16
  Conditions: as each part says.
-/
import Derived.Test.YtlghphccmgmomaaGreatJN38
import Derived.Lib.AppendZeros

/-
  Proved here: slices.Grow and slices.Concat at blocks.
  Conditions: rows of at most 2^20 elements.
-/
namespace Go.Proofs.YtlghphccmgmomaaGreat
open Go Go.RowKit
set_option maxRecDepth 100000

open Classical
theorem run_growT (w : World) (k : Nat) (hk : 0 < k) (hs : k ≤ 1048576) (ty : TypeId) : ∃ G w', (Builtin.append_ #[62, 3] ty #[.slice none 0 0, .int .i64 (k : Nat)]).run Tryz.prog w = .ok (.slice (some ⟨w.heap.size, 0, none⟩) k G) w' ∧
    w'.ownsRow w.heap.size RT.tE RT.k (.slice (some ⟨w.heap.size, 0, none⟩) 0 G) 0 (RT.enc []) ∧ k ≤ G ∧ G ≤ maxLen ∧ Below w.heap.size w w' := by
  obtain ⟨inf, hinf, hz, hs5, hby⟩ := RT.info
  have hfit : k * inf.bytes ≤ 140737488355328 := by rw [hby]; exact RT.fits hs
  have h := Lib.run_append_nil_zeros (P := Tryz.prog) w 62 3 ty 179 inf RT.zv .i64 .i64 Tryz.underlying62 Tryz.underlying3 hinf hz k hk (by rw [hs5]; exact RT.hk) (by omega) (by omega)
  have hGn : k ≤ grownCap w k 0 179 := grownCap_ge w _ _ _
  have hGm : grownCap w k 0 179 ≤ maxLen := grownCap_le_maxLen w k 0 _ (by unfold maxLen; omega)
  generalize grownCap w k 0 179 = G at *
  refine ⟨G, _, h, ?_, hGn, hGm, (Below.refl _ _).drew.alloc (Nat.le_refl _) _⟩
  refine RT.block_own (heap_alloc_new w.drew _) (Nat.zero_le _) hGm ?_ ?_ (Nat.le_refl _)
  · have h2 : RT.zv.cells.size = RT.k := RT.zk
    rw [Array.size_append, size_zeroCells, size_zeroCells, h2, ← Nat.add_mul]
    congr 1
    omega
  · simp [RT.enc_nil]
theorem wpList_appz {P : Program} {ops : Array Oper} {rest : List Oper} {o : Oper} {a : Act} {Q : Exit → Act → World → Prop} (hgd : o.guard = none) (s x : Operand) (t u : TypeId)
    (ho : o.op = .call { callee := .builtin .append, args := #[s, x], argTypes := #[t, u] }) {w w' : World} {v V v' : Value} (hs : a.eval s = v) (hx : a.eval x = V)
    (hrun : (Builtin.append_ #[t, u] o.type #[v, V]).run P w = .ok v' w') (h : wpList P ops Q rest (a.put o.dst v') w') : wpList P ops Q (o :: rest) a w :=
  wpList_plain hgd fun _ hK => by
    unfold Oper.wp execOp
    simp only [ho, resolve, invoke, builtin, Sem.run_bind, Sem.run_pure, Result.andThen_ok, List.map_toArray, List.map_cons, List.map_nil, hs, hx, hrun]
    exact hK _ _ h
set_option maxHeartbeats 800000 in
theorem growT_any (w : World) (k : Nat) (hs : k ≤ 1048576) : Calls Tryz.prog 148 #[.slice none 0 0, .int .i64 (k : Nat)] w (TkTo w []) := by
  rcases Nat.eq_zero_or_pos k with rfl | h0
  · go_enter Tryz.func148, Tryz.ntmps148
    go_wp2
    go_ret
    exact ⟨_, rfl, World.ownsRow_nil _ _ _ _, Below.refl _ _⟩
  · obtain ⟨G, w1, hrun, ho, hkG, hG, hb⟩ := run_growT w k h0 hs 62
    have HRUN := Lib.hid hrun
    have HO := Lib.hid ho
    have HB := Lib.hid hb
    have h1 : ¬ (k : Int) < 0 := by omega
    have h2 : (k : Int) > 0 := by omega
    have h3 : (0 : Int) ≤ (k : Int) := by omega
    clear hrun ho hb
    go_enter Tryz.func148, Tryz.ntmps148
    go_wp2_with (first
      | (at_builtin; refine wpList_appz rfl (.tmp 20) (.tmp 21) 62 3 rfl rfl rfl HRUN.out ?_)
      | fail)
    go_ret
    exact ⟨_, rfl, HO.out, HB.out⟩
/-- The rows of the first i of a row of slices, one behind the other. -/
def catF (F : Nat → List Tk) (i : Nat) : List Tk := (List.range i).flatMap F
theorem catF_succ (F : Nat → List Tk) (i : Nat) : catF F (i + 1) = catF F i ++ F i := by
  unfold catF
  rw [List.range_succ, List.flatMap_append]
  simp
theorem catF_le (F : Nat → List Tk) {i n : Nat} (h : i ≤ n) : (catF F i).length ≤ (catF F n).length := by
  induction n with
  | zero => rw [Nat.le_zero.1 h]; exact Nat.le_refl _
  | succ n ih =>
    rcases Nat.lt_or_ge i (n + 1) with h1 | h1
    · have := ih (by omega)
      rw [catF_succ, List.length_append]
      omega
    · rw [show i = n + 1 by omega]
      exact Nat.le_refl _
set_option maxHeartbeats 3200000 in
theorem concat_any (w : World) (b off n cap : Nat) (hn : n ≤ 1048576) (F : Nat → List Tk) (A : Nat → Option Addr) (c : Nat → Nat) (hb : b < w.heap.size) (hcell : ∀ i, i < n → w.cell? ⟨b, off + i, none⟩ = some (.slice (A i) (F i).length (c i))) (hrow : ∀ i, i < n → RT.Row w (A i) (F i)) (hA : ∀ i, i < n → A i = none → c i = 0) (hs : (catF F n).length ≤ 1048576) :
    Calls Tryz.prog 101 #[.slice (some ⟨b, off, none⟩) n cap] w (TkTo w (catF F n)) := by
  obtain ⟨B, hB⟩ : ∃ B, w.heap.size = B := ⟨_, rfl⟩
  obtain ⟨R, hR⟩ : ∃ R, TkTo w (catF F n) = R := ⟨_, rfl⟩
  have HFIN : Hid (∀ v W, W.ownsRow B RT.tE RT.k v (catF F n).length (RT.enc (catF F n)) → Below B w W → R (.returned v) W) := fun v W h1 h2 => by
    rw [← hR]
    exact ⟨v, rfl, by rw [hB]; exact h1, hB ▸ h2⟩
  rw [hR]
  have HC : Hid (∀ (W : World) i, Below B w W → i < n → W.cell? ⟨b, off + i, none⟩ = some (.slice (A i) (F i).length (c i))) := fun W i hW hi => by
    rw [← hcell i hi]
    have := hW.block b (hB ▸ hb)
    simp [World.cell?, this]
  have HR : Hid (∀ (W : World) i, Below B w W → i < n → RT.Row W (A i) (F i)) := fun W i hW hi => (hrow i hi).below (hB.symm ▸ hW)
  have HA := Lib.hid hA
  have HS := Lib.hid hs
  have HBS := Lib.hid hB
  have HN : Hid (n ≤ 1048576) := hn
  clear hb hcell hrow hA hs hB hR
  go_enter Tryz.func101, Tryz.ntmps101
  go_wp2
  go_loopg [11, 3] n (fun gk s11 s3 wx => ∃ i : Nat, i + gk = n ∧ s11 = .int .i64 i ∧ s3 = .int .i64 ((catF F i).length : Nat) ∧ Hid (Below B w wx))
  case atStart => exact ⟨0, by omega, rfl, rfl, Below.refl _ _⟩
  case round =>
    obtain ⟨i, hig, rfl, rfl, HW⟩ := hrel
    cases gk with
    | succ gk =>
      have hii : (i : Int) < (n : Int) := by omega
      have hi0 : (0 : Int) ≤ (i : Int) := by omega
      have hc0 := HC.out wr i HW.out (by omega)
      have hle := Nat.le_trans (catF_le F (show i + 1 ≤ n by omega)) HS.out
      have HCS := Lib.hid (catF_succ F i)
      rw [HCS.out, List.length_append] at hle
      have hng : ¬ (((catF F i).length : Int) + ((F i).length : Int) < 0) := by omega
      have HLE := Lib.hid hle
      generalize A i = Ai at *
      generalize c i = ci at *
      obtain ⟨m, hm⟩ : ∃ m, (F i).length = m := ⟨_, rfl⟩
      have HM := Lib.hid hm
      rw [hm] at hc0 hng hle
      have HQ : Hid ((catF F (i + 1)).length = (catF F i).length + m) := by show _ = _; rw [HCS.out, List.length_append, hm]
      obtain ⟨q, hq⟩ : ∃ q, (catF F i).length = q := ⟨_, rfl⟩
      rw [hq] at HQ hng hle
      rw [hq]
      clear hm hq
      go_wp2
      go_roundg gk
      case measure => omega
      case rel => exact ⟨i + 1, by omega, by go_num, by rw [HQ.out]; go_num, HW.out⟩
    | zero =>
      obtain rfl : i = n := by omega
      have hii : ¬ (i : Int) < (i : Int) := by omega
      have HGR := Lib.hid (growT_any wr (catF F i).length HS.out)
      go_wp2_with fail
      refine HGR.out.mono ?_
      rintro e w1 ⟨V0, rfl, hO0, hB1⟩
      have HBW : Hid (B ≤ wr.heap.size) := HBS.out ▸ HW.out.size
      have HO0 : Hid (w1.ownsRow B RT.tE RT.k V0 0 (RT.enc [])) := own_mono hO0 HBW.out
      have HW1 : Hid (Below B w w1) := HW.out.trans (hB1.mono HBW.out)
      clear hO0 hB1 HGR hii
      go_wp2
      go_loopg [27, 6] i (fun gk s27 s6 wx => ∃ (j : Nat) (V : Value), j + gk = i ∧ s27 = .int .i64 j ∧ V = s6 ∧ Hid (wx.ownsRow B RT.tE RT.k V (catF F j).length (RT.enc (catF F j))) ∧ Hid (Below B w wx))
      case atStart => exact ⟨0, _, by omega, rfl, rfl, HO0.out, HW1.out⟩
      case round =>
        obtain ⟨j, V, hjg, rfl, rfl, HO, HW2⟩ := hrel
        cases gk with
        | zero =>
          obtain rfl : j = i := by omega
          have hii : ¬ (j : Int) < (j : Int) := by omega
          go_wp2
          exact HFIN.out _ _ HO.out HW2.out
        | succ gk =>
          have hii : (j : Int) < (i : Int) := by omega
          have hi0 : (0 : Int) ≤ (j : Int) := by omega
          have hc0 := HC.out wr j HW2.out (by omega)
          have hr0 := HR.out wr j HW2.out (by omega)
          have hA0 := HA.out j (by omega)
          have hle := Nat.le_trans (catF_le F (show j + 1 ≤ i by omega)) HS.out
          have HCS := Lib.hid (catF_succ F j)
          rw [HCS.out, List.length_append] at hle
          obtain ⟨v', w', hrun, ho', hg', -, -⟩ := RT.run_app wr B _ V (catF F j) HO.out (A j) (F j).length (c j) (F j) rfl hr0 hA0 hle (HBS.out ▸ HW2.out.size) 62
          have HRUN := Lib.hid hrun
          have HO2 : Hid (w'.ownsRow B RT.tE RT.k v' (catF F (j + 1)).length (RT.enc (catF F (j + 1)))) := by rw [HCS.out, List.length_append]; exact ho'
          have HW3 : Hid (Below B w w') := HW2.out.grown hg' (HBS.out ▸ HW2.out.size) (fun k hk => own_ge HO.out k hk)
          clear hr0 hA0 hle hrun ho' hg'
          generalize A j = Aj at *
          generalize c j = cj at *
          generalize (F j).length = m at *
          go_wp2_with (first
            | (at_builtin; refine wpList_app rfl (.tmp 31) (.tmp 32) 62 rfl rfl rfl HRUN.out ?_)
            | fail)
          go_roundg gk
          case measure => omega
          case rel => exact ⟨j + 1, v', by omega, by go_num, rfl, HO2.out, HW3.out⟩

end Go.Proofs.YtlghphccmgmomaaGreat

/-
  Proved here: the lines of the blocks that no call may write any more, package arena.
  Conditions: at most 100,000 links.
-/
namespace Go.Proofs.YtlghphccmgmomaaGreat
open Go Go.RowKit
set_option maxRecDepth 100000

open Classical
section
variable {b : Nat} {w w' : World} {col : Nat → Nat} {z : Pz} {s : Az}
/-- The lines of the blocks that no call may write any more. -/
def usedT (s : Az) : List Tk := livT (s.T ++ s.Q) ++ limT s.B ++ antT s.B
def usedL (s : Az) : List Int := (usedT s).map (·.1)
def InTo (w : World) (l : List Int) (e : Ending) (w' : World) : Prop := ∃ v, e = .returned v ∧ w'.ownsRow w.heap.size 3 1 v l.length (encI l) ∧ Below w.heap.size w w'
def three {α : Type} (a b c : α) (i : Nat) : α := if i = 0 then a else if i = 1 then b else c
theorem catF_three (a b c : List Tk) : catF (three a b c) 3 = a ++ b ++ c := by
  rw [catF_succ, catF_succ, catF_succ]
  rfl
theorem zero_taken : (Tryz.prog.info? 179).bind (·.zero) = some (.agg #[.int .i64 0, .int .i64 0]) := by
  obtain ⟨i, h1, h2, _⟩ := RT.info
  have : Tryz.prog.info? 179 = some i := h1
  rw [this]
  exact h2
theorem size_taken : (Tryz.prog.info? 179).map (·.size) = some 2 := by
  obtain ⟨i, h1, _, h2, _⟩ := RT.info
  have : Tryz.prog.info? 179 = some i := h1
  rw [this]
  exact congrArg some h2
theorem onesT (a b : Int) : (#[.int .i64 a, .int .i64 b] : Array Value).all (·.oneCell') = true := all_oneCell_toArray (cs := [.int .i64 a, .int .i64 b]) (fun u hu => by
  simp only [List.mem_cons, List.not_mem_nil, or_false] at hu
  rcases hu with rfl | rfl <;> rfl)
theorem cellsT {w : World} {g : Nat} {T : TypeId} {a b : Value} (h : w.heap[g]? = some (.cells #[a, b] T (0, 0))) : w.cell? ⟨g, 0, none⟩ = some a ∧ w.cell? ⟨g, 1, none⟩ = some b := by
  refine ⟨?_, ?_⟩ <;> simp [World.cell?, h]
theorem tkAt {w : World} {A : Option Addr} {l : List Tk} (h : RT.Row w A l) {i : Nat} {t : Tk} (hi : l[i]? = some t) : ∃ b off, A = some ⟨b, off, none⟩ ∧ b < w.heap.size ∧ w.cell? ⟨b, off + i * 2, none⟩ = some (.int .i64 t.1) ∧ w.cell? ⟨b, off + i * 2 + 1, none⟩ = some (.int .i64 t.2) := by
  obtain ⟨b, off, e1, hlt, hc⟩ := h.2 (by have := (List.getElem?_eq_some_iff.1 hi).1; omega)
  exact ⟨b, off, e1, hlt, hc i t hi 0 _ rfl, hc i t hi 1 _ rfl⟩
set_option maxHeartbeats 3200000 in
theorem used_any (h : Ar b w col z s) (hT : s.T.length ≤ 100000) (hQ : s.Q.length ≤ 100000) : Calls Tryz.prog 54 #[.pointer (some ⟨z.ap, 0, none⟩)] w (InTo w (usedL s)) := by
  obtain ⟨g0, hg0⟩ : ∃ g0, w.heap.size = g0 := ⟨_, rfl⟩
  obtain ⟨R, hR⟩ : ∃ R, InTo w (usedL s) = R := ⟨_, rfl⟩
  have HFIN : Hid (∀ v W, W.ownsRow g0 3 1 v (usedL s).length (encI (usedL s)) → Below g0 w W → R (.returned v) W) := fun v W h1 h2 => by
    rw [← hR, hg0.symm] at *
    exact ⟨v, rfl, h1, h2⟩
  rw [hR]
  have HLV : Hid (∀ W, Below g0 w W → Calls Tryz.prog 42 #[.pointer (some ⟨z.ap, 0, none⟩)] W (TkTo W (livT (s.T ++ s.Q)))) := fun W hb => live_any (h.below (hg0.symm ▸ hb)) hT hQ
  have HLM : Hid (∀ W, Below g0 w W → Calls Tryz.prog 43 #[.pointer (some ⟨z.ap, 0, none⟩)] W (TkTo W (limT s.B))) := fun W hb => limbo_any (h.below (hg0.symm ▸ hb))
  have HAN : Hid (∀ W, Below g0 w W → Calls Tryz.prog 44 #[.pointer (some ⟨z.ap, 0, none⟩)] W (TkTo W (antT s.B))) := fun W hb => antis_any (h.below (hg0.symm ▸ hb))
  have hM : s.B.length ≤ 258 := h.bg.most
  have HS : Hid ((livT (s.T ++ s.Q)).length ≤ 200000 ∧ (limT s.B).length ≤ 258 ∧ (antT s.B).length ≤ 258) := by
    refine ⟨?_, ?_, ?_⟩
    · unfold livT
      rw [List.length_map, List.length_append]
      omega
    · unfold limT
      rw [List.length_map]
      exact hM
    · unfold antT
      rw [List.length_map]
      exact Nat.le_trans (List.length_filter_le _ _) hM
  have HU : Hid (usedL s = (livT (s.T ++ s.Q) ++ limT s.B ++ antT s.B).map (·.1)) := rfl
  have HG0 := Lib.hid hg0
  have HZ := Lib.hid zero_taken
  generalize livT (s.T ++ s.Q) = L1 at *
  generalize limT s.B = L2 at *
  generalize antT s.B = L3 at *
  generalize usedL s = U at *
  generalize z.ap = ap at *
  clear h hT hQ hM hR hg0
  go_enter Tryz.func54, Tryz.ntmps54
  go_wp2_with fail
  refine (HLV.out w (Below.refl _ _)).mono ?_
  rintro e w1 ⟨v1, rfl, o1, b1⟩
  rw [HG0.out] at b1 o1
  have HO1 := Lib.hid o1
  have HB1 := Lib.hid b1
  have HL1 : Hid (g0 ≤ w1.heap.size) := HG0.out ▸ b1.size
  clear o1 b1
  go_wp2_with fail
  refine (HLM.out w1 HB1.out).mono ?_
  rintro e w2 ⟨v2, rfl, o2, b2⟩
  have HO2 : Hid (w2.ownsRow g0 RT.tE RT.k v2 L2.length (RT.enc L2)) := own_mono o2 HL1.out
  have HO12 : Hid (w2.ownsRow g0 RT.tE RT.k v1 L1.length (RT.enc L1)) := own_keep HO1.out b2
  have HB2 : Hid (Below g0 w w2) := HB1.out.trans (b2.mono HL1.out)
  have HL2 : Hid (g0 ≤ w2.heap.size) := Nat.le_trans HL1.out b2.size
  clear o2 b2
  go_wp2_with fail
  refine (HAN.out w2 HB2.out).mono ?_
  rintro e w3 ⟨v3, rfl, o3, b3⟩
  have HO3 : Hid (w3.ownsRow g0 RT.tE RT.k v3 L3.length (RT.enc L3)) := own_mono o3 HL2.out
  have HO23 : Hid (w3.ownsRow g0 RT.tE RT.k v2 L2.length (RT.enc L2)) := own_keep HO2.out b3
  have HO13 : Hid (w3.ownsRow g0 RT.tE RT.k v1 L1.length (RT.enc L1)) := own_keep HO12.out b3
  have HB3 : Hid (Below g0 w w3) := HB2.out.trans (b3.mono HL2.out)
  have HL3 : Hid (g0 ≤ w3.heap.size) := Nat.le_trans HL2.out b3.size
  clear o3 b3 HO1 HO12 HO2
  obtain ⟨-, A1, c1, rfl, -, -, r1, n1, -⟩ := Rec.row_of_own (R := RT) HO13.out (by have := HS.out; omega)
  obtain ⟨-, A2, c2, rfl, -, -, r2, n2, -⟩ := Rec.row_of_own (R := RT) HO23.out (by have := HS.out; omega)
  obtain ⟨-, A3, c3, rfl, -, -, r3, n3, -⟩ := Rec.row_of_own (R := RT) HO3.out (by have := HS.out; omega)
  obtain ⟨g, hg⟩ : ∃ g, w3.heap.size = g := ⟨_, rfl⟩
  obtain ⟨w4, hw4⟩ : ∃ w4, w3.alloc (.cells #[.slice A1 L1.length c1, .slice A2 L2.length c2, .slice A3 L3.length c3] 62) = w4 := ⟨_, rfl⟩
  have h4 : w4.heap[g]? = some (.cells #[.slice A1 L1.length c1, .slice A2 L2.length c2, .slice A3 L3.length c3] 62 (0, 0)) := by rw [← hw4, ← hg]; exact heap_alloc_new w3 _
  have b4 : Below w3.heap.size w3 w4 := by rw [← hw4]; exact (Below.refl _ _).alloc (Nat.le_refl _) _
  have HB4 : Hid (Below g0 w w4) := HB3.out.trans (b4.mono HL3.out)
  have HL4 : Hid (g0 ≤ w4.heap.size) := Nat.le_trans HL3.out b4.size
  have HCAT : Hid (Calls Tryz.prog 101 #[.slice (some ⟨g, 0, none⟩) 3 3] w4 (TkTo w4 (L1 ++ L2 ++ L3))) := by
    have hc := concat_any w4 g 0 3 3 (by omega) (three L1 L2 L3) (three A1 A2 A3) (three c1 c2 c3) (lt_of_heap h4)
      (fun i hi => by
        have : i = 0 ∨ i = 1 ∨ i = 2 := by omega
        rcases this with rfl | rfl | rfl <;> simp [World.cell?, h4, three])
      (fun i hi => by
        have : i = 0 ∨ i = 1 ∨ i = 2 := by omega
        rcases this with rfl | rfl | rfl
        · exact r1.below b4
        · exact r2.below b4
        · exact r3.below b4)
      (fun i hi => by
        have : i = 0 ∨ i = 1 ∨ i = 2 := by omega
        rcases this with rfl | rfl | rfl
        · exact fun e => (n1 e).2
        · exact fun e => (n2 e).2
        · exact fun e => (n3 e).2)
      (by rw [catF_three, List.length_append, List.length_append]; have := HS.out; omega)
    rw [catF_three] at hc
    exact hc
  clear h4 b4 r1 r2 r3 n1 n2 n3 HO13 HO23 HO3
  go_wp2_with fail
  refine HCAT.out.mono ?_
  rintro e w5 ⟨V, rfl, o5, b5⟩
  have HB5 : Hid (Below g0 w w5) := HB4.out.trans (b5.mono HL4.out)
  obtain ⟨L, hL⟩ : ∃ L, L1 ++ L2 ++ L3 = L := ⟨_, rfl⟩
  obtain ⟨n, hn⟩ : ∃ n, L.length = n := ⟨_, rfl⟩
  have HN : Hid (L.length = n) := hn
  have hn2 : n ≤ 201000 := by rw [← hn, ← hL, List.length_append, List.length_append]; have := HS.out; omega
  rw [hL] at o5 HU
  obtain ⟨-, A5, c5, rfl, -, -, r5, -, -⟩ := Rec.row_of_own (R := RT) o5 (by omega)
  have HR5 := Lib.hid r5
  have HL5 : Hid (g0 ≤ w5.heap.size) := Nat.le_trans HL4.out b5.size
  rw [hn]
  clear hg hw4 o5 b5 r5 hL hn HCAT
  obtain ⟨g1, hg1⟩ : ∃ g1, w5.heap.size = g1 := ⟨_, rfl⟩
  have HG1 := Lib.hid hg1
  clear hg1
  go_wp2
  go_loopg [15, 3] n (fun gk s15 s3 wx => ∃ (i : Nat) (V : Value), i + gk = n ∧ s15 = .int .i64 i ∧ V = s3 ∧ Hid (wx.ownsRow g1 3 1 V ((L.take i).map (·.1)).length (encI ((L.take i).map (·.1)))) ∧ Hid (Below g1 w5 wx))
  case atStart => exact ⟨0, _, by omega, rfl, rfl, World.ownsRow_nil _ _ _ _, Below.refl _ _⟩
  case round =>
    obtain ⟨i, V, hig, rfl, rfl, HO, HW⟩ := hrel
    have hsz : g1 ≤ wr.heap.size := HG1.out ▸ HW.out.size
    cases gk with
    | zero =>
      obtain rfl : i = n := by omega
      have hii : ¬ (i : Int) < (i : Int) := by omega
      have HTK : Hid (L.take i = L) := by rw [← HN.out]; exact List.take_length
      rw [HTK.out, ← HU.out] at HO
      have HLE : Hid (g0 ≤ g1) := HG1.out ▸ HL5.out
      have HOF := Lib.hid (own_mono HO.out HLE.out)
      go_wp2
      exact HFIN.out _ _ HOF.out (HB5.out.trans (HW.out.mono HLE.out))
    | succ gk =>
      have hii : (i : Int) < (n : Int) := by omega
      have hi0 : (0 : Int) ≤ (i : Int) := by omega
      obtain ⟨x, hx⟩ : ∃ x, L[i]? = some x := ⟨_, List.getElem?_eq_getElem (by have := HN.out; omega)⟩
      obtain ⟨bx, ox, e1, hb1, k0, k1⟩ := tkAt (HR5.out.below (HG1.out.symm ▸ HW.out)) hx
      subst e1
      have HNX : Hid ((L.take i).map (·.1) ++ [x.1] = (L.take (i + 1)).map (·.1)) := by
        show _ = _
        rw [List.take_add_one, hx]
        simp
      have HI : Hid (((L.take i).map (·.1)).length = i) := by show _ = _; rw [List.length_map, List.length_take, HN.out]; omega
      obtain ⟨g, hg⟩ : ∃ g, wr.heap.size = g := ⟨_, rfl⟩
      have HGX := Lib.hid hg
      have HGG : Hid (g1 ≤ g) := hg ▸ hsz
      clear hx hg hb1 hsz
      obtain ⟨x0, x1⟩ := x
      simp only at k0 k1 HNX
      go_wp2_with (first
        | ((with_reducible show wpList _ _ _ (⟨some 5, .alloc _, _, _, _, _⟩ :: _) _ _); refine wpList_alloc_var (o := ⟨some 5, _, _, _, _, _⟩) rfl 179 rfl g HGX.out _ HZ.out ?_; intro y1 H1 B1)
        | ((with_reducible show wpList _ _ _ (⟨none, .store _ (.tmp 5) _, _, _, _, _⟩ :: _) _ _); refine wpList_store_whole (o := ⟨none, .store 179 (.tmp 5) (.tmp 18), _, _, _, _⟩) rfl _ _ _ rfl rfl g #[.int .i64 x0, .int .i64 x1] rfl rfl 179 _ H1.out size_taken rfl (onesT _ _) ?_; intro y2 H2 B2; obtain ⟨p0, p1⟩ := cellsT H2.out; have HB2 : Hid (Below wr.heap.size wr y2) := HGX.out.symm ▸ B1.out.trans B2.out; have HO2 : Hid (y2.ownsRow g1 3 1 V ((L.take i).map (·.1)).length (encI ((L.take i).map (·.1)))) := own_keep HO.out HB2.out; obtain ⟨V3, y3, hrun, ho3, hb3⟩ := run_appI_one y2 g1 V _ x0 HO2.out (by rw [HI.out]; omega) (Nat.le_trans HGG.out (by have := HB2.out.size; have := HGX.out; omega)); have HRU2 := Lib.hid hrun; have HO5 := Lib.hid ho3; have HW3 : Hid (Below g1 w5 y3) := (HW.out.trans (HB2.out.mono (Nat.le_trans HGG.out (Nat.le_of_eq HGX.out.symm)))).trans hb3; clear hrun ho3 hb3)
        | (at_builtin; refine wpList_app rfl (.tmp 19) (.tmp 22) 120 rfl rfl rfl HRU2.out ?_)
        | fail)
      rw [HNX.out] at HO5
      have HO6 : Hid (y3.ownsRow g1 3 1 V3 ((L.take (i + 1)).map (·.1)).length (encI ((L.take (i + 1)).map (·.1)))) := by
        rw [← HNX.out, List.length_append]
        rw [← HNX.out] at HO5
        exact HO5.out
      go_roundg gk
      case measure => omega
      case rel => exact ⟨i + 1, V3, by omega, by go_num, rfl, HO6.out, HW3.out⟩
end

end Go.Proofs.YtlghphccmgmomaaGreat

/-
  Proved here: slices.Index and slices.Contains at ints.
  Conditions: none.
-/
namespace Go.Proofs.YtlghphccmgmomaaGreat
open Go Go.RowKit
set_option maxRecDepth 100000

/-! ### slices.Contains at ints -/
theorem fIdx_ge {α : Type} (p : α → Bool) (l : List α) : decide (fIdx p l ≥ 0) = l.any p := by
  unfold fIdx
  cases h : l.any p with
  | true => simp
  | false => rfl
set_option maxHeartbeats 800000 in
theorem idxI_any (w : World) (A : Option Addr) (l : List Int) (n c : Nat) (hl : l.length = n) (hr : RowI w A l) (x : Int) :
    Calls Tryz.prog 102 #[.slice A n c, .int .i64 x] w fun e w' => e = .returned (.int .i64 (fIdx (fun y => x == y) l)) ∧ Below w.heap.size w w' := by
  obtain ⟨r, hr0⟩ : ∃ r, fIdx (fun y => x == y) l = r := ⟨_, rfl⟩
  have HRB := Lib.hid hr0
  rw [hr0]
  obtain ⟨B, hB⟩ : ∃ B, w.heap.size = B := ⟨_, rfl⟩
  have HBS := Lib.hid hB
  rw [hB]
  have HR := Lib.hid hr
  have HN := Lib.hid hl
  have hn : n ≤ 134217728 := hl ▸ hr.1
  clear hr hr0 hB hl
  go_enter Tryz.func102, Tryz.ntmps102
  go_wp2
  go_loopg [8] n (fun gk s8 wx => ∃ i : Nat, i + gk = n ∧ s8 = .int .i64 i ∧ Hid (Below B w wx) ∧ Hid (∀ (j : Nat) y, j < i → l[j]? = some y → (x == y) = false))
  case atStart => exact ⟨0, by omega, rfl, Below.refl _ _, fun j y h => absurd h (Nat.not_lt_zero _)⟩
  case round =>
    obtain ⟨i, hig, rfl, HW, HG⟩ := hrel
    cases gk with
    | zero =>
      obtain rfl : i = n := by omega
      have hii : ¬ (i : Int) < (i : Int) := by omega
      obtain rfl : r = -1 := by
        rw [← HRB.out]
        exact fIdx_no _ _ fun j y hy => HG.out j y (by have := (List.getElem?_eq_some_iff.1 hy).1; have := HN.out; omega) hy
      go_wp2
      go_ret
      exact ⟨rfl, HW.out⟩
    | succ gk =>
      have hii : (i : Int) < (n : Int) := by omega
      have hi0 : (0 : Int) ≤ (i : Int) := by omega
      have hgi := List.getElem?_eq_getElem (show i < l.length by have := HN.out; omega)
      generalize l[i]'(by have := HN.out; omega) = y at *
      obtain ⟨b, off, e1, -, hcl⟩ := (HR.out.below (HBS.out.symm ▸ HW.out)).2 (by have := HN.out; omega)
      subst e1
      have c0 : wr.cell? ⟨b, off + i, none⟩ = some (.int .i64 y) := by
        have := hcl i (by have := HN.out; omega)
        rw [this, List.getD, hgi]
        rfl
      clear hcl
      have HN2 : Hid ((x == y) = true → r = i) := fun h => by rw [← HRB.out]; exact fIdx_at _ _ i y HG.out hgi h
      have HN3 : Hid ((x == y) = false → ∀ (j : Nat) y, j < i + 1 → l[j]? = some y → (x == y) = false) := fun h j y' hj hy => by
        rcases Nat.lt_or_ge j i with h1 | h1
        · exact HG.out j y' h1 hy
        · obtain rfl : j = i := by omega
          rw [hgi] at hy
          cases hy
          exact h
      clear hgi
      cases he : (x == y) with
      | true =>
        obtain rfl := HN2.out he
        go_wp2
        go_ret
        exact ⟨rfl, HW.out⟩
      | false =>
        have HG2 := Lib.hid (HN3.out he)
        go_wp2
        go_roundg gk
        case measure => omega
        case rel => exact ⟨i + 1, by omega, by go_num, HW.out, HG2⟩
set_option maxHeartbeats 800000 in
theorem contI_any (w : World) (A : Option Addr) (l : List Int) (n c : Nat) (hl : l.length = n) (hr : RowI w A l) (x : Int) :
    Calls Tryz.prog 57 #[.slice A n c, .int .i64 x] w fun e w' => e = .returned (.bool (l.any fun y => x == y)) ∧ Below w.heap.size w w' := by
  have HI := Lib.hid (idxI_any w A l n c hl hr x)
  rw [← fIdx_ge]
  generalize fIdx (fun y => x == y) l = r at *
  clear hl hr
  go_enter Tryz.func57, Tryz.ntmps57
  go_wp2_with fail
  refine HI.out.mono ?_
  rintro e w1 ⟨rfl, hb⟩
  have HB := Lib.hid hb
  clear hb
  go_wp2
  go_ret
  exact ⟨rfl, HB.out⟩

end Go.Proofs.YtlghphccmgmomaaGreat
