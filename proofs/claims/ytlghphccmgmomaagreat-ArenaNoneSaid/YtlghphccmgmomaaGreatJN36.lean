/-
  Proved here, joined: RoomB16, LiveA16
  Conditions: as each part says.
-/
import Derived.Test.YtlghphccmgmomaaGreatJN35
import Derived.Test.YtlghphccmgmomaaGreatJN31
import Derived.Deep.RegionLaw

/-
  Proved here: the antis, package arena.
  Conditions: none.
-/
namespace Go.Proofs.YtlghphccmgmomaaGreat
open Go Go.RowKit
set_option maxRecDepth 100000

section
open Classical
variable {b : Nat} {w w' : World} {col : Nat → Nat} {z : Pz} {s : Az}
def antT (B : List En) : List Tk := (B.filter fun e => decide (e.anti ≠ -1)).map fun e => (e.anti, 0)
set_option maxHeartbeats 3200000 in
theorem antis_any (h : Ar b w col z s) : Calls Tryz.prog 44 #[.pointer (some ⟨z.ap, 0, none⟩)] w (TkTo w (antT s.B)) := by
  obtain ⟨-, -, -, -, a7, -⟩ := h.at_
  have HA := Lib.hid (bgall_any h.bg)
  have HM : Hid (s.B.length ≤ 258) := h.bg.most
  have HZ := Lib.hid zero_entry
  generalize z.ap = ap at *
  generalize z.bp = bp at *
  obtain ⟨g0, hg0⟩ : ∃ g0, w.heap.size = g0 := ⟨_, rfl⟩
  have HG0 := Lib.hid hg0
  have HFIN : Hid (∀ v W, W.ownsRow g0 RT.tE RT.k v (antT s.B).length (RT.enc (antT s.B)) → Below g0 w W → TkTo w (antT s.B) (.returned v) W) := fun v W h1 h2 => ⟨v, rfl, by rw [hg0]; exact h1, hg0 ▸ h2⟩
  obtain ⟨R, hR⟩ : ∃ R, TkTo w (antT s.B) = R := ⟨_, rfl⟩
  rw [hR] at HFIN ⊢
  obtain ⟨B, hB⟩ : ∃ B, s.B = B := ⟨_, rfl⟩
  rw [hB] at HA HM HFIN
  clear h hg0 hR hB
  go_enter Tryz.func44, Tryz.ntmps44
  go_wp2_with fail
  refine HA.out.mono ?_
  clear a7
  rintro e w1 ⟨v, rfl, ho, hb⟩
  obtain ⟨n, hn⟩ : ∃ n, B.length = n := ⟨_, rfl⟩
  have HN := Lib.hid hn
  obtain ⟨_, A, cap, rfl, -, hr, -, -⟩ := rowE_of_own ho (by have := HM.out; omega)
  have HR := Lib.hid hr
  have HB1 : Hid (Below g0 w w1) := HG0.out ▸ hb
  have HL1 : Hid (g0 ≤ w1.heap.size) := HG0.out ▸ hb.size
  obtain ⟨g1, hg1⟩ : ∃ g1, w1.heap.size = g1 := ⟨_, rfl⟩
  have HG1 := Lib.hid hg1
  have hn258 : n ≤ 258 := by have := HM.out; omega
  rw [hn]
  clear ho hb hr hg1 hn
  go_wp2
  go_loopg [12, 3] n (fun gk s12 s3 wx => ∃ (i : Nat) (V : Value), i + gk = n ∧ s12 = .int .i64 i ∧ V = s3 ∧ Hid (wx.ownsRow g1 RT.tE RT.k V (antT (B.take i)).length (RT.enc (antT (B.take i)))) ∧ Hid (Below g1 w1 wx))
  case atStart => exact ⟨0, _, by omega, rfl, rfl, World.ownsRow_nil _ _ _ _, Below.refl _ _⟩
  case round =>
    obtain ⟨i, V, hig, rfl, rfl, HO, HW⟩ := hrel
    have hsz : g1 ≤ wr.heap.size := HG1.out ▸ HW.out.size
    cases gk with
    | zero =>
      obtain rfl : i = n := by omega
      have hii : ¬ (i : Int) < (i : Int) := by omega
      have HTK : Hid (B.take i = B) := by rw [← HN.out]; exact List.take_length
      rw [HTK.out] at HO
      have HLE : Hid (g0 ≤ g1) := HG1.out ▸ HL1.out
      have HOF := Lib.hid (own_mono HO.out HLE.out)
      go_wp2
      exact HFIN.out _ _ HOF.out (HB1.out.trans (HW.out.mono HLE.out))
    | succ gk =>
      have hii : (i : Int) < (n : Int) := by omega
      have hi0 : (0 : Int) ≤ (i : Int) := by omega
      obtain ⟨x, hx⟩ : ∃ x, B[i]? = some x := ⟨_, List.getElem?_eq_getElem (by have := HN.out; omega)⟩
      obtain ⟨b1, o1, e1, hb1, k0, k1, k2, k3, k4⟩ := (HR.out.below (HG1.out.symm ▸ HW.out)).at_ hx
      subst e1
      have HNO : Hid (x.anti = -1 → antT (B.take (i + 1)) = antT (B.take i)) := fun e => by
        unfold antT
        rw [List.take_add_one, hx]
        simp [e]
      have HNX : Hid (x.anti ≠ -1 → antT (B.take i) ++ [(x.anti, 0)] = antT (B.take (i + 1))) := fun e => by
        unfold antT
        rw [List.take_add_one, hx]
        simp [e]
      have HLT : Hid ((antT (B.take i)).length ≤ 258) := by
        have h1 : (antT (B.take i)).length ≤ (B.take i).length := by unfold antT; rw [List.length_map]; exact List.length_filter_le _ _
        rw [List.length_take] at h1
        have := HM.out
        show _ ≤ _
        omega
      obtain ⟨g, hg⟩ : ∃ g, wr.heap.size = g := ⟨_, rfl⟩
      have HGX := Lib.hid hg
      have HGG : Hid (g1 ≤ g) := hg ▸ hsz
      clear hx hg hb1 hsz
      generalize x.line = x0 at *
      generalize x.cl = x1 at *
      generalize (x.r : Int) = x2 at *
      generalize (x.d : Int) = x3 at *
      generalize x.anti = x4 at *
      cases hz : decide (x4 = -1) with
      | true =>
        have hx4 : x4 = -1 := of_decide_eq_true hz
        have hnz : (x4 != -1) = false := by rw [hx4]; rfl
        have HNN := Lib.hid (HNO.out hx4)
        clear hz hx4
        go_wp2_with (first
          | ((with_reducible show wpList _ _ _ (⟨some 5, .alloc _, _, _, _, _⟩ :: _) _ _); refine wpList_alloc_var (o := ⟨some 5, _, _, _, _, _⟩) rfl 34 rfl g HGX.out _ HZ.out ?_; intro v1 H1 B1)
          | ((with_reducible show wpList _ _ _ (⟨none, .store _ (.tmp 5) _, _, _, _, _⟩ :: _) _ _); refine wpList_store_whole (o := ⟨none, .store 34 (.tmp 5) (.tmp 15), _, _, _, _⟩) rfl _ _ _ rfl rfl g #[.int .i64 x0, .int .i64 x1, .int .u64 x2, .int .u64 x3, .int .i64 x4] rfl rfl 34 _ H1.out size_entry rfl (ones5 _ _ _ _ _) ?_; intro v2 H2 B2; obtain ⟨p0, p1, p2, p3, p4⟩ := cells5 H2.out; have HB2 : Hid (Below wr.heap.size wr v2) := HGX.out.symm ▸ B1.out.trans B2.out)
          | fail)
        have HW3 : Hid (Below g1 w1 v2) := HW.out.trans (HB2.out.mono (Nat.le_trans HGG.out (Nat.le_of_eq HGX.out.symm)))
        have HO3 : Hid (v2.ownsRow g1 RT.tE RT.k V (antT (B.take i)).length (RT.enc (antT (B.take i)))) := own_keep HO.out HB2.out
        rw [← HNN.out] at HO3
        go_roundg gk
        case measure => omega
        case rel => exact ⟨i + 1, V, by omega, by go_num, rfl, HO3, HW3⟩
      | false =>
        have hx4 : ¬ x4 = -1 := of_decide_eq_false hz
        have hnz : (x4 != -1) = true := by simp [hx4]
        have HNN := Lib.hid (HNX.out hx4)
        clear hz hx4
        go_wp2_with (first
          | ((with_reducible show wpList _ _ _ (⟨some 5, .alloc _, _, _, _, _⟩ :: _) _ _); refine wpList_alloc_var (o := ⟨some 5, _, _, _, _, _⟩) rfl 34 rfl g HGX.out _ HZ.out ?_; intro v1 H1 B1)
          | ((with_reducible show wpList _ _ _ (⟨none, .store _ (.tmp 5) _, _, _, _, _⟩ :: _) _ _); refine wpList_store_whole (o := ⟨none, .store 34 (.tmp 5) (.tmp 15), _, _, _, _⟩) rfl _ _ _ rfl rfl g #[.int .i64 x0, .int .i64 x1, .int .u64 x2, .int .u64 x3, .int .i64 x4] rfl rfl 34 _ H1.out size_entry rfl (ones5 _ _ _ _ _) ?_; intro v2 H2 B2; obtain ⟨p0, p1, p2, p3, p4⟩ := cells5 H2.out; have HB2 : Hid (Below wr.heap.size wr v2) := HGX.out.symm ▸ B1.out.trans B2.out; have HO2 : Hid (v2.ownsRow g1 RT.tE RT.k V (antT (B.take i)).length (RT.enc (antT (B.take i)))) := own_keep HO.out HB2.out; obtain ⟨v3, w3, hrun, ho3, hg3, hob3, hnn3⟩ := RT.run_app_one v2 g1 _ V (antT (B.take i)) (x4, 0) HO2.out (by have := HLT.out; omega) (Nat.le_trans HGG.out (by have := HB2.out.size; have := HGX.out; omega)) 62; have HRUN := Lib.hid hrun; have HO3 := Lib.hid ho3; have HGR := Lib.hid hg3; clear hrun ho3 hg3 hob3 hnn3)
          | (at_builtin; refine wpList_app rfl (.tmp 19) (.tmp 23) 62 rfl rfl rfl HRUN.out ?_)
          | fail)
        have HW3 : Hid (Below g1 w1 w3) := (HW.out.trans (HB2.out.mono (Nat.le_trans HGG.out (Nat.le_of_eq HGX.out.symm)))).grown HGR.out (Nat.le_trans HGG.out (by have := HB2.out.size; have := HGX.out; omega)) (fun k hk => own_ge HO2.out k hk)
        have HO4 : Hid (w3.ownsRow g1 RT.tE RT.k v3 (antT (B.take (i + 1))).length (RT.enc (antT (B.take (i + 1))))) := by
          have h := HO3.out
          rw [HNN.out] at h
          have hl : (antT (B.take (i + 1))).length = (antT (B.take i)).length + 1 := by rw [← HNN.out]; simp
          rw [hl]
          exact h
        go_roundg gk
        case measure => omega
        case rel => exact ⟨i + 1, v3, by omega, by go_num, rfl, HO4, HW3⟩
end

end Go.Proofs.YtlghphccmgmomaaGreat

/-
  Proved here: what the indexes refer to, package arena.
  Conditions: none.
-/
namespace Go.Proofs.YtlghphccmgmomaaGreat
open Go Go.RowKit
set_option maxRecDepth 100000

open Classical
section
variable {b : Nat} {w w' : World} {col : Nat → Nat} {z : Pz} {s : Az}
def livT (L : List Ln) : List Tk := L.map fun x => (x.line, x.cl)
set_option maxHeartbeats 3200000 in
theorem live_any (h : Ar b w col z s) (hT : s.T.length ≤ 100000) (hQ : s.Q.length ≤ 100000) : Calls Tryz.prog 42 #[.pointer (some ⟨z.ap, 0, none⟩)] w (TkTo w (livT (s.T ++ s.Q))) := by
  have HTA : Hid (∀ W, Below w.heap.size w W → Calls Tryz.prog 36 #[.pointer (some ⟨z.tp, 0, none⟩)] W (AllTo s.T W)) := fun W hb => tball_any (h.below hb).tb (by omega)
  have HQA : Hid (∀ W, Below w.heap.size w W → Calls Tryz.prog 38 #[.pointer (some ⟨z.lp, 0, none⟩)] W (AllN s.Q W)) := fun W hb => fiall_any (h.below hb).fi
  have HAC : Hid (∀ W, Below w.heap.size w W → W.cell? ⟨z.ap, 8, none⟩ = some (.pointer (some ⟨z.tp, 0, none⟩)) ∧ W.cell? ⟨z.ap, 10, none⟩ = some (.pointer (some ⟨z.lp, 0, none⟩))) := fun W hb => by
    obtain ⟨-, -, -, -, -, a8, -, a10, -⟩ := (h.below hb).at_
    exact ⟨a8, a10⟩
  have HZ := Lib.hid zero_link
  have HET : Hid (∀ args w, (callFunc 36 args).run Tryz.prog w = .ok (.enter 36 args) w) := enters_of Tryz.func36 (by kernel_rfl) rfl
  have HEQ : Hid (∀ args w, (callFunc 38 args).run Tryz.prog w = .ok (.enter 38 args) w) := enters_of Tryz.func38 (by kernel_rfl) rfl
  generalize z.ap = ap at *
  generalize z.tp = tp at *
  generalize z.lp = lp at *
  obtain ⟨g0, hg0⟩ : ∃ g0, w.heap.size = g0 := ⟨_, rfl⟩
  have HG0 := Lib.hid hg0
  obtain ⟨R, hR⟩ : ∃ R, TkTo w (livT (s.T ++ s.Q)) = R := ⟨_, rfl⟩
  have HFIN : Hid (∀ v W, W.ownsRow g0 RT.tE RT.k v (s.T ++ s.Q).length (RT.enc (livT (s.T ++ s.Q))) → Below g0 w W → R (.returned v) W) := fun v W h1 h2 => by
    rw [← hR]
    exact ⟨v, rfl, by rw [hg0]; unfold livT at *; rw [List.length_map]; exact h1, hg0 ▸ h2⟩
  rw [hR]
  generalize s.T = T at *
  generalize s.Q = Q at *
  have HTL : Hid (T.length ≤ 100000 ∧ Q.length ≤ 100000) := ⟨hT, hQ⟩
  rw [hg0] at HTA HQA HAC
  obtain ⟨a8, a10⟩ := HAC.out w (Below.refl _ _)
  clear h hT hQ hg0 hR
  go_enter Tryz.func42, Tryz.ntmps42
  go_wp2
  go_region_law (first
    | (refine step_callR rfl 36 #[.tmp 9] #[54] rfl #[.pointer (some ⟨tp, 0, none⟩)] (by simp [Act.eval]) HET.out (HTA.out _ (Below.refl _ _).drew) ?_; rintro e W1 ⟨gA, cA, rfl, hoA, hbA⟩; refine ⟨_, rfl, ?_⟩; have HB1 : Hid (Below g0 w W1) := (Below.refl _ _).drew.trans (HG0.out ▸ hbA); have HOA : Hid (W1.ownsRow g0 29 5 (.slice (some ⟨gA, 0, none⟩) T.length cA) T.length (encL T)) := HG0.out ▸ hoA; obtain ⟨u8, u10⟩ := HAC.out W1 HB1.out; clear hoA hbA)
    | (refine step_callR rfl 38 #[.tmp 14] #[58] rfl #[.pointer (some ⟨lp, 0, none⟩)] (by simp [Act.eval]) HEQ.out (HQA.out W1 HB1.out) ?_; rintro e W2 ⟨gQ, rfl, hoQ, hbQ⟩; refine ⟨_, rfl, ?_⟩; have HB2 : Hid (Below g0 w W2) := HB1.out.trans (hbQ.mono (HG0.out ▸ HB1.out.size)); have HOA2 : Hid (W2.ownsRow g0 29 5 (.slice (some ⟨gA, 0, none⟩) T.length cA) T.length (encL T)) := own_keep HOA.out hbQ; obtain ⟨y8, y10⟩ := HAC.out W2 HB2.out; obtain ⟨-, A9, c9, e9, -, hrQ, hAQ, -⟩ := rowL_of_own hoQ (by have := HTL.out.2; omega); cases e9; obtain ⟨v3, W3, hrun, ho3, hg3, -⟩ := run_appL W2 g0 _ T HOA2.out _ _ _ Q rfl hrQ hAQ (by have := HTL.out; omega) (HG0.out ▸ HB2.out.size); have HRUN := Lib.hid hrun; have HO3 := Lib.hid ho3; have HB3 : Hid (Below g0 w W3) := HB2.out.grown hg3 (HG0.out ▸ HB2.out.size) (fun k hk => own_ge HOA2.out k hk); obtain ⟨-, A3, c3, rfl, -, hr3, -, -⟩ := rowL_of_own ho3 (by have := HTL.out; rw [List.length_append]; omega); have HR3 := Lib.hid hr3; clear hoQ hbQ hrQ hAQ hrun ho3 hg3 hr3)
    | (refine step_app9 rfl (.tmp 10) (.tmp 15) 104 rfl (by simp [Act.eval]) (by simp [Act.eval]) HRUN.out ?_))
  all_goals
    obtain ⟨n, hn⟩ : ∃ n, T.length + Q.length = n := ⟨_, rfl⟩
    have hn2 : n ≤ 200000 := by have := HTL.out; omega
    obtain ⟨L, hL⟩ : ∃ L, T ++ Q = L := ⟨_, rfl⟩
    have HN : Hid (L.length = n) := by show _ = _; rw [← hL, ← hn, List.length_append]
    rw [hL] at HR3 HFIN
    have HL1 : Hid (g0 ≤ W3.heap.size) := HG0.out ▸ HB3.out.size
    obtain ⟨g1, hg1⟩ : ∃ g1, W3.heap.size = g1 := ⟨_, rfl⟩
    have HG1 := Lib.hid hg1
    clear hL hg1 a8 a10 u8 u10 y8 y10
    have hn3 : (T.length : Int) + (Q.length : Int) = (n : Int) := by omega
    simp only [Act.put, List.getElem_toArray, List.getElem_cons_succ, List.getElem_cons_zero, hn, hn3]
    go_wp2
    simp only [List.setIfInBounds_toArray, List.set_cons_zero, List.set_cons_succ]
    clear hn hn3
    go_loopg [18, 3] n (fun gk s12 s3 wx => ∃ (i : Nat) (V : Value), i + gk = n ∧ s12 = .int .i64 i ∧ V = s3 ∧ Hid (wx.ownsRow g1 RT.tE RT.k V i (RT.enc (livT (L.take i)))) ∧ Hid (Below g1 W3 wx))
    case atStart => exact ⟨0, _, by omega, rfl, rfl, World.ownsRow_nil _ _ _ _, Below.refl _ _⟩
    case round =>
      obtain ⟨i, V, hig, rfl, rfl, HO, HW⟩ := hrel
      have hsz : g1 ≤ wr.heap.size := HG1.out ▸ HW.out.size
      cases gk with
      | zero =>
        obtain rfl : i = n := by omega
        have hii : ¬ (i : Int) < (i : Int) := by omega
        have HTK : Hid (L.take i = L) := by rw [← HN.out]; exact List.take_length
        rw [HTK.out] at HO
        have HLE : Hid (g0 ≤ g1) := HG1.out ▸ HL1.out
        have HOF := Lib.hid (own_mono HO.out HLE.out)
        rw [← HN.out] at HOF
        go_wp2
        exact HFIN.out _ _ HOF.out (HB3.out.trans (HW.out.mono HLE.out))
      | succ gk =>
        have hii : (i : Int) < (n : Int) := by omega
        have hi0 : (0 : Int) ≤ (i : Int) := by omega
        obtain ⟨x, hx⟩ : ∃ x, L[i]? = some x := ⟨_, List.getElem?_eq_getElem (by have := HN.out; omega)⟩
        obtain ⟨b1, o1, e1, hb1, k0, k1, k2, k3, k4⟩ := (HR3.out.below (HG1.out.symm ▸ HW.out)).at_ hx
        subst e1
        have HNX : Hid (livT (L.take i) ++ [(x.line, x.cl)] = livT (L.take (i + 1))) := by
          show _ = _
          unfold livT
          rw [List.take_add_one, hx]
          simp
        obtain ⟨g, hg⟩ : ∃ g, wr.heap.size = g := ⟨_, rfl⟩
        have HGX := Lib.hid hg
        have HGG : Hid (g1 ≤ g) := hg ▸ hsz
        have HI : Hid (i < 1048576) := by show i < _; omega
        clear hx hg hb1 hsz
        generalize x.str = x0 at *
        generalize (x.id : Int) = x1 at *
        generalize (x.ver : Int) = x2 at *
        generalize x.line = x3 at *
        generalize x.cl = x4 at *
        go_wp2_with (first
          | ((with_reducible show wpList _ _ _ (⟨some 5, .alloc _, _, _, _, _⟩ :: _) _ _); refine wpList_alloc_var (o := ⟨some 5, _, _, _, _, _⟩) rfl 29 rfl g HGX.out _ HZ.out ?_; intro v1 H1 B1)
          | ((with_reducible show wpList _ _ _ (⟨none, .store _ (.tmp 5) _, _, _, _, _⟩ :: _) _ _); refine wpList_store_whole (o := ⟨none, .store 29 (.tmp 5) (.tmp 21), _, _, _, _⟩) rfl _ _ _ rfl rfl g #[.string x0, .int .u64 x1, .int .u64 x2, .int .i64 x3, .int .i64 x4] rfl rfl 29 _ H1.out size_link rfl (onesL _ _ _ _ _) ?_; intro v2 H2 B2; obtain ⟨p0, p1, p2, p3, p4⟩ := cells5 H2.out; have HB2 : Hid (Below wr.heap.size wr v2) := HGX.out.symm ▸ B1.out.trans B2.out; have HO2 : Hid (v2.ownsRow g1 RT.tE RT.k V i (RT.enc (livT (L.take i)))) := own_keep HO.out HB2.out; obtain ⟨v3, w3, hrun, ho3, hg3, hob3, hnn3⟩ := RT.run_app_one v2 g1 i V (livT (L.take i)) (x3, x4) HO2.out HI.out (Nat.le_trans HGG.out (by have := HB2.out.size; have := HGX.out; omega)) 62; have HRU2 := Lib.hid hrun; have HO5 := Lib.hid ho3; have HGR := Lib.hid hg3; clear hrun ho3 hg3 hob3 hnn3)
          | (at_builtin; refine wpList_app rfl (.tmp 22) (.tmp 28) 62 rfl rfl rfl HRU2.out ?_)
          | fail)
        have HW3 : Hid (Below g1 W3 w3) := (HW.out.trans (HB2.out.mono (Nat.le_trans HGG.out (Nat.le_of_eq HGX.out.symm)))).grown HGR.out (Nat.le_trans HGG.out (by have := HB2.out.size; have := HGX.out; omega)) (fun k hk => own_ge HO2.out k hk)
        rw [HNX.out] at HO5
        go_roundg gk
        case measure => omega
        case rel => exact ⟨i + 1, v3, by omega, by go_num, rfl, HO5, HW3⟩
end

end Go.Proofs.YtlghphccmgmomaaGreat
