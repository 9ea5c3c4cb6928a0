/-
  Proved here: copyCall of a call whose group has no groups.
  Conditions: rows of at most 2^20.
-/
import Derived.Test.YtimpigponjkfkaaCCall15
namespace Go.Proofs.Ytimpigponjkfkaa
open Go Go.RowKit
set_option maxRecDepth 100000

theorem blk5 {w : World} {b o0 o1 o2 o3 o4 k : Nat} {a0 a1 a2 a3 a4 : Value} (h : k ≠ b) : (((((w.setCell ⟨b, o0, none⟩ a0).setCell ⟨b, o1, none⟩ a1).setCell ⟨b, o2, none⟩ a2).setCell ⟨b, o3, none⟩ a3).setCell ⟨b, o4, none⟩ a4).heap[k]? = w.heap[k]? := by
  rw [Below.heap_setCell _ _ _ _ h, Below.heap_setCell _ _ _ _ h, Below.heap_setCell _ _ _ _ h, Below.heap_setCell _ _ _ _ h, Below.heap_setCell _ _ _ _ h]
theorem callOwn {w : World} {B n c : Nat} {A : Option Addr} {M : List Cal} (h : w.ownsRow B RC.tE RC.k (.slice A n c) n (RC.enc M)) (hl : M.length ≤ 1048576) {i : Nat} {e : Cal} (hz : M[i]? = some e) : ∃ b, A = some ⟨b, 0, none⟩ ∧ B ≤ b ∧ b < w.heap.size ∧
    w.cell? ⟨b, i * 5, none⟩ = some (.int .i64 e.kd) ∧ w.cell? ⟨b, i * 5 + 1, none⟩ = some (.string e.key) ∧ w.cell? ⟨b, i * 5 + 2, none⟩ = some (.string e.val) ∧
    w.cell? ⟨b, i * 5 + 3, none⟩ = some (.string e.to_) ∧ w.cell? ⟨b, i * 5 + 4, none⟩ = some (.slice e.ga e.gn e.gc) := by
  obtain ⟨_, A', c', ee, a1, a2, a3, a4, a5⟩ := Rec.row_of_own h hl
  cases ee
  obtain ⟨b, o1, eA, hb1, k0, k1, k2, k3, k4⟩ := callAt a3 hz
  have hb0 := a5 _ eA
  have e0 : o1 = 0 := by have := hb0.2.2.1; injection this
  subst e0
  have e1 : 0 + i * 5 = i * 5 := Nat.zero_add _
  rw [e1] at k0 k1 k2 k3 k4
  exact ⟨b, eA, hb0.1, hb1, k0, k1, k2, k3, k4⟩
set_option maxHeartbeats 3200000 in
theorem copycall_any (x : Cal) (G : List Cal) (w : World) (hG : Grp w x G) :
    Calls Try.prog 60 #[.agg #[.int .i64 x.kd, .string x.key, .string x.val, .string x.to_, .slice x.ga x.gn x.gc]] w (CopyC w x G) := by
  obtain ⟨g, hg⟩ : ∃ g, w.heap.size = g := ⟨_, rfl⟩
  obtain ⟨w1, hw1⟩ : ∃ w1, w.alloc (.cells #[.int .i64 x.kd, .string x.key, .string x.val, .string x.to_, .slice x.ga x.gn x.gc] 24) = w1 := ⟨_, rfl⟩
  have HXg : Hid (CBox w1 g x) := by rw [← hw1, ← hg]; exact heap_alloc_new w _
  have HBg : Hid (Below g w w1) := by rw [← hw1, ← hg]; exact (Below.refl _ _).alloc (Nat.le_refl _) _
  have HGg : Hid (w.heap.size = g) := hg
  obtain ⟨g1, hg1⟩ : ∃ g1, w1.heap.size = g1 := ⟨_, rfl⟩
  have HG1 := Lib.hid hg1
  have HL : Hid (g < g1) := hg1 ▸ lt_of_heap HXg.out
  have HZC := Lib.hid zero_call
  have HCL : Hid (∀ v, Below g1 w1 v → Calls Try.prog 86 #[.slice x.ga x.gn x.gc] v (OwnR RC v G)) := fun v hv => clonec_any v x.ga x.gn x.gc G hG.len ((hG.row.below (hg ▸ HBg.out)).below (hg1.symm ▸ hv)) hG.nil
  have HCF : Hid (∀ z v, FlatC z → Calls Try.prog 60 #[.agg #[.int .i64 z.kd, .string z.key, .string z.val, .string z.to_, .slice z.ga z.gn z.gc]] v fun e w' => ∃ A c, e = .returned (.agg #[.int .i64 z.kd, .string z.key, .string z.val, .string z.to_, .slice A 0 c]) ∧ c ≤ maxLen ∧ (A = none → c = 0) ∧ Below v.heap.size v w') := fun z v h => copycall_flat z v h
  have HAL : Hid (AlikeL G G) := AlikeL.refl hG.flat
  have HLN : Hid (G.length = x.gn) := hG.len
  have HLM : Hid (G.length ≤ 1048576) := hG.row.1
  have HFIN : Hid (∀ A c M W, G.length = x.gn → W.ownsRow (g1 + 1) RC.tE RC.k (.slice A x.gn c) x.gn (RC.enc M) → AlikeL G M → Below g w W → CopyC w x G (.returned (.agg #[.int .i64 x.kd, .string x.key, .string x.val, .string x.to_, .slice A x.gn c])) W) := fun A c M W _ ho ha hb => by
    have hgl := HL.out
    exact ⟨A, c, M, rfl, own_mono ho (by rw [hg]; omega), ha, by rw [hg]; exact hb⟩
  obtain ⟨R, hR⟩ : ∃ R, CopyC w x G = R := ⟨_, rfl⟩
  rw [hR] at HFIN ⊢
  obtain ⟨kd, key, val, to_, ga, n, gc⟩ := x
  obtain ⟨c0, c1, c2, c3, c4⟩ := HXg.out.at_
  have hnb : n ≤ 1048576 := by have h1 := HLN.out; have h2 := HLM.out; have h3 : G.length = n := h1; omega
  dsimp only at c0 c1 c2 c3 c4
  clear hG hR hg1
  go_enter Try.func60, Try.ntmps60
  go_wp2_with (first
    | ((with_reducible show wpList _ _ _ (⟨some 2, .alloc _, _, _, _, _⟩ :: _) _ _); refine wpList_alloc_var (o := ⟨some 2, _, _, _, _, _⟩) rfl 24 rfl g1 HG1.out _ HZC.out ?_; intro v1 H1 B1; have HV := Lib.hid ((B1.out.block g HL.out).trans HXg.out); clear c0 c1 c2 c3 c4; obtain ⟨c0, c1, c2, c3, c4⟩ := cells5 HV.out)
    | fail)
  clear hg hw1
  refine (HCL.out _ B1.out).mono ?_
  rintro e v2 ⟨V, rfl, ho, hb⟩
  have HLN2 : Hid (G.length = n) := HLN.out
  rw [HLN2.out] at ho
  obtain ⟨-, A', c', rfl, a1, a2, a3, a4, -⟩ := Rec.row_of_own ho HLM.out
  have HBX := Lib.hid hb
  have HVX := Lib.hid ((hb.block g (lt_of_heap HV.out)).trans HV.out)
  have HZX := Lib.hid ((hb.block g1 (lt_of_heap H1.out)).trans H1.out)
  have HO := Lib.hid (own_mono ho (lt_of_heap H1.out))
  clear c0 c1 c2 c3 c4 ho hb a1 a2 a3 a4
  obtain ⟨c0, c1, c2, c3, c4⟩ := cells5 HVX.out
  have hfz : v2.frozen? ⟨g, 4, none⟩ = false := by have hh := HVX.out; simp [World.frozen?, hh]
  go_wp2_with fail
  obtain ⟨v3, hv3⟩ : ∃ v3, v2.setCell ⟨g, 4, none⟩ (.slice A' n c') = v3 := ⟨_, rfl⟩
  have HZ3 : Hid (v3.heap[g1]? = some (.cells #[.int .i64 0, .string ⟨#[]⟩, .string ⟨#[]⟩, .string ⟨#[]⟩, .slice none 0 0] 24 (0, 0))) := by rw [← hv3]; exact (Below.heap_setCell _ _ _ _ (by have := HL.out; show g1 ≠ g; omega)).trans HZX.out
  have HV3 : Hid (v3.heap[g]? = some (.cells #[.int .i64 kd, .string key, .string val, .string to_, .slice A' n c'] 24 (0, 0))) := by rw [← hv3]; exact heap_setCell_same v2 g 4 _ _ (.slice A' n c') HVX.out
  have HO3 : Hid (v3.ownsRow (g1 + 1) RC.tE RC.k (.slice A' n c') n (RC.enc G)) := by rw [← hv3]; exact own_same HO.out (fun k hk => Below.heap_setCell _ _ _ _ (by have := own_ge HO.out k hk; have := HL.out; show k ≠ g; omega))
  have HB3 : Hid (Below g w v3) := by
    rw [← hv3]
    exact (((HBg.out.trans (B1.out.mono (Nat.le_of_lt HL.out))).trans (HBX.out.mono (Nat.le_of_lt (Nat.lt_trans HL.out (lt_of_heap H1.out))))).setCell (p := ⟨g, 4, none⟩) (Nat.le_refl _) _)
  rw [hv3]
  clear hv3 hfz c0 c1 c2 c3 c4
  go_loopg [3, 11] n (fun gk s3 s11 wx => ∃ (i : Nat) (M : List Cal), i + gk = n ∧ s11 = .int .i64 i ∧ Hid (wx.heap[g]? = some (.cells #[.int .i64 kd, .string key, .string val, .string to_, .slice A' n c'] 24 (0, 0))) ∧ Hid (wx.heap[g1]? = some (.cells #[.int .i64 0, .string ⟨#[]⟩, .string ⟨#[]⟩, .string ⟨#[]⟩, .slice none 0 0] 24 (0, 0))) ∧ Hid (wx.ownsRow (g1 + 1) RC.tE RC.k (.slice A' n c') n (RC.enc M)) ∧ Hid (AlikeL G M) ∧ Hid (Below g w wx))
  case atStart => exact ⟨0, G, by omega, rfl, HV3, HZ3, HO3, HAL, HB3⟩
  case round =>
    obtain ⟨i, M, hig, rfl, HVr, HZr, HOr, HAr, HBr⟩ := hrel
    obtain ⟨c0, c1, c2, c3, c4⟩ := cells5 HVr.out
    cases gk with
    | zero =>
      obtain rfl : i = n := by omega
      have hii : ¬ (i : Int) < (i : Int) := by omega
      go_wp2_with (first
        | ((with_reducible show wpList _ _ _ (⟨none, .store _ (.tmp 2) _, _, _, _, _⟩ :: _) _ _); refine wpList_store_only (o := ⟨none, .store 24 (.tmp 2) (.tmp 25), _, _, _, _⟩) rfl _ _ _ rfl rfl g1 #[.int .i64 kd, .string key, .string val, .string to_, .slice A' i c'] rfl rfl 24 _ HZr.out size_call rfl (onesC _ _ _ _ _ _ _) ?_; intro v9 X9 T9)
        | fail)
      refine bodyPost_ret (results_v1 (cs := [.int .i64 kd, .string key, .string val, .string to_, .slice A' i c']) rfl Try.underlying24 rfl X9.out size_call) rfl ?_
      exact HFIN.out _ _ _ _ HLN2.out (own_same HOr.out (fun k hk => T9.out.block k (by have := own_ge HOr.out k hk; omega) (by have := own_ge HOr.out k hk; omega) (own_ltN HOr.out hk))) HAr.out (HBr.out.trans (turn_below T9.out (Nat.le_of_lt HL.out) (Nat.le_of_lt (lt_of_heap HVr.out))))
    | succ gk =>
      have hii : (i : Int) < (n : Int) := by omega
      have hi0 : (0 : Int) ≤ (i : Int) := by omega
      have hml : M.length = n := HAr.out.1.trans HLN2.out
      have hil : i < M.length := by omega
      obtain ⟨z, hz⟩ : ∃ z, M[i]? = some z := ⟨_, List.getElem?_eq_getElem hil⟩
      have HZI := Lib.hid hz
      have HFZ : Hid (FlatC z) := HAr.out.2.2 z (List.mem_of_getElem? hz)
      obtain ⟨b, eA, hbB, hb1, k0, k1, k2, k3, k4⟩ := callOwn HOr.out (by omega) hz
      subst eA
      have HB1 : Hid (g1 + 1 ≤ b) := hbB
      have HBL := Lib.hid hb1
      have HML := Lib.hid hml
      have hbg : ¬ b = g := by have := HB1.out; have := HL.out; omega
      have hgb : ¬ g = b := fun e => hbg e.symm
      clear hb1 hbB hz hil hml
      have HKE : Hid (∀ W v, Below wr.heap.size wr W → Below W.heap.size W v → v.cell? ⟨g, 4, none⟩ = some (.slice (some ⟨b, 0, none⟩) n c') ∧ v.cell? ⟨b, i * 5, none⟩ = some (.int .i64 z.kd) ∧ v.cell? ⟨b, i * 5 + 1, none⟩ = some (.string z.key) ∧ v.cell? ⟨b, i * 5 + 2, none⟩ = some (.string z.val) ∧ v.cell? ⟨b, i * 5 + 3, none⟩ = some (.string z.to_) ∧ v.cell? ⟨b, i * 5 + 4, none⟩ = some (.slice z.ga z.gn z.gc) ∧ ∀ j, v.frozen? ⟨b, j, none⟩ = false) := fun W v h1 h2 => by
        have h3 := h1.trans (h2.mono h1.size)
        have gl := lt_of_heap HVr.out
        have bl := HBL.out
        refine ⟨(h3.cell (p := ⟨g, 4, none⟩) gl).trans c4, (h3.cell (p := ⟨b, _, none⟩) bl).trans k0, (h3.cell (p := ⟨b, _, none⟩) bl).trans k1, (h3.cell (p := ⟨b, _, none⟩) bl).trans k2, (h3.cell (p := ⟨b, _, none⟩) bl).trans k3, (h3.cell (p := ⟨b, _, none⟩) bl).trans k4, fun j => ?_⟩
        exact (h3.frozen (p := ⟨b, j, none⟩) bl).trans (HOr.out.frozenAt j)
      clear c0 c1 c2 c3 k0 k1 k2 k3 k4 c4
      obtain ⟨c4, k0, k1, k2, k3, k4, kf⟩ := HKE.out wr wr (Below.refl _ _) (Below.refl _ _)
      have HDR : Hid (Below wr.heap.size wr wr.drew) := (Below.refl _ _).drew
      go_upto_region 5 with fail
      go_region_with (first
        | (go_at_call 60; refine (HCF.out z wr.drew HFZ.out).mono ?_; rintro e v5 ⟨A5, c5, rfl, q1, q2, hb⟩; obtain ⟨d4, l0, l1, l2, l3, l4, lf⟩ := HKE.out wr.drew v5 HDR.out hb; have HQ1 := Lib.hid q1; have HQ2 := Lib.hid q2; have HB5 := Lib.hid (HDR.out.trans hb); clear hb q1 q2)
        | fail)
      all_goals
        have hgB : g ≤ b := by have := HB1.out; have := HL.out; omega
        have ho5 := Rec.own_set (R := RC) (i := i) (n := n) (x := { z with ga := A5, gn := 0, gc := c5 }) (own_keep HOr.out HB5.out) HML.out (by omega)
        go_wp2
        go_roundg gk
        case measure => omega
        case rel => exact ⟨i + 1, M.set i { z with ga := A5, gn := 0, gc := c5 }, by omega, by go_num, (blk5 (by have := HB1.out; have := HL.out; omega)).trans ((HB5.out.block g (lt_of_heap HVr.out)).trans HVr.out), (blk5 (by have := HB1.out; omega)).trans ((HB5.out.block g1 (lt_of_heap HZr.out)).trans HZr.out), ho5, HAr.out.set HZI.out ⟨rfl, rfl, rfl, rfl, HFZ.out.1.symm⟩ ⟨rfl, HQ1.out, HQ2.out⟩, HBr.out.trans ((((((HB5.out.mono (Nat.le_of_lt (lt_of_heap HVr.out))).setCell (p := ⟨b, _, none⟩) hgB _).setCell (p := ⟨b, _, none⟩) hgB _).setCell (p := ⟨b, _, none⟩) hgB _).setCell (p := ⟨b, _, none⟩) hgB _).setCell (p := ⟨b, _, none⟩) hgB _)⟩

end Go.Proofs.Ytimpigponjkfkaa
