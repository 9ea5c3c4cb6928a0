/-
  Proved here: what slices.DeleteFunc leaves of a row of pairs.
  Conditions: at most 2^20 pairs.
-/
import Derived.Test.YtpmgnhijiodbaaaDel15
namespace Go.Proofs.Ytpmgnhijiodbaaa
open Go Go.RowKit
set_option maxRecDepth 100000

theorem filter_none {α : Type} {p : α → Bool} {l : List α} (h : fIdx p l = -1) : l.filter (fun x => !p x) = l := by
  rw [List.filter_eq_self]
  intro x hx
  unfold fIdx at h
  split at h
  · omega
  · rename_i ha
    rw [Bool.not_eq_true, List.any_eq_false] at ha
    have := ha x hx
    simpa using this
theorem fIdx_some {α : Type} {p : α → Bool} {l : List α} (h : fIdx p l ≠ -1) : ∃ i : Nat, fIdx p l = i ∧ i < l.length ∧ (l.take (i + 1)).filter (fun x => !p x) = l.take i := by
  unfold fIdx at h ⊢
  split at h
  · rename_i ha
    obtain ⟨x, hx, hp⟩ := List.any_eq_true.1 ha
    have hlt := List.findIdx_lt_length_of_exists ⟨x, hx, hp⟩
    refine ⟨_, by rw [if_pos ha], hlt, ?_⟩
    rw [List.take_add_one, List.filter_append, List.getElem?_eq_getElem hlt]
    have h1 : p l[l.findIdx p] = true := List.findIdx_getElem
    have h2 : (l.take (l.findIdx p)).filter (fun x => !p x) = l.take (l.findIdx p) := by
      rw [List.filter_eq_self]
      intro y hy
      obtain ⟨j, hj, e⟩ := List.getElem_of_mem hy
      have hj' : j < l.findIdx p := by rw [List.length_take] at hj; omega
      have := List.not_of_lt_findIdx hj'
      rw [List.getElem_take] at e
      rw [e] at this
      simpa using this
    rw [h2]
    simp [h1]
  · omega
set_option maxHeartbeats 3200000 in
set_option maxRecDepth 100000 in
theorem delf_some {w : World} {gr n cap B : Nat} {l : List Kv} (hn : l.length = n) (hown : w.ownsRow B RP.tE RP.k (.slice (some ⟨gr, 0, none⟩) n cap) n (RP.enc l)) (hl : n ≤ 1048576) (g : Nat) (cb : Array Value) (lb : Array Value) (p : Kv → Bool) (hlb : lb = #[])
    (eg : ∀ args w, (callFunc g args).run Try.prog w = .ok (.enter g args) w) (hc : ∀ W, w.grownBy W (some gr) → ∀ x : Kv, Calls Try.prog g (#[.agg #[.string x.k, .string x.v]] ++ cb) W fun e w' => e = .returned (.bool (p x)) ∧ Below W.heap.size W w') :
    Calls Try.prog 41 #[.slice (some ⟨gr, 0, none⟩) n cap, .func (.func g) lb cb] w (RowTo15 RP B (l.filter fun x => !p x) (.slice (some ⟨gr, 0, none⟩) n cap) w) := by
  subst hlb
  obtain ⟨R, hR⟩ : ∃ R, RowTo15 RP B (l.filter fun x => !p x) (.slice (some ⟨gr, 0, none⟩) n cap) w = R := ⟨_, rfl⟩
  obtain ⟨cur, hb1, hb2, hb3, hb4, hb5, hB⟩ := Rec.own_block hown
  have hgw : gr < w.heap.size := lt_of_heap hb1
  have hbg : ∀ W, Below w.heap.size w W → w.grownBy W (some gr) := fun W h => ⟨h.os, h.tape, h.output, h.size, fun k hk _ => h.block k hk⟩
  have hrow : RP.Row w (some ⟨gr, 0, none⟩) l := by
    obtain ⟨_, A, c, e, _, _, hr, _⟩ := Rec.row_of_own hown (by omega)
    cases e
    exact hr
  have HIX := Lib.hid (idxp_any n cap hn hrow g cb #[] p rfl eg (fun W hW x _ => hc W (hbg W hW) x))
  have HZ := Lib.hid zero_pair
  by_cases hf : fIdx p l = -1
  · have HF : Hid (∀ W, Below w.heap.size w W → R (.returned (.slice (some ⟨gr, 0, none⟩) n cap)) W) := fun W hW => by
      rw [← hR, filter_none hf]
      exact ⟨_, rfl, by rw [hn]; exact own_keep hown hW, hbg W hW, fun k hk => .inl hk⟩
    rw [hR]
    rw [hf] at HIX
    clear hc hrow hbg hown hb1 hb5 hR hf hn
    go_enter Try.func41, Try.ntmps41
    go_wp2_with fail
    refine HIX.out.mono ?_
    rintro e w1 ⟨rfl, hb⟩
    have HB1 := Lib.hid hb
    clear hb
    go_wp2
    exact HF.out _ HB1.out
  · obtain ⟨i0, hi0, hi0n, htk⟩ := fIdx_some hf
    rw [hi0] at HIX
    obtain ⟨F, hF⟩ : ∃ F : Nat → List Kv, F = fun j => (l.take j).filter fun x => !p x := ⟨_, rfl⟩
    have HF0 : Hid (F (i0 + 1) = l.take i0) := by rw [hF]; exact htk
    have HFS : Hid (∀ j x, l[j]? = some x → F (j + 1) = if p x = true then F j else F j ++ [x]) := fun j x hx => by
      rw [hF]
      simp only []
      rw [List.take_add_one, List.filter_append, hx]
      cases h : p x <;> simp [h]
    have HFN : Hid (F n = l.filter fun x => !p x) := by
      show F n = _
      rw [hF]
      simp only []
      rw [← hn, List.take_length]
    have HFL : Hid (∀ j, (F j).length ≤ j) := fun j => by
      rw [hF]
      simp only []
      have h1 := List.length_filter_le (fun x => !p x) (l.take j)
      rw [List.length_take] at h1
      omega
    have HC := Lib.hid hc
    have HN := Lib.hid hn
    have HOW := Lib.hid hown
    have HGW := Lib.hid hgw
    have HBG := Lib.hid hbg
    have HFIN : Hid (∀ i W, F n = [] ++ F n → (F n).length = i → W.ownsRow B RP.tE RP.k (.slice (some ⟨gr, 0, none⟩) i cap) i (RP.enc (F n)) → w.grownBy W (some gr) → R (.returned (.slice (some ⟨gr, 0, none⟩) i cap)) W) := fun i W _ hi h1 h2 => by
      rw [← hR, ← HFN.out]
      exact ⟨_, rfl, by rw [hi]; exact h1, h2, fun k hk => .inl hk⟩
    have hmx : cap ≤ 9223372036854775807 := hb3
    have hi0b : ((i0 : Int) == -1) = false := by rw [beq_eq_false_iff_ne]; omega
    have hi0l : i0 < n := by omega
    have hnc : (n : Int) ≤ (cap : Int) := by omega
    rw [hR]
    clear hc hrow hbg hown hb1 hb5 hR hf hn hi0 htk hF hi0n hgw hb3 hb4
    go_enter Try.func41, Try.ntmps41
    go_wp2_with fail
    refine HIX.out.mono ?_
    rintro e w1 ⟨rfl, hb⟩
    have HB1 := Lib.hid hb
    clear hb
    go_wp2
    go_loopg [5, 6] (n - (i0 + 1)) (fun gk s5 s6 wx => ∃ (i j : Nat) (r : List Kv), s5 = .int .i64 i ∧ s6 = .int .i64 j ∧ j + gk = n ∧ i < j ∧ Hid (r.length = n) ∧ Hid (r.take i = F j) ∧ Hid ((F j).length = i) ∧ Hid (r.drop j = l.drop j) ∧ Hid (wx.ownsRow B RP.tE RP.k (.slice (some ⟨gr, 0, none⟩) n cap) n (RP.enc r)) ∧ Hid (w.grownBy wx (some gr)))
    case atStart => exact ⟨i0, i0 + 1, l, rfl, by go_num, by omega, by omega, HN.out, HF0.out.symm, by show _ = _; rw [HF0.out, List.length_take, HN.out]; omega, rfl, own_keep HOW.out HB1.out, HBG.out _ HB1.out⟩
    case round =>
      obtain ⟨i, j, r, rfl, rfl, hjg, hij, HRL, HRT, HFI, HRD, HO, HG⟩ := hrel
      have hcap : ¬ cap = i := by omega
      have hin : (i : Int) ≤ (n : Int) := by omega
      cases gk with
      | zero =>
        obtain rfl : j = n := by omega
        have hjj : ¬ (j : Int) < (j : Int) := by omega
        obtain ⟨cur2, k1, k2, k3, k4, k5, _⟩ := Rec.own_block HO.out
        have hm : i * RP.k + (j - i) * RP.k ≤ cap * RP.k := by rw [← Nat.add_mul]; exact Nat.mul_le_mul_right _ (by omega)
        obtain ⟨vs, hvl, hclr⟩ := Rec.run_clear RP RP.zero RP.zones wr 0 gr (i * RP.k) (j - i) (cap - i) cur2 k1 (by rw [k4]; exact hm)
        have EC : Hid ((Builtin.clear_ #[22] 0 #[.slice (some ⟨gr, i * 2, none⟩) (j - i) (cap - i)]).run Try.prog wr = .ok (.tuple #[]) (wr.setCells gr (i * RP.k) vs)) := hclr
        have ho2 : (wr.setCells gr (i * RP.k) vs).ownsRow B RP.tE RP.k (.slice (some ⟨gr, 0, none⟩) i cap) i (RP.enc (F j)) := by
          rw [← HRT.out]
          exact Rec.own_behind (Rec.own_take HO.out (by omega)) vs (Nat.le_refl _) (by rw [hvl]; exact hm)
        have HF2 := Lib.hid (HFIN.out i _ rfl HFI.out ho2 (Rec.grown_trans_set HG.out _ _))
        generalize wr.setCells gr (i * RP.k) vs = w5 at *
        clear hclr ho2 k1 k4 k5 hvl hm
        go_wp2
        rw [EC.out]
        simp only [Result.andThen]
        rw [Oper.upon_value]
        go_wp2
        exact HF2.out
      | succ gk =>
        have hjj : (j : Int) < (n : Int) := by omega
        have hgj := List.getElem?_eq_getElem (show j < l.length by have := HN.out; omega)
        generalize l[j]'(by have := HN.out; omega) = x at *
        have hrj : r[j]? = some x := by
          have h1 : (r.drop j)[0]? = (l.drop j)[0]? := by rw [HRD.out]
          rw [List.getElem?_drop, List.getElem?_drop, Nat.add_zero] at h1
          rw [h1, hgj]
        obtain ⟨_, A, c, e, _, _, hrw, _⟩ := Rec.row_of_own HO.out (by have := HRL.out; omega)
        cases e
        obtain ⟨b9, off9, e9, hb9, c0, c1⟩ := pairAt hrw hrj
        cases e9
        rw [Nat.zero_add] at c0 c1
        have HGL : Hid (gr < wr.heap.size) := hb9
        obtain ⟨hx, hhx⟩ : ∃ hx, wr.heap.size = hx := ⟨_, rfl⟩
        have HHX := Lib.hid hhx
        have HGX : Hid (gr < hx) := hhx ▸ hb9
        have HCX := Lib.hid (fun W hW => HC.out W hW x)
        have HFX := Lib.hid (HFS.out j x hgj)
        have HRJ := Lib.hid hrj
        have HRD2 : Hid (r.drop (j + 1) = l.drop (j + 1)) := by
          show _ = _
          have := congrArg (List.drop 1) HRD.out
          rwa [List.drop_drop, List.drop_drop] at this
        have HGG : Hid (∀ W, Below hx wr W → w.grownBy W (some gr)) := fun W hW => ⟨hW.os.trans HG.out.os, hW.tape.trans HG.out.tape, hW.output.trans HG.out.output, Nat.le_trans HG.out.size (by have := hW.size; have := HHX.out; omega), fun k hk hne => (hW.block k (by have := HG.out.size; have := HHX.out; omega)).trans (HG.out.block k hk hne)⟩
        have HOO : Hid (∀ W, Below hx wr W → W.ownsRow B RP.tE RP.k (.slice (some ⟨gr, 0, none⟩) n cap) n (RP.enc r)) := fun W hW => own_keep HO.out (HHX.out.symm ▸ hW)
        have HSS := Lib.hid (fun (W : World) (h : W.ownsRow B RP.tE RP.k (.slice (some ⟨gr, 0, none⟩) n cap) n (RP.enc r)) => Rec.own_set h HRL.out (show i < n by omega) x)
        have HCE : Hid (∀ W : World, W.ownsRow B RP.tE RP.k (.slice (some ⟨gr, 0, none⟩) n cap) n (RP.enc r) → (∃ u, W.cell? ⟨gr, i * 2, none⟩ = some u) ∧ (∃ u, W.cell? ⟨gr, i * 2 + 1, none⟩ = some u) ∧ W.frozen? ⟨gr, i * 2, none⟩ = false ∧ W.frozen? ⟨gr, i * 2 + 1, none⟩ = false) := fun W h => by
          obtain ⟨cur2, k1, k2, k3, k4, k5, _⟩ := Rec.own_block h
          have k4' : cur2.size = cap * 2 := k4
          refine ⟨Option.isSome_iff_exists.1 (cell_some k1 (by omega)), Option.isSome_iff_exists.1 (cell_some k1 (by omega)), ?_, ?_⟩ <;> simp [World.frozen?, k1]
        have HGS : Hid (∀ W u v, w.grownBy W (some gr) → w.grownBy ((W.setCell ⟨gr, i * 2, none⟩ u).setCell ⟨gr, i * 2 + 1, none⟩ v) (some gr)) := fun W u v h => Rec.grown_trans_set h (i * 2) [u, v]
        have hi0' : (0 : Int) ≤ (i : Int) := by omega
        have hiltn : (i : Int) < (n : Int) := by omega
        clear hgj hrj hrw hb9 hhx
        have HSX : Hid (∀ W : World, W.ownsRow B RP.tE RP.k (.slice (some ⟨gr, 0, none⟩) n cap) n (RP.enc r) → ((W.setCell ⟨gr, i * 2, none⟩ (.string x.k)).setCell ⟨gr, i * 2 + 1, none⟩ (.string x.v)).ownsRow B RP.tE RP.k (.slice (some ⟨gr, 0, none⟩) n cap) n (RP.enc (r.set i x))) := fun W h => HSS.out W h
        have HR2 : Hid ((r.set i x).length = n ∧ (r.set i x).take (i + 1) = F j ++ [x] ∧ (r.set i x).drop (j + 1) = l.drop (j + 1)) := by
          refine ⟨by rw [List.length_set]; exact HRL.out, ?_, ?_⟩
          · rw [← HRT.out, List.take_add_one, List.getElem?_set_self (by have := HRL.out; omega), List.take_set_of_le (Nat.le_refl _)]
            rfl
          · rw [List.drop_set_of_lt (by omega)]
            exact HRD2.out
        clear HSS
        obtain ⟨X, hX⟩ : ∃ X, r.set i x = X := ⟨_, rfl⟩
        rw [hX] at HSX HR2
        have HFI2 : Hid ((F j ++ [x]).length = i + 1) := by show _ = _; rw [List.length_append, HFI.out]; rfl
        have HRX : Hid (F (j + 1) = if p x = true then F j else F j ++ [x]) := HFX.out
        clear hX HFX
        obtain ⟨K, hK⟩ : ∃ K, F j ++ [x] = K := ⟨_, rfl⟩
        rw [hK] at HFI2 HR2 HRX
        clear hK
        generalize p x = z at *
        generalize x.k = x0 at *
        generalize x.v = x1 at *
        cases z with
        | true =>
          have HRY : Hid (F (j + 1) = F j) := HRX.out
          go_wp2_with (first
            | ((with_reducible show wpList _ _ _ (⟨some 7, .alloc _, _, _, _, _⟩ :: _) _ _); refine wpList_alloc_var (o := ⟨some 7, _, _, _, _, _⟩) rfl 42 rfl hx HHX.out _ HZ.out ?_; intro v1 H1 B1)
            | ((with_reducible show wpList _ _ _ (⟨none, .store _ (.tmp 7) _, _, _, _, _⟩ :: _) _ _); refine wpList_store_whole (o := ⟨none, .store 42 (.tmp 7) (.tmp 25), _, _, _, _⟩) rfl _ _ _ rfl rfl hx #[.string x0, .string x1] rfl rfl 42 _ H1.out size_pair rfl (onesP _ _) ?_; intro v2 H2 B2; obtain ⟨p0, p1⟩ := cells2 H2.out; have HB2 : Hid (Below hx wr v2) := B1.out.trans B2.out)
            | (go_at_fn g; refine (HCX.out _ (HGG.out _ HB2.out)).mono ?_; rintro e v3 ⟨rfl, hb3⟩; have HB3 : Hid (Below hx wr v3) := HB2.out.trans (hb3.mono (Nat.le_of_lt (lt_of_heap H2.out))); have H3 := Lib.hid ((hb3.block hx (lt_of_heap H2.out)).trans H2.out); clear hb3 p0 p1; obtain ⟨q0, q1⟩ := cells2 H3.out; have HO3 := Lib.hid (HOO.out _ HB3.out); have HG3 := Lib.hid (HGG.out _ HB3.out); obtain ⟨⟨ua, hua⟩, ⟨ub, hub⟩, hfa, hfb⟩ := HCE.out v3 HO3.out)
            | fail)
          go_roundg gk
          case measure => omega
          case rel => exact ⟨i, j + 1, r, rfl, by go_num, by omega, by omega, HRL, by show _ = _; rw [HRY.out]; exact HRT.out, by show _ = _; rw [HRY.out]; exact HFI.out, HRD2, HO3, HG3⟩
        | false =>
          have HRY : Hid (F (j + 1) = K) := HRX.out
          go_wp2_with (first
            | ((with_reducible show wpList _ _ _ (⟨some 7, .alloc _, _, _, _, _⟩ :: _) _ _); refine wpList_alloc_var (o := ⟨some 7, _, _, _, _, _⟩) rfl 42 rfl hx HHX.out _ HZ.out ?_; intro v1 H1 B1)
            | ((with_reducible show wpList _ _ _ (⟨none, .store _ (.tmp 7) _, _, _, _, _⟩ :: _) _ _); refine wpList_store_whole (o := ⟨none, .store 42 (.tmp 7) (.tmp 25), _, _, _, _⟩) rfl _ _ _ rfl rfl hx #[.string x0, .string x1] rfl rfl 42 _ H1.out size_pair rfl (onesP _ _) ?_; intro v2 H2 B2; obtain ⟨p0, p1⟩ := cells2 H2.out; have HB2 : Hid (Below hx wr v2) := B1.out.trans B2.out)
            | (go_at_fn g; refine (HCX.out _ (HGG.out _ HB2.out)).mono ?_; rintro e v3 ⟨rfl, hb3⟩; have HB3 : Hid (Below hx wr v3) := HB2.out.trans (hb3.mono (Nat.le_of_lt (lt_of_heap H2.out))); have H3 := Lib.hid ((hb3.block hx (lt_of_heap H2.out)).trans H2.out); clear hb3 p0 p1; obtain ⟨q0, q1⟩ := cells2 H3.out; have HO3 := Lib.hid (HOO.out _ HB3.out); have HG3 := Lib.hid (HGG.out _ HB3.out); obtain ⟨⟨ua, hua⟩, ⟨ub, hub⟩, hfa, hfb⟩ := HCE.out v3 HO3.out)
            | fail)
          go_roundg gk
          case measure => omega
          case rel => exact ⟨i + 1, j + 1, X, by go_num, by go_num, by omega, by omega, HR2.out.1, by show _ = _; rw [HRY.out]; exact HR2.out.2.1, by show _ = _; rw [HRY.out]; exact HFI2.out, HR2.out.2.2, HSX.out _ HO3.out, HGS.out _ _ _ HG3.out⟩

end Go.Proofs.Ytpmgnhijiodbaaa
