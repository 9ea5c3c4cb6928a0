/-
  Proved here, joined: BlockJ, BlockK
  Conditions: as each part says.
-/
import Derived.Test.YtlghphccmgmomaaGreatJN10

/-
    Proved here: what package block's read answers.
  Conditions: rows of at most 512 bytes.
-/
namespace Go.Proofs.YtlghphccmgmomaaGreat
open Go Go.RowKit
set_option maxRecDepth 100000

theorem own_form {w : World} {base n : Nat} {v : Value} {l : List UInt8} (h : w.ownsRow base 5 1 v n (enc l)) (hn : 0 < n) (hl : n ≤ 1073741824) : ∃ g cap, v = .slice (some ⟨g, 0, none⟩) n cap ∧ n ≤ cap ∧ base ≤ g ∧ g < w.heap.size ∧ Row w (some ⟨g, 0, none⟩) l := by
  have hlen : l.length = n := by have := h.1; rw [enc_len] at this; omega
  obtain ⟨A, c, e, hr⟩ := row_of_own h (by omega)
  rcases h.2 with ⟨e0, e1⟩ | ⟨g, cap, cur, e1, hb, hg, hle, _⟩
  · exfalso; omega
  · rw [e1] at e
    simp only [Value.slice.injEq] at e
    obtain ⟨rfl, _, rfl⟩ := e
    exact ⟨g, cap, e1, hle, hb, lt_of_heap hg, hr⟩
theorem all_cells (b : BV) : (#[Value.int .i64 b.cl, .int .i64 b.kd, .int .u64 (b.id : Nat), .int .u64 (b.ver : Nat), .int .u64 (b.ep : Nat), .string b.key, .string b.val] : Array Value).all (·.oneCell') = true := by
  refine all_oneCell_toArray (cs := b.cells) fun u hu => ?_
  simp only [BV.cells, List.mem_cons, List.not_mem_nil, or_false] at hu
  rcases hu with rfl | rfl | rfl | rfl | rfl | rfl | rfl <;> rfl
theorem vlOf_lt (l : List UInt8) : vlOf l < 65536 := by
  have h := le_lt ((l.drop 4).take 2)
  have hp : 256 ^ ((l.drop 4).take 2).length ≤ 256 ^ 2 := Nat.pow_le_pow_right (by omega) (by simp; omega)
  unfold vlOf
  omega
theorem clOf_take (l : List UInt8) : clOf (l.take 64) = clOf l := by rw [clOf, clOf, take_getD l 1 64 (by omega)]
theorem kdOf_take (l : List UInt8) : kdOf (l.take 64) = kdOf l := by rw [kdOf, kdOf, take_getD l 2 64 (by omega)]
theorem klOf_lt (l : List UInt8) : klOf l < 256 := UInt8.toNat_lt _
set_option maxHeartbeats 800000 in
set_option maxRecDepth 100000 in
theorem read_nodata (w : World) (b off n c : Nat) (l : List UInt8) (hl : l.length = n) (hc : n ≤ c) (hr : Row w (some ⟨b, off, none⟩) l) (hh : isHead (l.take 64) = true) (hs : n = 64 * spanN (clOf l)) (hd : 28 + 63 * restN (clOf l) < klOf l + vlOf l) :
    Calls Tryz.prog 123 #[.slice (some ⟨b, off, none⟩) n c] w fun e w' => e = .returned (.tuple #[zeroBV.agg, .bool false]) ∧ Below w.heap.size w w' := by
  obtain ⟨p, hp⟩ : ∃ p, w.heap.size = p := ⟨_, rfl⟩
  have HP := Lib.hid hp
  have HZ := Lib.hid zero_block
  have hcl3 : clOf l ≤ 3 := by
    simp only [isHead, Bool.and_eq_true, decide_eq_true_eq] at hh
    have := hh.2.2.1
    rw [clOf_take] at this
    exact this
  have hsr := spanN_rest (c := (clOf l : Nat)) (by omega)
  have hrl := restN_le (clOf l : Nat)
  have hn64 : 64 ≤ n := by omega
  have HSP := Lib.hid (fun W => span_any (clOf l : Nat) W)
  have HH : Hid (∀ W, Below p w W → Calls Tryz.prog 174 #[.slice (some ⟨b, off, none⟩) 64 c] W fun e w' => e = .returned (.tuple #[.int .i64 (clOf l : Nat), .int .i64 (kdOf l : Nat), .bool true]) ∧ Below W.heap.size W w') := fun W hW => by
    have h1 := (hr.below (hp.symm ▸ hW)).part 0 64 (by omega)
    rw [List.drop_zero] at h1
    have h2 := head_any W (some ⟨b, off + 0, none⟩) 64 c (l.take 64) (by simp; omega) h1
    rw [headR_yes hh] at h2
    exact h2
  have HDO : Hid (∀ W, Below p w W → Calls Tryz.prog 175 #[.slice (some ⟨b, off, none⟩) n c] W (RowTo W (dataOfL (restN (clOf l)) l))) := fun W hW => dataof_any W b off n c (restN (clOf l)) l hl hc (by omega) hrl (hr.below (hp.symm ▸ hW))
  have HDL := Lib.hid (dataOfL_len (n := restN (clOf l)) (l := l) (by omega))
  have HGT : Hid (∀ W, Below p w W → Calls Tryz.prog 176 #[.slice (some ⟨b, off, none⟩) n c, .int .i64 4, .int .i64 2] W fun e w' => e = .returned (.int .u64 (vlOf l : Nat)) ∧ W = w') := fun W hW => by
    have := bget_ok (some ⟨b, off, none⟩) n c l hl 4 2 (by omega) (by omega) (by omega) W (hr.below (hp.symm ▸ hW))
    exact this
  have HC3 : Hid (∀ W, Below p w W → W.cell? ⟨b, off + 3, none⟩ = some (.int .u8 (klOf l : Nat))) := fun W hW => by
    obtain ⟨b', off', e, _, h2⟩ := (hr.below (hp.symm ▸ hW)).2 (by omega)
    simp only [Option.some.injEq, Addr.mk.injEq, and_true] at e
    obtain ⟨rfl, rfl⟩ := e
    exact h2 3 (by omega)
  have hdn : decide ((n : Int) < 64) = false := by simp; omega
  have hc64 : 64 ≤ c := by omega
  have hne : ((n : Int) != (spanN (clOf l : Nat) : Int) * 64) = false := by simp; omega
  have hs8 : spanN (clOf l : Nat) ≤ 8 := by omega
  have hkl := klOf_lt l
  have hvl := vlOf_lt l
  generalize dataOfL (restN (clOf l)) l = D at *
  generalize spanN (clOf l : Nat) = s at *
  generalize restN (clOf l : Nat) = m at *
  generalize clOf l = cl at *
  generalize kdOf l = kd at *
  generalize klOf l = kl at *
  generalize vlOf l = vl at *
  obtain ⟨N, hN⟩ : ∃ N, 28 + 63 * m = N := ⟨_, rfl⟩
  rw [hN] at HDL hd
  have hN1 : N ≤ 469 := by omega
  have hN0 : 0 < N := by omega
  have hdd : (N : Int) < (kl : Int) + (vl : Int) := by omega
  have h3n : (3 : Int) < (n : Int) := by omega
  have hpos : 0 < n := by omega
  have h3 : 3 < n := by omega
  clear hp hh hr hl hs hsr hN hcl3 hd
  go_enter Tryz.func123, Tryz.ntmps123
  go_wp2_with (first
    | ((with_reducible show wpList _ _ _ (⟨some 2, .alloc _, _, _, _, _⟩ :: _) _ _); refine wpList_alloc_var (o := ⟨some 2, _, _, _, _, _⟩) rfl 95 rfl p HP.out _ HZ.out ?_; intro w1 HA1 HB1)
    | (go_at_call 174; refine (HH.out _ HB1.out).mono ?_; rintro e w2 ⟨rfl, hb⟩; have HA2 := Lib.hid ((hb.block p (lt_of_heap HA1.out)).trans HA1.out); have HB2 : Hid (Below p w w2) := HB1.out.trans (hb.mono (Nat.le_of_lt (lt_of_heap HA1.out))); clear hb)
    | (go_at_call 78; refine (HSP.out _).mono ?_; rintro e w' ⟨rfl, rfl⟩)
    | (go_at_call 175; refine (HDO.out _ HB2.out).mono ?_; rintro e w3 ⟨V, rfl, hown, hb⟩; have HA3 := Lib.hid ((hb.block p (lt_of_heap HA2.out)).trans HA2.out); have HB3 : Hid (Below p w w3) := HB2.out.trans (hb.mono (Nat.le_of_lt (lt_of_heap HA2.out))); rw [HDL.out] at hown; obtain ⟨g, cap, rfl, hcap, hgp, hgl, hrow⟩ := own_form hown hN0 (by omega); have HRD := Lib.hid hrow; have HC3' := Lib.hid (HC3.out w3 HB3.out); clear hb hown hrow))
  have hc3 := HC3'.out
  go_quiet ((go_at_call 176; exact quiet_same (HGT.out _ (below_drewN HB3.out _))))
  go_wp2_with (first
    | ((with_reducible show wpList _ _ _ (⟨none, .store _ _ _, _, _, _, _⟩ :: _) _ _); refine wpList_store_whole (o := ⟨none, .store 95 (.tmp 2) (.tmp 47), _, _, _, _⟩) rfl _ _ _ rfl rfl p zeroBV.cells.toArray rfl rfl 95 _ HA3.out size_block rfl (by decide +kernel) ?_; intro w6 HA6 HB6))
  refine bodyPost_ret (results_box rfl rfl rfl HA6.out) rfl ⟨rfl, ?_⟩
  rw [HP.out]
  exact (below_drewN HB3.out _).trans HB6.out
set_option maxHeartbeats 800000 in
set_option maxRecDepth 100000 in
theorem read_ok (w : World) (b off n c : Nat) (l : List UInt8) (hl : l.length = n) (hc : n ≤ c) (hr : Row w (some ⟨b, off, none⟩) l) (hh : isHead (l.take 64) = true) (hs : n = 64 * spanN (clOf l)) (hd : klOf l + vlOf l ≤ 28 + 63 * restN (clOf l)) :
    Calls Tryz.prog 123 #[.slice (some ⟨b, off, none⟩) n c] w fun e w' => e = .returned (.tuple #[(readL l).agg, .bool true]) ∧ Below w.heap.size w w' := by
  obtain ⟨p, hp⟩ : ∃ p, w.heap.size = p := ⟨_, rfl⟩
  have HP := Lib.hid hp
  have HZ := Lib.hid zero_block
  have hcl3 : clOf l ≤ 3 := by
    simp only [isHead, Bool.and_eq_true, decide_eq_true_eq] at hh
    have := hh.2.2.1
    rw [clOf_take] at this
    exact this
  have hsr := spanN_rest (c := (clOf l : Nat)) (by omega)
  have hrl := restN_le (clOf l : Nat)
  have hn64 : 64 ≤ n := by omega
  have HSP := Lib.hid (fun W => span_any (clOf l : Nat) W)
  have HH : Hid (∀ W, Below p w W → Calls Tryz.prog 174 #[.slice (some ⟨b, off, none⟩) 64 c] W fun e w' => e = .returned (.tuple #[.int .i64 (clOf l : Nat), .int .i64 (kdOf l : Nat), .bool true]) ∧ Below W.heap.size W w') := fun W hW => by
    have h1 := (hr.below (hp.symm ▸ hW)).part 0 64 (by omega)
    rw [List.drop_zero] at h1
    have h2 := head_any W (some ⟨b, off + 0, none⟩) 64 c (l.take 64) (by simp; omega) h1
    rw [headR_yes hh] at h2
    exact h2
  have HDO : Hid (∀ W, Below p w W → Calls Tryz.prog 175 #[.slice (some ⟨b, off, none⟩) n c] W (RowTo W (dataOfL (restN (clOf l)) l))) := fun W hW => dataof_any W b off n c (restN (clOf l)) l hl hc (by omega) hrl (hr.below (hp.symm ▸ hW))
  have HDL := Lib.hid (dataOfL_len (n := restN (clOf l)) (l := l) (by omega))
  have HGT : Hid (∀ W, Below p w W → Calls Tryz.prog 176 #[.slice (some ⟨b, off, none⟩) n c, .int .i64 4, .int .i64 2] W fun e w' => e = .returned (.int .u64 (vlOf l : Nat)) ∧ W = w') := fun W hW => by
    have := bget_ok (some ⟨b, off, none⟩) n c l hl 4 2 (by omega) (by omega) (by omega) W (hr.below (hp.symm ▸ hW))
    exact this
  have HC3 : Hid (∀ W, Below p w W → W.cell? ⟨b, off + 3, none⟩ = some (.int .u8 (klOf l : Nat))) := fun W hW => by
    obtain ⟨b', off', e, _, h2⟩ := (hr.below (hp.symm ▸ hW)).2 (by omega)
    simp only [Option.some.injEq, Addr.mk.injEq, and_true] at e
    obtain ⟨rfl, rfl⟩ := e
    exact h2 3 (by omega)
  have hdn : decide ((n : Int) < 64) = false := by simp; omega
  have hc64 : 64 ≤ c := by omega
  have hne : ((n : Int) != (spanN (clOf l : Nat) : Int) * 64) = false := by simp; omega
  have hs8 : spanN (clOf l : Nat) ≤ 8 := by omega
  have HG1 : Hid (∀ W, Below p w W → Calls Tryz.prog 176 #[.slice (some ⟨b, off, none⟩) n c, .int .i64 8, .int .i64 8] W fun e w' => e = .returned (.int .u64 ((readL l).id : Nat)) ∧ w' = W) := fun W hW => (bget_ok (some ⟨b, off, none⟩) n c l hl 8 8 (by omega) (by omega) (by omega) W (hr.below (hp.symm ▸ hW))).mono fun _ _ ⟨h1, h2⟩ => ⟨h1, h2.symm⟩
  have HG2 : Hid (∀ W, Below p w W → Calls Tryz.prog 176 #[.slice (some ⟨b, off, none⟩) n c, .int .i64 16, .int .i64 8] W fun e w' => e = .returned (.int .u64 ((readL l).ver : Nat)) ∧ w' = W) := fun W hW => (bget_ok (some ⟨b, off, none⟩) n c l hl 16 8 (by omega) (by omega) (by omega) W (hr.below (hp.symm ▸ hW))).mono fun _ _ ⟨h1, h2⟩ => ⟨h1, h2.symm⟩
  have HG3 : Hid (∀ W, Below p w W → Calls Tryz.prog 176 #[.slice (some ⟨b, off, none⟩) n c, .int .i64 24, .int .i64 8] W fun e w' => e = .returned (.int .u64 ((readL l).ep : Nat)) ∧ w' = W) := fun W hW => (bget_ok (some ⟨b, off, none⟩) n c l hl 24 8 (by omega) (by omega) (by omega) W (hr.below (hp.symm ▸ hW))).mono fun _ _ ⟨h1, h2⟩ => ⟨h1, h2.symm⟩
  have HK : Hid ((readL l).key = ⟨((dataOfL (restN (clOf l)) l).take (klOf l)).toArray⟩) := rfl
  have HV : Hid ((readL l).val = ⟨(((dataOfL (restN (clOf l)) l).drop (klOf l)).take (vlOf l)).toArray⟩) := rfl
  have HCLB : Hid ((readL l).cl = (clOf l : Nat)) := rfl
  have HKDB : Hid ((readL l).kd = (kdOf l : Nat)) := rfl
  have hkl := klOf_lt l
  have hvl := vlOf_lt l
  generalize readL l = B at *
  generalize dataOfL (restN (clOf l)) l = D at *
  generalize spanN (clOf l : Nat) = s at *
  generalize restN (clOf l : Nat) = m at *
  generalize clOf l = cl at *
  generalize kdOf l = kd at *
  generalize klOf l = kl at *
  generalize vlOf l = vl at *
  obtain ⟨N, hN⟩ : ∃ N, 28 + 63 * m = N := ⟨_, rfl⟩
  rw [hN] at HDL hd
  have hN1 : N ≤ 469 := by omega
  have hN0 : 0 < N := by omega
  have hdd : (kl : Int) + (vl : Int) ≤ (N : Int) := by omega
  have hkv : kl + vl ≤ N := by omega
  have h3n : (3 : Int) < (n : Int) := by omega
  have hpos : 0 < n := by omega
  have h3 : 3 < n := by omega
  clear hp hh hr hl hs hsr hN hcl3 hd
  go_enter Tryz.func123, Tryz.ntmps123
  go_wp2_with (first
    | ((with_reducible show wpList _ _ _ (⟨some 2, .alloc _, _, _, _, _⟩ :: _) _ _); refine wpList_alloc_var (o := ⟨some 2, _, _, _, _, _⟩) rfl 95 rfl p HP.out _ HZ.out ?_; intro w1 HA1 HB1)
    | (go_at_call 174; refine (HH.out _ HB1.out).mono ?_; rintro e w2 ⟨rfl, hb⟩; have HA2 := Lib.hid ((hb.block p (lt_of_heap HA1.out)).trans HA1.out); have HB2 : Hid (Below p w w2) := HB1.out.trans (hb.mono (Nat.le_of_lt (lt_of_heap HA1.out))); clear hb)
    | (go_at_call 78; refine (HSP.out _).mono ?_; rintro e w' ⟨rfl, rfl⟩)
    | (go_at_call 175; refine (HDO.out _ HB2.out).mono ?_; rintro e w3 ⟨V, rfl, hown, hb⟩; have HA3 := Lib.hid ((hb.block p (lt_of_heap HA2.out)).trans HA2.out); have HB3 : Hid (Below p w w3) := HB2.out.trans (hb.mono (Nat.le_of_lt (lt_of_heap HA2.out))); rw [HDL.out] at hown; obtain ⟨g, cap, rfl, hcap, hgp, hgl, hrow⟩ := own_form hown hN0 (by omega); have HRD := Lib.hid hrow; have HC3' := Lib.hid (HC3.out w3 HB3.out); clear hb hown hrow))
  have hc3 := HC3'.out
  go_quiet ((go_at_call 176; exact quiet_same (HGT.out _ (below_drewN HB3.out _))))
  have hrow : Row (w3.drewN (nq + 1)) (some ⟨g, 0, none⟩) D := HRD.out.below (below_drewN (Below.refl _ _) _)
  have hcv1 := run_conv _ (some ⟨g, 0 + 0, none⟩) kl cap (D.take kl) (by rw [List.length_take, HDL.out]; omega) (by have := hrow.part 0 kl (by rw [HDL.out]; omega); rwa [List.drop_zero] at this)
  have HBD : Hid (Below p w (w3.drewN (nq + 1))) := below_drewN HB3.out _
  rw [← HK.out, Nat.zero_add] at hcv1
  have hklc : kl ≤ cap := by omega
  have hkvc : kl + vl ≤ cap := by omega
  have hkk : (kl : Int) ≤ (kl : Int) + (vl : Int) := by omega
  have hsum : IntKind.i64.wrap ((kl : Int) + (vl : Int)) = (kl : Int) + (vl : Int) := IntWalk.i64_in _ (by omega)
  have htn : ((kl : Int) + (vl : Int)).toNat = kl + vl := by omega
  have hs0 : 0 ≤ (kl : Int) + (vl : Int) := by omega
  have hs1 : (kl : Int) + (vl : Int) ≤ (cap : Int) := by omega
  rcases Classical.em (cap = kl) with hck | hck
  · obtain rfl : vl = 0 := by omega
    have hcv2 := run_conv (w3.drewN (nq + 1)) (some ⟨g, 0, none⟩) 0 0 ((D.drop kl).take 0) (by rw [List.take_zero]; rfl) (by rw [List.take_zero]; exact row_nil _ _)
    rw [← HV.out] at hcv2
    subst hck
    have hwr : IntKind.i64.wrap (cap : Int) = (cap : Int) := IntWalk.i64_in _ (by omega)
    clear hrow
    go_wp2_with fail
    refine wp_region_still_tail 20 (by kernel_rfl) (by kernel_rfl) ?_
    change wpStill _ _ (w3.drewN (nq + 1)) _ _ _
    simp only [List.take_succ_cons, List.take_zero, List.drop_succ_cons, List.drop_zero]
    iterate 3 still_step
    still_call (HG1.out _ HBD.out)
    still_step
    still_call (HG2.out _ HBD.out)
    still_step
    still_call (HG3.out _ HBD.out)
    iterate 3 still_step
    iterate 9 still_step
    refine wpStill_nil ?_
    go_wp2_with (first
      | ((with_reducible show wpList _ _ _ (⟨none, .store _ _ _, _, _, _, _⟩ :: _) _ _); refine wpList_store_whole (o := ⟨none, .store 95 (.tmp 2) (.tmp 67), _, _, _, _⟩) rfl _ _ _ rfl rfl p #[.int .i64 (cl : Nat), .int .i64 (kd : Nat), .int .u64 (B.id : Nat), .int .u64 (B.ver : Nat), .int .u64 (B.ep : Nat), .string B.key, .string B.val] rfl rfl 95 _ HA3.out size_block rfl (all_cells ⟨(cl : Nat), (kd : Nat), B.id, B.ver, B.ep, B.key, B.val⟩) ?_; intro w6 HA6 HB6))
    have HA7 := HA6.out
    rw [← HCLB.out, ← HKDB.out] at HA7
    refine bodyPost_ret (results_box rfl rfl rfl HA7) rfl ⟨rfl, ?_⟩
    rw [HP.out]
    exact ((below_drewN HB3.out nq).drew).trans HB6.out
  · have hcv2 := run_conv _ (some ⟨g, 0 + kl, none⟩) vl (cap - kl) ((D.drop kl).take vl) (by rw [List.length_take, List.length_drop, HDL.out]; omega) (hrow.part kl vl (by rw [HDL.out]; omega))
    rw [← HV.out, Nat.zero_add] at hcv2
    clear hrow
    go_wp2_with fail
    refine wp_region_still_tail 20 (by kernel_rfl) (by kernel_rfl) ?_
    change wpStill _ _ (w3.drewN (nq + 1)) _ _ _
    simp only [List.take_succ_cons, List.take_zero, List.drop_succ_cons, List.drop_zero]
    iterate 3 still_step
    still_call (HG1.out _ HBD.out)
    still_step
    still_call (HG2.out _ HBD.out)
    still_step
    still_call (HG3.out _ HBD.out)
    iterate 3 still_step
    iterate 9 still_step
    refine wpStill_nil ?_
    go_wp2_with (first
      | ((with_reducible show wpList _ _ _ (⟨none, .store _ _ _, _, _, _, _⟩ :: _) _ _); refine wpList_store_whole (o := ⟨none, .store 95 (.tmp 2) (.tmp 67), _, _, _, _⟩) rfl _ _ _ rfl rfl p #[.int .i64 (cl : Nat), .int .i64 (kd : Nat), .int .u64 (B.id : Nat), .int .u64 (B.ver : Nat), .int .u64 (B.ep : Nat), .string B.key, .string B.val] rfl rfl 95 _ HA3.out size_block rfl (all_cells ⟨(cl : Nat), (kd : Nat), B.id, B.ver, B.ep, B.key, B.val⟩) ?_; intro w6 HA6 HB6))
    have HA7 := HA6.out
    rw [← HCLB.out, ← HKDB.out] at HA7
    refine bodyPost_ret (results_box rfl rfl rfl HA7) rfl ⟨rfl, ?_⟩
    rw [HP.out]
    exact ((below_drewN HB3.out nq).drew).trans HB6.out

end Go.Proofs.YtlghphccmgmomaaGreat

/-
    Proved here: which bytes package block's read reads; what Decode answers where they are refused.
  Conditions: rows of at most 2^30 bytes.
-/
namespace Go.Proofs.YtlghphccmgmomaaGreat
open Go Go.RowKit
set_option maxRecDepth 100000

set_option maxHeartbeats 800000 in
set_option maxRecDepth 100000 in
theorem dec_refused (w : World) (A : Option Addr) (n c : Nat) (H : ∀ W, Below w.heap.size w W → Calls Tryz.prog 123 #[.slice A n c] W fun e w' => e = .returned (.tuple #[zeroBV.agg, .bool false]) ∧ Below W.heap.size W w') :
    Calls Tryz.prog 80 #[.slice A n c] w fun e w' => e = .returned (.tuple #[zeroBV.agg, .bool false]) ∧ Below w.heap.size w w' := by
  obtain ⟨p, hp⟩ : ∃ p, w.heap.size = p := ⟨_, rfl⟩
  have HP := Lib.hid hp
  have HZ := Lib.hid zero_block
  rw [hp] at H
  have HR := Lib.hid H
  clear hp H
  go_enter Tryz.func80, Tryz.ntmps80
  go_wp2_with (first
    | ((with_reducible show wpList _ _ _ (⟨some 2, .alloc _, _, _, _, _⟩ :: _) _ _); refine wpList_alloc_var (o := ⟨some 2, _, _, _, _, _⟩) rfl 95 rfl p HP.out _ HZ.out ?_; intro w1 HA1 HB1)
    | (go_at_call 123; refine (HR.out _ HB1.out).mono ?_; rintro e w2 ⟨rfl, hb⟩; have HA2 := Lib.hid ((hb.block p (lt_of_heap HA1.out)).trans HA1.out); have HB2 : Hid (Below p w w2) := HB1.out.trans (hb.mono (Nat.le_of_lt (lt_of_heap HA1.out))); obtain ⟨q, hq⟩ : ∃ q, w2.heap.size = q := ⟨_, rfl⟩; have HQ := Lib.hid hq; clear hb hq)
    | ((with_reducible show wpList _ _ _ (⟨some 4, .alloc _, _, _, _, _⟩ :: _) _ _); refine wpList_alloc_var (o := ⟨some 4, _, _, _, _, _⟩) rfl 95 rfl q HQ.out _ HZ.out ?_; intro w3 HA3 HB3; have HPQ : Hid (p < q) := HQ.out ▸ lt_of_heap HA2.out)
    | ((with_reducible show wpList _ _ _ (⟨none, .store _ (.tmp 4) _, _, _, _, _⟩ :: _) _ _); refine wpList_store_whole (o := ⟨none, .store 95 (.tmp 4) (.tmp 11), _, _, _, _⟩) rfl _ _ _ rfl rfl q zeroBV.cells.toArray rfl rfl 95 _ HA3.out size_block rfl (by decide +kernel) ?_; intro w5 HA5 HB5; have HA6 := Lib.hid (((HB3.out.trans HB5.out).block p HPQ.out).trans HA2.out))
    | ((with_reducible show wpList _ _ _ (⟨none, .store _ (.tmp 2) _, _, _, _, _⟩ :: _) _ _); refine wpList_store_whole (o := ⟨none, .store 95 (.tmp 2) (.tmp 15), _, _, _, _⟩) rfl _ _ _ rfl rfl p zeroBV.cells.toArray rfl rfl 95 _ HA6.out size_block rfl (by decide +kernel) ?_; intro w7 HA7 HB7))
  refine bodyPost_ret (results_box rfl rfl rfl HA7.out) rfl ⟨rfl, ?_⟩
  rw [HP.out]
  exact (HB2.out.trans ((HB3.out.trans HB5.out).mono (Nat.le_of_lt HPQ.out))).trans HB7.out
/-- What bytes must be, to be read at all. -/
structure Readable (l : List UInt8) : Prop where
  head : isHead (l.take 64) = true
  len : l.length = 64 * spanN (clOf l)
  fits : klOf l + vlOf l ≤ 28 + 63 * restN (clOf l)
theorem Readable.cl {l : List UInt8} (h : Readable l) : clOf l ≤ 3 := by
  have hh := h.head
  simp only [isHead, Bool.and_eq_true, decide_eq_true_eq] at hh
  have := hh.2.2.1
  rwa [clOf_take] at this
theorem lines_readable {b : BV} (h : mayB b = true) : Readable (linesL b) := by
  have hc := mayB_cl h
  have hk := mayB_kd h
  have h1 := lines_cl h
  have h2 := lines_kd h
  have hl := linesL_len h
  have hs := spanN_rest hc
  refine ⟨?_, by rw [hl, h1], ?_⟩
  · simp only [isHead, Bool.and_eq_true, decide_eq_true_eq]
    refine ⟨by rw [List.length_take, hl]; omega, ?_, by rw [clOf_take]; omega, by rw [kdOf_take]; omega⟩
    rw [take_getD _ 0 64 (by omega), lines_tag b]
    rfl
  · have h3 := data_le h
    rw [dataL_len] at h3
    rw [lines_kl h, lines_vl h, h1]
    omega
theorem readL_sizes {l : List UInt8} (h : Readable l) : (readL l).key.size ≤ 2000 ∧ (readL l).val.size ≤ 2000 := by
  have h1 := h.fits
  have h2 := klOf_lt l
  have h3 := restN_le (clOf l)
  have e1 : (readL l).key.size = ((dataOfL (restN (clOf l)) l).take (klOf l)).length := by simp [readL, ByteArray.size]
  have e2 : (readL l).val.size = (((dataOfL (restN (clOf l)) l).drop (klOf l)).take (vlOf l)).length := by simp [readL, ByteArray.size]
  rw [e1, e2, List.length_take, List.length_take]
  omega
theorem Readable.no {w : World} {b off n c : Nat} {l : List UInt8} (h : ¬ Readable l) (hl : l.length = n) (hc : n ≤ c) (hr : Row w (some ⟨b, off, none⟩) l) :
    Calls Tryz.prog 123 #[.slice (some ⟨b, off, none⟩) n c] w fun e w' => e = .returned (.tuple #[zeroBV.agg, .bool false]) ∧ Below w.heap.size w w' := by
  rcases Nat.lt_or_ge n 64 with h1 | h1
  · exact read_short w _ n c h1
  · cases hh : isHead (l.take 64) with
    | false => exact read_nohead w b off n c l hl h1 hc hr hh
    | true =>
      rcases Classical.em (n = 64 * spanN (clOf l)) with h2 | h2
      · rcases Nat.lt_or_ge (28 + 63 * restN (clOf l)) (klOf l + vlOf l) with h3 | h3
        · exact read_nodata w b off n c l hl hc hr hh h2 h3
        · exact absurd ⟨hh, hl.trans h2, h3⟩ h
      · exact read_nolen w b off n c l hl h1 hc hr hh h2

end Go.Proofs.YtlghphccmgmomaaGreat
