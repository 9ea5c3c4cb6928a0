/-
    Proved here: what chapter 6's own Decode answers of bytes that speak of a block that may be.
  Conditions: none.
-/
import Derived.Test.YtokobelmoanneaaBlockT
import Derived.Deep.RegionWith
namespace Go.Proofs.Ytokobelmoanneaa
open Go Go.RowKit

set_option maxHeartbeats 8000000 in
set_option maxRecDepth 100000 in
theorem rdec_g2 (w : World) (b off n c : Nat) (l : List UInt8) (hl : l.length = n) (hc : n ≤ c) (hr : Row w (some ⟨b, off, none⟩) l) (hcl3 : clOf l ≤ 3) (hs : n = 64 * spanN (clOf l)) (hd : klOf l + vlOf l ≤ 28 + 63 * restN (clOf l)) (hm : mayB (readL l) = true) (he : linesL (readL l) ≠ l) :
    Calls Try.prog 21 #[.slice (some ⟨b, off, none⟩) n c] w fun e w' => e = .returned (.tuple #[zeroBV.agg, .bool false]) ∧ Below w.heap.size w w' := by
  obtain ⟨p, hp⟩ : ∃ p, w.heap.size = p := ⟨_, rfl⟩
  have HP := Lib.hid hp
  have HZ := Lib.hid zero_block
  have hsr := spanN_rest (c := (clOf l : Nat)) (by omega)
  have hrl := restN_le (clOf l : Nat)
  have hn64 : 64 ≤ n := by omega
  have hn512 : n ≤ 512 := by omega
  have hdn : decide ((n : Int) < 64) = false := by simp; omega
  have hd3 : decide ((3 : Int) < (clOf l : Int)) = false := by simp; omega
  have HCE : Hid (∀ W, Below p w W → ∀ k, k < n → W.cell? ⟨b, off + k, none⟩ = some (.int .u8 ((l.getD k 0).toNat : Nat))) := fun W hW k hk => by
    obtain ⟨b', off', e, _, h2⟩ := (hr.below (hp.symm ▸ hW)).2 (by omega)
    simp only [Option.some.injEq, Addr.mk.injEq, and_true] at e
    obtain ⟨rfl, rfl⟩ := e
    exact h2 k (by omega)
  have HRW : Hid (∀ W, Below p w W → Row W (some ⟨b, off, none⟩) l) := fun W hW => hr.below (hp.symm ▸ hW)
  have HNUM : Hid (∀ W, Below p w W → ∀ a k cc, a + k ≤ n → k ≤ 8 → Calls Try.prog 40 #[.slice (some ⟨b, off + a, none⟩) k cc] W fun e w' => e = .returned (.int .u64 (le ((l.drop a).take k) : Nat)) ∧ W = w') := fun W hW a k cc h1 h2 => number_any (some ⟨b, off + a, none⟩) k cc _ (by rw [List.length_take, List.length_drop]; omega) h2 W ((hr.below (hp.symm ▸ hW)).part a k (by omega))
  have HSP := Lib.hid (fun W => rspan_any (clOf l : Nat) W)
  rw [hsr] at HSP
  have hne : ((n : Int) != 64 * ((restN (clOf l : Nat) + 1 : Nat) : Int)) = false := by simp; omega
  have hcl2 : clOf l < 256 := by omega
  have hkd2 : kdOf l < 256 := UInt8.toNat_lt _
  have hkl2 := klOf_lt l
  have hvl2 := vlOf_lt l
  have h1n : (1 : Int) < (n : Int) := by omega
  have h2n : (2 : Int) < (n : Int) := by omega
  have h3n : (3 : Int) < (n : Int) := by omega
  have h1m : 1 < n := by omega
  have h2m : 2 < n := by omega
  have h3m : 3 < n := by omega
  have hc64 : 64 ≤ c := by omega
  have q4 : ¬ c = 4 := by omega
  have q8 : ¬ c = 8 := by omega
  have q16 : ¬ c = 16 := by omega
  have q24 : ¬ c = 24 := by omega
  have q36 : ¬ c = 36 := by omega
  have HK1 : Hid (∀ W, Below p w W → W.cell? ⟨b, off + 1, none⟩ = some (.int .u8 (clOf l : Nat))) := fun W hW => HCE.out W hW 1 (by omega)
  have HK2 : Hid (∀ W, Below p w W → W.cell? ⟨b, off + 2, none⟩ = some (.int .u8 (kdOf l : Nat))) := fun W hW => HCE.out W hW 2 (by omega)
  have HK3 : Hid (∀ W, Below p w W → W.cell? ⟨b, off + 3, none⟩ = some (.int .u8 (klOf l : Nat))) := fun W hW => HCE.out W hW 3 (by omega)
  have HN1 : Hid (∀ W, Below p w W → Calls Try.prog 40 #[.slice (some ⟨b, off + 8, none⟩) 8 (c - 8)] W fun e w' => e = .returned (.int .u64 ((readL l).id : Nat)) ∧ W = w') := fun W hW => HNUM.out W hW 8 8 _ (by omega) (by omega)
  have HN2 : Hid (∀ W, Below p w W → Calls Try.prog 40 #[.slice (some ⟨b, off + 16, none⟩) 8 (c - 16)] W fun e w' => e = .returned (.int .u64 ((readL l).ver : Nat)) ∧ W = w') := fun W hW => HNUM.out W hW 16 8 _ (by omega) (by omega)
  have HN3 : Hid (∀ W, Below p w W → Calls Try.prog 40 #[.slice (some ⟨b, off + 24, none⟩) 8 (c - 24)] W fun e w' => e = .returned (.int .u64 ((readL l).ep : Nat)) ∧ W = w') := fun W hW => HNUM.out W hW 24 8 _ (by omega) (by omega)
  have HN4 : Hid (∀ W, Below p w W → Calls Try.prog 40 #[.slice (some ⟨b, off + 4, none⟩) 2 (c - 4)] W fun e w' => e = .returned (.int .u64 (vlOf l : Nat)) ∧ W = w') := fun W hW => HNUM.out W hW 4 2 _ (by omega) (by omega)
  have HCV : Hid (∀ W, Below p w W → ∀ a k cc, a + k ≤ n → (convert 27 9 (.slice (some ⟨b, off + a, none⟩) k cc)).run Try.prog W = .ok (.string ⟨((l.drop a).take k).toArray⟩) W) := fun W hW a k cc h => run_conv W (some ⟨b, off + a, none⟩) k cc _ (by rw [List.length_take, List.length_drop]; omega) ((hr.below (hp.symm ▸ hW)).part a k (by omega))
  have HDN : Hid (∀ i, i ≤ restN (clOf l : Nat) → (dataOfL i l).length = 28 + 63 * i) := fun i hi => dataOfL_lenLe (by omega)
  have HD0 : Hid ((l.drop 36).take 28 = dataOfL 0 l) := (by show _ = _; simp [dataOfL, untags])
  have HDX : Hid (∀ i, i < restN (clOf l : Nat) → dataOfL i l ++ (l.drop (64 + 64 * i + 1)).take 63 = dataOfL (i + 1) l) := fun i hi => dataOfL_next _ i l hi
  have HNN : Hid (n = 64 * (restN (clOf l : Nat) + 1)) := hs.trans (by rw [hsr])
  have HKY : Hid ((readL l).key = ⟨((dataOfL (restN (clOf l)) l).take (klOf l)).toArray⟩) := rfl
  have HVL : Hid ((readL l).val = ⟨(((dataOfL (restN (clOf l)) l).drop (klOf l)).take (vlOf l)).toArray⟩) := rfl
  have HCLB : Hid ((readL l).cl = (clOf l : Nat)) := rfl
  have HKDB : Hid ((readL l).kd = (kdOf l : Nat)) := rfl
  have HMY := Lib.hid (fun W => rmay_any (readL l) (readL_size2 hd).1 (readL_size2 hd).2 W)
  have HAC := Lib.hid (all_cells (readL l))
  rw [hm] at HMY
  have HLI := Lib.hid (fun W => rlines_any (readL l) (readL_ok l) hm W)
  unfold RowTo at HLI
  have HLB : Hid (0 < (linesL (readL l)).length ∧ (linesL (readL l)).length ≤ 1073741824) := (by
    have h1 := linesL_len hm
    have h2 := spanN_some (c := (readL l).cl) (by have := mayB_cl hm; omega)
    show _ ∧ _
    omega)
  have HCL : Hid (∀ (W : World) g cap, Row W (some ⟨g, 0, none⟩) (linesL (readL l)) → (convert 27 9 (.slice (some ⟨g, 0, none⟩) (linesL (readL l)).length cap)).run Try.prog W = .ok (.string ⟨(linesL (readL l)).toArray⟩) W) := fun W g cap h => run_conv W (some ⟨g, 0, none⟩) _ cap _ rfl h
  have HCB : Hid (∀ W, Below p w W → (convert 27 9 (.slice (some ⟨b, off, none⟩) n c)).run Try.prog W = .ok (.string ⟨l.toArray⟩) W) := fun W hW => run_conv W (some ⟨b, off, none⟩) n c l hl (HRW.out W hW)
  have hEQ : ((⟨(linesL (readL l)).toArray⟩ : ByteArray).toList == (⟨l.toArray⟩ : ByteArray).toList) = false := by rw [ByteArray.toList_eq, ByteArray.toList_eq]; simpa using he
  rw [BV.agg] at HMY HLI
  generalize (⟨(linesL (readL l)).toArray⟩ : ByteArray) = LS at *
  generalize (⟨l.toArray⟩ : ByteArray) = BS at *
  generalize linesL (readL l) = LL at *
  clear hm he
  generalize restN (clOf l : Nat) = m at *
  generalize clOf l = cl at *
  generalize kdOf l = kd at *
  generalize klOf l = kl at *
  generalize vlOf l = vl at *
  generalize readL l = B at *
  clear hs hsr hl hr hp hcl3 HCE HNUM
  go_enter Try.func21, Try.ntmps21
  go_wp2_with (first
    | ((with_reducible show wpList _ _ _ (⟨some 2, .alloc _, _, _, _, _⟩ :: _) _ _); refine wpList_alloc_var (o := ⟨some 2, _, _, _, _, _⟩) rfl 24 rfl p HP.out _ HZ.out ?_; intro w1 HA1 HB1; have hk1 := HK1.out _ HB1.out; have hk2 := HK2.out _ HB1.out)
    | (go_at_call 39; refine (HSP.out _).mono ?_; rintro e w' ⟨rfl, rfl⟩))
  obtain ⟨q, hq⟩ : ∃ q, w1.heap.size = q := ⟨_, rfl⟩
  have HPQ : Hid (p < q) := hq ▸ lt_of_heap HA1.out
  have hwc : IntKind.i64.wrap (cl : Int) = (cl : Int) := IntWalk.i64_in _ (by omega)
  have hwk : IntKind.i64.wrap (kd : Int) = (kd : Int) := IntWalk.i64_in _ (by omega)
  go_region_held3 (fun w' => w'.cell? ⟨b, off + 1, none⟩ = some (.int .u8 (cl : Nat)) ∧ w'.cell? ⟨b, off + 2, none⟩ = some (.int .u8 (kd : Nat))) (go_keep)
    (fail)
  have HX3 : Hid (Below q w1 (w1.alloc (.cells #[.int .i64 (cl : Nat), .int .i64 (kd : Nat), .int .u64 0, .int .u64 0, .int .u64 0, .string ⟨#[]⟩, .string ⟨#[]⟩] 24)).drew) := (by rw [← hq]; exact ((Below.refl _ _).alloc (Nat.le_refl _) _).drew)
  have HQ3 : Hid (Box (w1.alloc (.cells #[.int .i64 (cl : Nat), .int .i64 (kd : Nat), .int .u64 0, .int .u64 0, .int .u64 0, .string ⟨#[]⟩, .string ⟨#[]⟩] 24)).drew q ⟨cl, kd, 0, 0, 0, ⟨#[]⟩, ⟨#[]⟩⟩) := (by rw [← hq]; exact box_new w1 ⟨cl, kd, 0, 0, 0, ⟨#[]⟩, ⟨#[]⟩⟩)
  generalize (w1.alloc (.cells #[.int .i64 (cl : Nat), .int .i64 (kd : Nat), .int .u64 0, .int .u64 0, .int .u64 0, .string ⟨#[]⟩, .string ⟨#[]⟩] 24)).drew = W3 at *
  have HB3 : Hid (Below p w W3) := HB1.out.trans (HX3.out.mono (Nat.le_of_lt HPQ.out))
  have HA3 := Lib.hid ((HX3.out.block p HPQ.out).trans HA1.out)
  clear hk1 hk2 hq hwc hwk
  go_wp2_with fail
  refine (HN1.out _ HB3.out).mono ?_
  rintro e w' ⟨rfl, rfl⟩
  have hce3 := HQ3.out.cell 2
  simp only [List.getElem?_toArray, List.getElem?_cons_succ, List.getElem?_cons_zero] at hce3
  have hfz3 := HQ3.out.frozen 2
  have HQ4 := Lib.hid (HQ3.out.setId B.id)
  have HX4 : Hid (Below q w1 (W3.setCell ⟨q, 2, none⟩ (.int .u64 (B.id : Nat)))) := HX3.out.setCell (Nat.le_refl _) _
  have HB4 : Hid (Below p w (W3.setCell ⟨q, 2, none⟩ (.int .u64 (B.id : Nat)))) := HB3.out.setCell (Nat.le_of_lt HPQ.out) _
  have HA4 := Lib.hid ((HX4.out.block p HPQ.out).trans HA1.out)
  obtain ⟨W4, hW4⟩ : ∃ W, W3.setCell ⟨q, 2, none⟩ (.int .u64 (B.id : Nat)) = W := ⟨_, rfl⟩
  rw [hW4] at HQ4 HX4 HB4 HA4
  go_wp2_with fail
  refine (HN2.out _ HB4.out).mono ?_
  rintro e w' ⟨rfl, rfl⟩
  clear hce3 hfz3 hW4
  have hce4 := HQ4.out.cell 3
  simp only [List.getElem?_toArray, List.getElem?_cons_succ, List.getElem?_cons_zero] at hce4
  have hfz4 := HQ4.out.frozen 3
  have HQ5 := Lib.hid (HQ4.out.setVer B.ver)
  have HX5 : Hid (Below q w1 (W4.setCell ⟨q, 3, none⟩ (.int .u64 (B.ver : Nat)))) := HX4.out.setCell (Nat.le_refl _) _
  have HB5 : Hid (Below p w (W4.setCell ⟨q, 3, none⟩ (.int .u64 (B.ver : Nat)))) := HB4.out.setCell (Nat.le_of_lt HPQ.out) _
  have HA5 := Lib.hid ((HX5.out.block p HPQ.out).trans HA1.out)
  obtain ⟨W5, hW5⟩ : ∃ W, W4.setCell ⟨q, 3, none⟩ (.int .u64 (B.ver : Nat)) = W := ⟨_, rfl⟩
  rw [hW5] at HQ5 HX5 HB5 HA5
  go_wp2_with fail
  refine (HN3.out _ HB5.out).mono ?_
  rintro e w' ⟨rfl, rfl⟩
  clear hce4 hfz4 hW5
  have hce5 := HQ5.out.cell 4
  simp only [List.getElem?_toArray, List.getElem?_cons_succ, List.getElem?_cons_zero] at hce5
  have hfz5 := HQ5.out.frozen 4
  have HQ6 := Lib.hid (HQ5.out.setEp B.ep)
  have HX6 : Hid (Below q w1 (W5.setCell ⟨q, 4, none⟩ (.int .u64 (B.ep : Nat)))) := HX5.out.setCell (Nat.le_refl _) _
  have HB6 : Hid (Below p w (W5.setCell ⟨q, 4, none⟩ (.int .u64 (B.ep : Nat)))) := HB5.out.setCell (Nat.le_of_lt HPQ.out) _
  have HA6 := Lib.hid ((HX6.out.block p HPQ.out).trans HA1.out)
  obtain ⟨W6, hW6⟩ : ∃ W, W5.setCell ⟨q, 4, none⟩ (.int .u64 (B.ep : Nat)) = W := ⟨_, rfl⟩
  rw [hW6] at HQ6 HX6 HB6 HA6
  have hcv0 := HCV.out W6 HB6.out 36 28 (c - 36) (by omega)
  rw [HD0.out] at hcv0
  obtain ⟨S0, hS0⟩ : ∃ S0 : ByteArray, (⟨(dataOfL 0 l).toArray⟩ : ByteArray) = S0 := ⟨_, rfl⟩
  rw [hS0] at hcv0
  have HS0 : Hid (S0.data.toList = dataOfL 0 l) := (by show _ = _; rw [← hS0])
  have HCVK : Hid (∀ k, 1 ≤ k → k ≤ m → ∃ T : ByteArray, T.data.toList = (l.drop (64 * k + 1)).take 63 ∧ (convert 27 9 (.slice (some ⟨b, off + (64 * k + 1), none⟩) 63 (c - (64 * k + 1)))).run Try.prog W6 = .ok (.string T) W6) := fun k h1 h2 => by
    have h3 := HCV.out W6 HB6.out (64 * k + 1) 63 (c - (64 * k + 1)) (by have := HNN.out; omega)
    refine ⟨⟨((l.drop (64 * k + 1)).take 63).toArray⟩, by simp, h3⟩
  have hce0 := HQ6.out.cell 0
  simp only [List.getElem?_toArray, List.getElem?_cons_zero] at hce0
  clear hS0
  go_wp2
  clear hce5 hfz5 hW6 hcv0
  go_loopg [5, 6] m (fun gk s5 s6 wx => ∃ (i k : Nat) (Z : ByteArray), i + gk = m ∧ Hid (k = i + 1) ∧ s6 = .int .i64 k ∧ s5 = .string Z ∧ Hid (Z.data.toList = dataOfL i l) ∧ W6 = wx)
  case atStart => exact ⟨0, 1, S0, by omega, rfl, rfl, rfl, HS0, rfl⟩
  case round =>
    obtain ⟨i, k, Z, hig, HKI, rfl, rfl, HZ, rfl⟩ := hrel
    have HZS : Hid (Z.size = 28 + 63 * i) := (by show _ = _; rw [show Z.size = Z.data.toList.length from rfl, HZ.out, HDN.out i (by omega)])
    cases gk with
    | succ gk =>
      have hlt : (k : Int) < ((m + 1 : Nat) : Int) := by have := HKI.out; omega
      have hk1 : 1 ≤ k := by have := HKI.out; omega
      have hkm : k ≤ m := by have := HKI.out; omega
      have hzs : Z.size ≤ 469 := by have := HZS.out; omega
      obtain ⟨T, hT, hcv⟩ := HCVK.out k hk1 hkm
      have hkc : ¬ c = 64 * k + 1 := by have := HNN.out; omega
      have hkn : 64 * k + 64 ≤ c := by have := HNN.out; omega
      have hts : T.size ≤ 63 := by rw [show T.size = T.data.toList.length from rfl, hT, List.length_take]; omega
      have HT := Lib.hid hT
      clear hT
      go_wp2_with fail
      refine (HSP.out _).mono ?_
      rintro e w' ⟨rfl, rfl⟩
      go_wp2
      go_roundg gk
      case measure => omega
      case rel =>
        refine ⟨i + 1, k + 1, _, by omega, (by have := HKI.out; show _ = _; omega), by go_num, rfl, ?_, rfl⟩
        show _ = _
        rw [app_data, HZ.out, HT.out, ← HDX.out i (by omega), HKI.out, show 64 * (i + 1) + 1 = 64 + 64 * i + 1 by omega]
    | zero =>
      obtain rfl : i = m := by omega
      have hlt : ¬ (k : Int) < ((i + 1 : Nat) : Int) := by have := HKI.out; omega
      have hk3 := HK3.out W6 HB6.out
      have hzs : Z.size = 28 + 63 * i := HZS.out
      have hz5 : Z.size ≤ 469 := by omega
      have hle : (kl : Int) + (vl : Int) ≤ (Z.size : Int) := by omega
      have hle2 : kl + vl ≤ Z.size := by omega
      have hle3 : kl ≤ Z.size := by omega
      clear hzs
      go_wp2_with fail
      refine (HSP.out _).mono ?_
      rintro e w' ⟨rfl, rfl⟩
      go_wp2_with fail
      go_quiet ((go_at_call 40; exact quiet_same (HN4.out _ (below_drewN HB6.out _))))
      have hce5 : W6.cell? ⟨q, 5, none⟩ = some (.string ⟨#[]⟩) := HQ6.out.cell 5
      have hfz5 := HQ6.out.frozen 5
      have hce6 : W6.cell? ⟨q, 6, none⟩ = some (.string ⟨#[]⟩) := HQ6.out.cell 6
      have hfz6 := HQ6.out.frozen 6
      have HQ8 : Hid (Box (((W6.drewN nq).setCell ⟨q, 5, none⟩ (.string (Z.extract 0 kl))).setCell ⟨q, 6, none⟩ (.string (Z.extract kl (kl + vl)))) q B) := (by
        have h1 : Box (W6.drewN nq) q _ := HQ6.out
        have h2 := (h1.setKey (Z.extract 0 kl)).setVal (Z.extract kl (kl + vl))
        have e1 : Z.extract 0 kl = B.key := by
          have := extract_eq Z 0 kl
          rw [Nat.zero_add, HZ.out, List.drop_zero] at this
          rw [this, HKY.out]
        have e2 : Z.extract kl (kl + vl) = B.val := by rw [extract_eq, HZ.out, HVL.out]
        rw [e1, e2] at h2 ⊢
        have h3 : (⟨(cl : Nat), (kd : Nat), B.id, B.ver, B.ep, B.key, B.val⟩ : BV) = B := by rw [← HCLB.out, ← HKDB.out]
        rw [← h3]
        exact h2)
      have HX8 : Hid (Below q w1 (((W6.drewN nq).setCell ⟨q, 5, none⟩ (.string (Z.extract 0 kl))).setCell ⟨q, 6, none⟩ (.string (Z.extract kl (kl + vl))))) := ((below_drewN HX6.out _).setCell (Nat.le_refl _) _).setCell (Nat.le_refl _) _
      go_wp2_with fail
      generalize ((W6.drewN nq).setCell ⟨q, 5, none⟩ (.string (Z.extract 0 kl))).setCell ⟨q, 6, none⟩ (.string (Z.extract kl (kl + vl))) = W8 at *
      have HB8 : Hid (Below p w W8) := HB1.out.trans (HX8.out.mono (Nat.le_of_lt HPQ.out))
      have HA8 := Lib.hid ((HX8.out.block p HPQ.out).trans HA1.out)
      clear hce5 hfz5 hce6 hfz6 hce0 hk3
      obtain ⟨bcl, bkd, bid, bver, bep, bkey, bval⟩ := B
      simp only at *
      obtain ⟨c0, c1, c2, c3, c4, c5, c6⟩ := HQ8.out.cells
      have hcb0 := HCB.out W8.drew HB8.out.drew
      go_region_with
        (first
          | (go_at_call 13; refine (HMY.out _).mono ?_; rintro e w9 ⟨rfl, hb⟩; have HQ9 := Lib.hid (Box.below (w := W8.drew) HQ8.out hb HQ8.out.lt); have HA9 := Lib.hid ((hb.block p (lt_of_heap HA8.out)).trans HA8.out); have HB9 : Hid (Below p w w9) := HB8.out.drew.trans (hb.mono (HP.out ▸ HB8.out.size)); obtain ⟨d0, d1, d2, d3, d4, d5, d6⟩ := HQ9.out.cells; have hcb9 := HCB.out w9 HB9.out; clear hb)
          | (go_at_call 36; refine (HLI.out _).mono ?_; rintro e w10 ⟨V, rfl, hown, hb⟩; obtain ⟨g, cap, rfl, hcap, hgp, hgl, hrow⟩ := own_form hown HLB.out.1 HLB.out.2; have HQ10 := Lib.hid (HQ9.out.below hb HQ9.out.lt); have HA10 := Lib.hid ((hb.block p (lt_of_heap HA9.out)).trans HA9.out); have HB10 : Hid (Below p w w10) := HB9.out.trans (hb.mono (HP.out ▸ HB9.out.size)); obtain ⟨e0, e1, e2, e3, e4, e5, e6⟩ := HQ10.out.cells; have hcb10 := HCB.out w10 HB10.out; have hcl10 := HCL.out w10 g cap hrow; clear hb hown hrow hcap hgp hgl))
      all_goals
        go_wp2_with (first
          | ((with_reducible show wpList _ _ _ (⟨none, .store _ _ _, _, _, _, _⟩ :: _) _ _); refine wpList_store_whole (o := ⟨none, .store 24 (.tmp 2) (.tmp 109), _, _, _, _⟩) rfl _ _ _ rfl rfl p zeroBV.cells.toArray rfl rfl 24 _ HA10.out size_block rfl (by decide +kernel) ?_; intro w11 HA11 HB11))
        refine bodyPost_ret (results_box rfl rfl rfl HA11.out) rfl ⟨rfl, ?_⟩
        rw [HP.out]
        exact HB10.out.trans HB11.out

set_option maxHeartbeats 8000000 in
set_option maxRecDepth 100000 in
theorem rdec_g3 (w : World) (b off n c : Nat) (l : List UInt8) (hl : l.length = n) (hc : n ≤ c) (hr : Row w (some ⟨b, off, none⟩) l) (hcl3 : clOf l ≤ 3) (hs : n = 64 * spanN (clOf l)) (hd : klOf l + vlOf l ≤ 28 + 63 * restN (clOf l)) (hm : mayB (readL l) = true) (he : linesL (readL l) = l) :
    Calls Try.prog 21 #[.slice (some ⟨b, off, none⟩) n c] w fun e w' => e = .returned (.tuple #[(readL l).agg, .bool true]) ∧ Below w.heap.size w w' := by
  obtain ⟨p, hp⟩ : ∃ p, w.heap.size = p := ⟨_, rfl⟩
  have HP := Lib.hid hp
  have HZ := Lib.hid zero_block
  have hsr := spanN_rest (c := (clOf l : Nat)) (by omega)
  have hrl := restN_le (clOf l : Nat)
  have hn64 : 64 ≤ n := by omega
  have hn512 : n ≤ 512 := by omega
  have hdn : decide ((n : Int) < 64) = false := by simp; omega
  have hd3 : decide ((3 : Int) < (clOf l : Int)) = false := by simp; omega
  have HCE : Hid (∀ W, Below p w W → ∀ k, k < n → W.cell? ⟨b, off + k, none⟩ = some (.int .u8 ((l.getD k 0).toNat : Nat))) := fun W hW k hk => by
    obtain ⟨b', off', e, _, h2⟩ := (hr.below (hp.symm ▸ hW)).2 (by omega)
    simp only [Option.some.injEq, Addr.mk.injEq, and_true] at e
    obtain ⟨rfl, rfl⟩ := e
    exact h2 k (by omega)
  have HRW : Hid (∀ W, Below p w W → Row W (some ⟨b, off, none⟩) l) := fun W hW => hr.below (hp.symm ▸ hW)
  have HNUM : Hid (∀ W, Below p w W → ∀ a k cc, a + k ≤ n → k ≤ 8 → Calls Try.prog 40 #[.slice (some ⟨b, off + a, none⟩) k cc] W fun e w' => e = .returned (.int .u64 (le ((l.drop a).take k) : Nat)) ∧ W = w') := fun W hW a k cc h1 h2 => number_any (some ⟨b, off + a, none⟩) k cc _ (by rw [List.length_take, List.length_drop]; omega) h2 W ((hr.below (hp.symm ▸ hW)).part a k (by omega))
  have HSP := Lib.hid (fun W => rspan_any (clOf l : Nat) W)
  rw [hsr] at HSP
  have hne : ((n : Int) != 64 * ((restN (clOf l : Nat) + 1 : Nat) : Int)) = false := by simp; omega
  have hcl2 : clOf l < 256 := by omega
  have hkd2 : kdOf l < 256 := UInt8.toNat_lt _
  have hkl2 := klOf_lt l
  have hvl2 := vlOf_lt l
  have h1n : (1 : Int) < (n : Int) := by omega
  have h2n : (2 : Int) < (n : Int) := by omega
  have h3n : (3 : Int) < (n : Int) := by omega
  have h1m : 1 < n := by omega
  have h2m : 2 < n := by omega
  have h3m : 3 < n := by omega
  have hc64 : 64 ≤ c := by omega
  have q4 : ¬ c = 4 := by omega
  have q8 : ¬ c = 8 := by omega
  have q16 : ¬ c = 16 := by omega
  have q24 : ¬ c = 24 := by omega
  have q36 : ¬ c = 36 := by omega
  have HK1 : Hid (∀ W, Below p w W → W.cell? ⟨b, off + 1, none⟩ = some (.int .u8 (clOf l : Nat))) := fun W hW => HCE.out W hW 1 (by omega)
  have HK2 : Hid (∀ W, Below p w W → W.cell? ⟨b, off + 2, none⟩ = some (.int .u8 (kdOf l : Nat))) := fun W hW => HCE.out W hW 2 (by omega)
  have HK3 : Hid (∀ W, Below p w W → W.cell? ⟨b, off + 3, none⟩ = some (.int .u8 (klOf l : Nat))) := fun W hW => HCE.out W hW 3 (by omega)
  have HN1 : Hid (∀ W, Below p w W → Calls Try.prog 40 #[.slice (some ⟨b, off + 8, none⟩) 8 (c - 8)] W fun e w' => e = .returned (.int .u64 ((readL l).id : Nat)) ∧ W = w') := fun W hW => HNUM.out W hW 8 8 _ (by omega) (by omega)
  have HN2 : Hid (∀ W, Below p w W → Calls Try.prog 40 #[.slice (some ⟨b, off + 16, none⟩) 8 (c - 16)] W fun e w' => e = .returned (.int .u64 ((readL l).ver : Nat)) ∧ W = w') := fun W hW => HNUM.out W hW 16 8 _ (by omega) (by omega)
  have HN3 : Hid (∀ W, Below p w W → Calls Try.prog 40 #[.slice (some ⟨b, off + 24, none⟩) 8 (c - 24)] W fun e w' => e = .returned (.int .u64 ((readL l).ep : Nat)) ∧ W = w') := fun W hW => HNUM.out W hW 24 8 _ (by omega) (by omega)
  have HN4 : Hid (∀ W, Below p w W → Calls Try.prog 40 #[.slice (some ⟨b, off + 4, none⟩) 2 (c - 4)] W fun e w' => e = .returned (.int .u64 (vlOf l : Nat)) ∧ W = w') := fun W hW => HNUM.out W hW 4 2 _ (by omega) (by omega)
  have HCV : Hid (∀ W, Below p w W → ∀ a k cc, a + k ≤ n → (convert 27 9 (.slice (some ⟨b, off + a, none⟩) k cc)).run Try.prog W = .ok (.string ⟨((l.drop a).take k).toArray⟩) W) := fun W hW a k cc h => run_conv W (some ⟨b, off + a, none⟩) k cc _ (by rw [List.length_take, List.length_drop]; omega) ((hr.below (hp.symm ▸ hW)).part a k (by omega))
  have HDN : Hid (∀ i, i ≤ restN (clOf l : Nat) → (dataOfL i l).length = 28 + 63 * i) := fun i hi => dataOfL_lenLe (by omega)
  have HD0 : Hid ((l.drop 36).take 28 = dataOfL 0 l) := (by show _ = _; simp [dataOfL, untags])
  have HDX : Hid (∀ i, i < restN (clOf l : Nat) → dataOfL i l ++ (l.drop (64 + 64 * i + 1)).take 63 = dataOfL (i + 1) l) := fun i hi => dataOfL_next _ i l hi
  have HNN : Hid (n = 64 * (restN (clOf l : Nat) + 1)) := hs.trans (by rw [hsr])
  have HKY : Hid ((readL l).key = ⟨((dataOfL (restN (clOf l)) l).take (klOf l)).toArray⟩) := rfl
  have HVL : Hid ((readL l).val = ⟨(((dataOfL (restN (clOf l)) l).drop (klOf l)).take (vlOf l)).toArray⟩) := rfl
  have HCLB : Hid ((readL l).cl = (clOf l : Nat)) := rfl
  have HKDB : Hid ((readL l).kd = (kdOf l : Nat)) := rfl
  have HMY := Lib.hid (fun W => rmay_any (readL l) (readL_size2 hd).1 (readL_size2 hd).2 W)
  have HAC := Lib.hid (all_cells (readL l))
  rw [hm] at HMY
  have HLI := Lib.hid (fun W => rlines_any (readL l) (readL_ok l) hm W)
  unfold RowTo at HLI
  have HLB : Hid (0 < (linesL (readL l)).length ∧ (linesL (readL l)).length ≤ 1073741824) := (by
    have h1 := linesL_len hm
    have h2 := spanN_some (c := (readL l).cl) (by have := mayB_cl hm; omega)
    show _ ∧ _
    omega)
  have HCL : Hid (∀ (W : World) g cap, Row W (some ⟨g, 0, none⟩) (linesL (readL l)) → (convert 27 9 (.slice (some ⟨g, 0, none⟩) (linesL (readL l)).length cap)).run Try.prog W = .ok (.string ⟨(linesL (readL l)).toArray⟩) W) := fun W g cap h => run_conv W (some ⟨g, 0, none⟩) _ cap _ rfl h
  have HCB : Hid (∀ W, Below p w W → (convert 27 9 (.slice (some ⟨b, off, none⟩) n c)).run Try.prog W = .ok (.string ⟨l.toArray⟩) W) := fun W hW => run_conv W (some ⟨b, off, none⟩) n c l hl (HRW.out W hW)
  have hEQ : ((⟨(linesL (readL l)).toArray⟩ : ByteArray).toList == (⟨l.toArray⟩ : ByteArray).toList) = true := by rw [ByteArray.toList_eq, ByteArray.toList_eq]; simpa using he
  rw [BV.agg] at HMY HLI
  generalize (⟨(linesL (readL l)).toArray⟩ : ByteArray) = LS at *
  generalize (⟨l.toArray⟩ : ByteArray) = BS at *
  generalize linesL (readL l) = LL at *
  clear hm he
  generalize restN (clOf l : Nat) = m at *
  generalize clOf l = cl at *
  generalize kdOf l = kd at *
  generalize klOf l = kl at *
  generalize vlOf l = vl at *
  generalize readL l = B at *
  clear hs hsr hl hr hp hcl3 HCE HNUM
  go_enter Try.func21, Try.ntmps21
  go_wp2_with (first
    | ((with_reducible show wpList _ _ _ (⟨some 2, .alloc _, _, _, _, _⟩ :: _) _ _); refine wpList_alloc_var (o := ⟨some 2, _, _, _, _, _⟩) rfl 24 rfl p HP.out _ HZ.out ?_; intro w1 HA1 HB1; have hk1 := HK1.out _ HB1.out; have hk2 := HK2.out _ HB1.out)
    | (go_at_call 39; refine (HSP.out _).mono ?_; rintro e w' ⟨rfl, rfl⟩))
  obtain ⟨q, hq⟩ : ∃ q, w1.heap.size = q := ⟨_, rfl⟩
  have HPQ : Hid (p < q) := hq ▸ lt_of_heap HA1.out
  have hwc : IntKind.i64.wrap (cl : Int) = (cl : Int) := IntWalk.i64_in _ (by omega)
  have hwk : IntKind.i64.wrap (kd : Int) = (kd : Int) := IntWalk.i64_in _ (by omega)
  go_region_held3 (fun w' => w'.cell? ⟨b, off + 1, none⟩ = some (.int .u8 (cl : Nat)) ∧ w'.cell? ⟨b, off + 2, none⟩ = some (.int .u8 (kd : Nat))) (go_keep)
    (fail)
  have HX3 : Hid (Below q w1 (w1.alloc (.cells #[.int .i64 (cl : Nat), .int .i64 (kd : Nat), .int .u64 0, .int .u64 0, .int .u64 0, .string ⟨#[]⟩, .string ⟨#[]⟩] 24)).drew) := (by rw [← hq]; exact ((Below.refl _ _).alloc (Nat.le_refl _) _).drew)
  have HQ3 : Hid (Box (w1.alloc (.cells #[.int .i64 (cl : Nat), .int .i64 (kd : Nat), .int .u64 0, .int .u64 0, .int .u64 0, .string ⟨#[]⟩, .string ⟨#[]⟩] 24)).drew q ⟨cl, kd, 0, 0, 0, ⟨#[]⟩, ⟨#[]⟩⟩) := (by rw [← hq]; exact box_new w1 ⟨cl, kd, 0, 0, 0, ⟨#[]⟩, ⟨#[]⟩⟩)
  generalize (w1.alloc (.cells #[.int .i64 (cl : Nat), .int .i64 (kd : Nat), .int .u64 0, .int .u64 0, .int .u64 0, .string ⟨#[]⟩, .string ⟨#[]⟩] 24)).drew = W3 at *
  have HB3 : Hid (Below p w W3) := HB1.out.trans (HX3.out.mono (Nat.le_of_lt HPQ.out))
  have HA3 := Lib.hid ((HX3.out.block p HPQ.out).trans HA1.out)
  clear hk1 hk2 hq hwc hwk
  go_wp2_with fail
  refine (HN1.out _ HB3.out).mono ?_
  rintro e w' ⟨rfl, rfl⟩
  have hce3 := HQ3.out.cell 2
  simp only [List.getElem?_toArray, List.getElem?_cons_succ, List.getElem?_cons_zero] at hce3
  have hfz3 := HQ3.out.frozen 2
  have HQ4 := Lib.hid (HQ3.out.setId B.id)
  have HX4 : Hid (Below q w1 (W3.setCell ⟨q, 2, none⟩ (.int .u64 (B.id : Nat)))) := HX3.out.setCell (Nat.le_refl _) _
  have HB4 : Hid (Below p w (W3.setCell ⟨q, 2, none⟩ (.int .u64 (B.id : Nat)))) := HB3.out.setCell (Nat.le_of_lt HPQ.out) _
  have HA4 := Lib.hid ((HX4.out.block p HPQ.out).trans HA1.out)
  obtain ⟨W4, hW4⟩ : ∃ W, W3.setCell ⟨q, 2, none⟩ (.int .u64 (B.id : Nat)) = W := ⟨_, rfl⟩
  rw [hW4] at HQ4 HX4 HB4 HA4
  go_wp2_with fail
  refine (HN2.out _ HB4.out).mono ?_
  rintro e w' ⟨rfl, rfl⟩
  clear hce3 hfz3 hW4
  have hce4 := HQ4.out.cell 3
  simp only [List.getElem?_toArray, List.getElem?_cons_succ, List.getElem?_cons_zero] at hce4
  have hfz4 := HQ4.out.frozen 3
  have HQ5 := Lib.hid (HQ4.out.setVer B.ver)
  have HX5 : Hid (Below q w1 (W4.setCell ⟨q, 3, none⟩ (.int .u64 (B.ver : Nat)))) := HX4.out.setCell (Nat.le_refl _) _
  have HB5 : Hid (Below p w (W4.setCell ⟨q, 3, none⟩ (.int .u64 (B.ver : Nat)))) := HB4.out.setCell (Nat.le_of_lt HPQ.out) _
  have HA5 := Lib.hid ((HX5.out.block p HPQ.out).trans HA1.out)
  obtain ⟨W5, hW5⟩ : ∃ W, W4.setCell ⟨q, 3, none⟩ (.int .u64 (B.ver : Nat)) = W := ⟨_, rfl⟩
  rw [hW5] at HQ5 HX5 HB5 HA5
  go_wp2_with fail
  refine (HN3.out _ HB5.out).mono ?_
  rintro e w' ⟨rfl, rfl⟩
  clear hce4 hfz4 hW5
  have hce5 := HQ5.out.cell 4
  simp only [List.getElem?_toArray, List.getElem?_cons_succ, List.getElem?_cons_zero] at hce5
  have hfz5 := HQ5.out.frozen 4
  have HQ6 := Lib.hid (HQ5.out.setEp B.ep)
  have HX6 : Hid (Below q w1 (W5.setCell ⟨q, 4, none⟩ (.int .u64 (B.ep : Nat)))) := HX5.out.setCell (Nat.le_refl _) _
  have HB6 : Hid (Below p w (W5.setCell ⟨q, 4, none⟩ (.int .u64 (B.ep : Nat)))) := HB5.out.setCell (Nat.le_of_lt HPQ.out) _
  have HA6 := Lib.hid ((HX6.out.block p HPQ.out).trans HA1.out)
  obtain ⟨W6, hW6⟩ : ∃ W, W5.setCell ⟨q, 4, none⟩ (.int .u64 (B.ep : Nat)) = W := ⟨_, rfl⟩
  rw [hW6] at HQ6 HX6 HB6 HA6
  have hcv0 := HCV.out W6 HB6.out 36 28 (c - 36) (by omega)
  rw [HD0.out] at hcv0
  obtain ⟨S0, hS0⟩ : ∃ S0 : ByteArray, (⟨(dataOfL 0 l).toArray⟩ : ByteArray) = S0 := ⟨_, rfl⟩
  rw [hS0] at hcv0
  have HS0 : Hid (S0.data.toList = dataOfL 0 l) := (by show _ = _; rw [← hS0])
  have HCVK : Hid (∀ k, 1 ≤ k → k ≤ m → ∃ T : ByteArray, T.data.toList = (l.drop (64 * k + 1)).take 63 ∧ (convert 27 9 (.slice (some ⟨b, off + (64 * k + 1), none⟩) 63 (c - (64 * k + 1)))).run Try.prog W6 = .ok (.string T) W6) := fun k h1 h2 => by
    have h3 := HCV.out W6 HB6.out (64 * k + 1) 63 (c - (64 * k + 1)) (by have := HNN.out; omega)
    refine ⟨⟨((l.drop (64 * k + 1)).take 63).toArray⟩, by simp, h3⟩
  have hce0 := HQ6.out.cell 0
  simp only [List.getElem?_toArray, List.getElem?_cons_zero] at hce0
  clear hS0
  go_wp2
  clear hce5 hfz5 hW6 hcv0
  go_loopg [5, 6] m (fun gk s5 s6 wx => ∃ (i k : Nat) (Z : ByteArray), i + gk = m ∧ Hid (k = i + 1) ∧ s6 = .int .i64 k ∧ s5 = .string Z ∧ Hid (Z.data.toList = dataOfL i l) ∧ W6 = wx)
  case atStart => exact ⟨0, 1, S0, by omega, rfl, rfl, rfl, HS0, rfl⟩
  case round =>
    obtain ⟨i, k, Z, hig, HKI, rfl, rfl, HZ, rfl⟩ := hrel
    have HZS : Hid (Z.size = 28 + 63 * i) := (by show _ = _; rw [show Z.size = Z.data.toList.length from rfl, HZ.out, HDN.out i (by omega)])
    cases gk with
    | succ gk =>
      have hlt : (k : Int) < ((m + 1 : Nat) : Int) := by have := HKI.out; omega
      have hk1 : 1 ≤ k := by have := HKI.out; omega
      have hkm : k ≤ m := by have := HKI.out; omega
      have hzs : Z.size ≤ 469 := by have := HZS.out; omega
      obtain ⟨T, hT, hcv⟩ := HCVK.out k hk1 hkm
      have hkc : ¬ c = 64 * k + 1 := by have := HNN.out; omega
      have hkn : 64 * k + 64 ≤ c := by have := HNN.out; omega
      have hts : T.size ≤ 63 := by rw [show T.size = T.data.toList.length from rfl, hT, List.length_take]; omega
      have HT := Lib.hid hT
      clear hT
      go_wp2_with fail
      refine (HSP.out _).mono ?_
      rintro e w' ⟨rfl, rfl⟩
      go_wp2
      go_roundg gk
      case measure => omega
      case rel =>
        refine ⟨i + 1, k + 1, _, by omega, (by have := HKI.out; show _ = _; omega), by go_num, rfl, ?_, rfl⟩
        show _ = _
        rw [app_data, HZ.out, HT.out, ← HDX.out i (by omega), HKI.out, show 64 * (i + 1) + 1 = 64 + 64 * i + 1 by omega]
    | zero =>
      obtain rfl : i = m := by omega
      have hlt : ¬ (k : Int) < ((i + 1 : Nat) : Int) := by have := HKI.out; omega
      have hk3 := HK3.out W6 HB6.out
      have hzs : Z.size = 28 + 63 * i := HZS.out
      have hz5 : Z.size ≤ 469 := by omega
      have hle : (kl : Int) + (vl : Int) ≤ (Z.size : Int) := by omega
      have hle2 : kl + vl ≤ Z.size := by omega
      have hle3 : kl ≤ Z.size := by omega
      clear hzs
      go_wp2_with fail
      refine (HSP.out _).mono ?_
      rintro e w' ⟨rfl, rfl⟩
      go_wp2_with fail
      go_quiet ((go_at_call 40; exact quiet_same (HN4.out _ (below_drewN HB6.out _))))
      have hce5 : W6.cell? ⟨q, 5, none⟩ = some (.string ⟨#[]⟩) := HQ6.out.cell 5
      have hfz5 := HQ6.out.frozen 5
      have hce6 : W6.cell? ⟨q, 6, none⟩ = some (.string ⟨#[]⟩) := HQ6.out.cell 6
      have hfz6 := HQ6.out.frozen 6
      have HQ8 : Hid (Box (((W6.drewN nq).setCell ⟨q, 5, none⟩ (.string (Z.extract 0 kl))).setCell ⟨q, 6, none⟩ (.string (Z.extract kl (kl + vl)))) q B) := (by
        have h1 : Box (W6.drewN nq) q _ := HQ6.out
        have h2 := (h1.setKey (Z.extract 0 kl)).setVal (Z.extract kl (kl + vl))
        have e1 : Z.extract 0 kl = B.key := by
          have := extract_eq Z 0 kl
          rw [Nat.zero_add, HZ.out, List.drop_zero] at this
          rw [this, HKY.out]
        have e2 : Z.extract kl (kl + vl) = B.val := by rw [extract_eq, HZ.out, HVL.out]
        rw [e1, e2] at h2 ⊢
        have h3 : (⟨(cl : Nat), (kd : Nat), B.id, B.ver, B.ep, B.key, B.val⟩ : BV) = B := by rw [← HCLB.out, ← HKDB.out]
        rw [← h3]
        exact h2)
      have HX8 : Hid (Below q w1 (((W6.drewN nq).setCell ⟨q, 5, none⟩ (.string (Z.extract 0 kl))).setCell ⟨q, 6, none⟩ (.string (Z.extract kl (kl + vl))))) := ((below_drewN HX6.out _).setCell (Nat.le_refl _) _).setCell (Nat.le_refl _) _
      go_wp2_with fail
      generalize ((W6.drewN nq).setCell ⟨q, 5, none⟩ (.string (Z.extract 0 kl))).setCell ⟨q, 6, none⟩ (.string (Z.extract kl (kl + vl))) = W8 at *
      have HB8 : Hid (Below p w W8) := HB1.out.trans (HX8.out.mono (Nat.le_of_lt HPQ.out))
      have HA8 := Lib.hid ((HX8.out.block p HPQ.out).trans HA1.out)
      clear hce5 hfz5 hce6 hfz6 hce0 hk3
      obtain ⟨bcl, bkd, bid, bver, bep, bkey, bval⟩ := B
      simp only at *
      obtain ⟨c0, c1, c2, c3, c4, c5, c6⟩ := HQ8.out.cells
      have hcb0 := HCB.out W8.drew HB8.out.drew
      go_region_with
        (first
          | (go_at_call 13; refine (HMY.out _).mono ?_; rintro e w9 ⟨rfl, hb⟩; have HQ9 := Lib.hid (Box.below (w := W8.drew) HQ8.out hb HQ8.out.lt); have HA9 := Lib.hid ((hb.block p (lt_of_heap HA8.out)).trans HA8.out); have HB9 : Hid (Below p w w9) := HB8.out.drew.trans (hb.mono (HP.out ▸ HB8.out.size)); obtain ⟨d0, d1, d2, d3, d4, d5, d6⟩ := HQ9.out.cells; have hcb9 := HCB.out w9 HB9.out; clear hb)
          | (go_at_call 36; refine (HLI.out _).mono ?_; rintro e w10 ⟨V, rfl, hown, hb⟩; obtain ⟨g, cap, rfl, hcap, hgp, hgl, hrow⟩ := own_form hown HLB.out.1 HLB.out.2; have HQ10 := Lib.hid (HQ9.out.below hb HQ9.out.lt); have HA10 := Lib.hid ((hb.block p (lt_of_heap HA9.out)).trans HA9.out); have HB10 : Hid (Below p w w10) := HB9.out.trans (hb.mono (HP.out ▸ HB9.out.size)); obtain ⟨e0, e1, e2, e3, e4, e5, e6⟩ := HQ10.out.cells; have hcb10 := HCB.out w10 HB10.out; have hcl10 := HCL.out w10 g cap hrow; clear hb hown hrow hcap hgp hgl))
      all_goals
        go_wp2_with (first
          | ((with_reducible show wpList _ _ _ (⟨none, .store _ _ _, _, _, _, _⟩ :: _) _ _); refine wpList_store_whole (o := ⟨none, .store 24 (.tmp 2) (.tmp 110), _, _, _, _⟩) rfl _ _ _ rfl rfl p _ rfl rfl 24 _ HA10.out size_block rfl HAC.out ?_; intro w11 HA11 HB11))
        refine bodyPost_ret (results_box rfl rfl rfl (b := ⟨bcl, bkd, bid, bver, bep, bkey, bval⟩) HA11.out) rfl ⟨rfl, ?_⟩
        rw [HP.out]
        exact HB10.out.trans HB11.out


end Go.Proofs.Ytokobelmoanneaa
