/-
    Proved here: which bytes package block's read reads; what Decode answers where they are refused.
  Conditions: rows of at most 2^30 bytes.
-/
import Derived.Test.YtokobelmoanneaaBlockJ
namespace Go.Proofs.Ytokobelmoanneaa
open Go Go.RowKit

set_option maxHeartbeats 800000 in
set_option maxRecDepth 100000 in
theorem dec_refused (w : World) (A : Option Addr) (n c : Nat) (H : ∀ W, Below w.heap.size w W → Calls Try.prog 37 #[.slice A n c] W fun e w' => e = .returned (.tuple #[zeroBV.agg, .bool false]) ∧ Below W.heap.size W w') :
    Calls Try.prog 20 #[.slice A n c] w fun e w' => e = .returned (.tuple #[zeroBV.agg, .bool false]) ∧ Below w.heap.size w w' := by
  obtain ⟨p, hp⟩ : ∃ p, w.heap.size = p := ⟨_, rfl⟩
  have HP := Lib.hid hp
  have HZ := Lib.hid zero_block
  rw [hp] at H
  have HR := Lib.hid H
  clear hp H
  go_enter Try.func20, Try.ntmps20
  go_wp2_with (first
    | ((with_reducible show wpList _ _ _ (⟨some 2, .alloc _, _, _, _, _⟩ :: _) _ _); refine wpList_alloc_var (o := ⟨some 2, _, _, _, _, _⟩) rfl 24 rfl p HP.out _ HZ.out ?_; intro w1 HA1 HB1)
    | (go_at_call 37; refine (HR.out _ HB1.out).mono ?_; rintro e w2 ⟨rfl, hb⟩; have HA2 := Lib.hid ((hb.block p (lt_of_heap HA1.out)).trans HA1.out); have HB2 : Hid (Below p w w2) := HB1.out.trans (hb.mono (Nat.le_of_lt (lt_of_heap HA1.out))); obtain ⟨q, hq⟩ : ∃ q, w2.heap.size = q := ⟨_, rfl⟩; have HQ := Lib.hid hq; clear hb hq)
    | ((with_reducible show wpList _ _ _ (⟨some 4, .alloc _, _, _, _, _⟩ :: _) _ _); refine wpList_alloc_var (o := ⟨some 4, _, _, _, _, _⟩) rfl 24 rfl q HQ.out _ HZ.out ?_; intro w3 HA3 HB3; have HPQ : Hid (p < q) := HQ.out ▸ lt_of_heap HA2.out)
    | ((with_reducible show wpList _ _ _ (⟨none, .store _ (.tmp 4) _, _, _, _, _⟩ :: _) _ _); refine wpList_store_whole (o := ⟨none, .store 24 (.tmp 4) (.tmp 11), _, _, _, _⟩) rfl _ _ _ rfl rfl q zeroBV.cells.toArray rfl rfl 24 _ HA3.out size_block rfl (by decide +kernel) ?_; intro w5 HA5 HB5; have HA6 := Lib.hid (((HB3.out.trans HB5.out).block p HPQ.out).trans HA2.out))
    | ((with_reducible show wpList _ _ _ (⟨none, .store _ (.tmp 2) _, _, _, _, _⟩ :: _) _ _); refine wpList_store_whole (o := ⟨none, .store 24 (.tmp 2) (.tmp 15), _, _, _, _⟩) rfl _ _ _ rfl rfl p zeroBV.cells.toArray rfl rfl 24 _ HA6.out size_block rfl (by decide +kernel) ?_; intro w7 HA7 HB7))
  refine bodyPost_ret (results_box rfl rfl rfl HA7.out) rfl ⟨rfl, ?_⟩
  rw [HP.out]
  exact (HB2.out.trans ((HB3.out.trans HB5.out).mono (Nat.le_of_lt HPQ.out))).trans HB7.out
/-- What bytes must be, to be read at all. -/
structure Readable (l : List UInt8) : Prop where
  head : isHead (l.take 64) = true
  len : l.length = 64 * spanN (clOf l)
  fits : klOf l + vlOf l ≤ 28 + 63 * restN (clOf l)
theorem Readable.cl {l : List UInt8} (h : Readable l) : clOf l ≤ 3 := by
  have hh := h.head
  simp only [isHead, Bool.and_eq_true, decide_eq_true_eq] at hh
  have := hh.2.2.1
  rwa [clOf_take] at this
theorem lines_readable {b : BV} (h : mayB b = true) : Readable (linesL b) := by
  have hc := mayB_cl h
  have hk := mayB_kd h
  have h1 := lines_cl h
  have h2 := lines_kd h
  have hl := linesL_len h
  have hs := spanN_rest hc
  refine ⟨?_, by rw [hl, h1], ?_⟩
  · simp only [isHead, Bool.and_eq_true, decide_eq_true_eq]
    refine ⟨by rw [List.length_take, hl]; omega, ?_, by rw [clOf_take]; omega, by rw [kdOf_take]; omega⟩
    rw [take_getD _ 0 64 (by omega), lines_tag b]
    rfl
  · have h3 := data_le h
    rw [dataL_len] at h3
    rw [lines_kl h, lines_vl h, h1]
    omega
theorem readL_sizes {l : List UInt8} (h : Readable l) : (readL l).key.size ≤ 2000 ∧ (readL l).val.size ≤ 2000 := by
  have h1 := h.fits
  have h2 := klOf_lt l
  have h3 := restN_le (clOf l)
  have e1 : (readL l).key.size = ((dataOfL (restN (clOf l)) l).take (klOf l)).length := by simp [readL, ByteArray.size]
  have e2 : (readL l).val.size = (((dataOfL (restN (clOf l)) l).drop (klOf l)).take (vlOf l)).length := by simp [readL, ByteArray.size]
  rw [e1, e2, List.length_take, List.length_take]
  omega
theorem Readable.no {w : World} {b off n c : Nat} {l : List UInt8} (h : ¬ Readable l) (hl : l.length = n) (hc : n ≤ c) (hr : Row w (some ⟨b, off, none⟩) l) :
    Calls Try.prog 37 #[.slice (some ⟨b, off, none⟩) n c] w fun e w' => e = .returned (.tuple #[zeroBV.agg, .bool false]) ∧ Below w.heap.size w w' := by
  rcases Nat.lt_or_ge n 64 with h1 | h1
  · exact read_short w _ n c h1
  · cases hh : isHead (l.take 64) with
    | false => exact read_nohead w b off n c l hl h1 hc hr hh
    | true =>
      rcases Classical.em (n = 64 * spanN (clOf l)) with h2 | h2
      · rcases Nat.lt_or_ge (28 + 63 * restN (clOf l)) (klOf l + vlOf l) with h3 | h3
        · exact read_nodata w b off n c l hl hc hr hh h2 h3
        · exact absurd ⟨hh, hl.trans h2, h3⟩ h
      · exact read_nolen w b off n c l hl h1 hc hr hh h2

end Go.Proofs.Ytokobelmoanneaa
