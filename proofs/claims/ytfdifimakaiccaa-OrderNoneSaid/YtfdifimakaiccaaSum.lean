/-
  Proved here: what the functions of package sum answer, for each row of bytes.
  Conditions: rows and texts of at most 2^30 bytes.
-/
import Derived.Test.YtfdifimakaiccaaBytes
import Derived.Test.YtfdifimakaiccaaSumMath
namespace Go.Proofs.Ytfdifimakaiccaa
open Go.RowKit
set_option maxRecDepth 100000

theorem xor_pol (c : Nat) (hc : c < 4294967296) : bits .xor .u32 ((c : Int) / 2) 3988292384 = ((c / 2 ^^^ 3988292384 : Nat) : Int) := by
  have h := u32_xor_nat (c / 2) 3988292384 (by omega) (by omega)
  simpa using h
theorem hv_even {c : Nat} (h : ((c : Int) % 2 == 0) = true) : (c : Int) / 2 = (hv c : Nat) := by
  have : c % 2 = 0 := by simp at h; omega
  rw [hv, if_pos this]; omega
theorem hv_odd {c : Nat} (hc : c < 4294967296) (h : ((c : Int) % 2 == 0) = false) : bits .xor .u32 ((c : Int) / 2) 3988292384 = (hv c : Nat) := by
  have : ¬ c % 2 = 0 := by simp at h; omega
  rw [hv, if_neg this, xor_pol c hc]

set_option maxHeartbeats 400000 in
theorem halve_any (c : Nat) (hc : c < 4294967296) (w : World) :
    Calls Try.prog 45 #[.int .u32 c] w fun e w' => e = .returned (.int .u32 (hv c : Nat)) ∧ w = w' := by
  go_enter Try.func45, Try.ntmps45
  go_wp2
  · go_ret
    exact ⟨int_eq (hv_even ‹_›), rfl⟩
  · go_ret
    exact ⟨int_eq (hv_odd hc ‹_›), rfl⟩

set_option maxHeartbeats 400000 in
theorem fold_any (c : Nat) (hc : c < 4294967296) (A : Option Addr) (n cap : Nat) (l : List UInt8) (hn : l.length = n) (w : World) (hr : Row w A l) :
    Calls Try.prog 42 #[.int .u32 c, .slice A n cap] w fun e w' => e = .returned (.int .u32 (fld c l : Nat)) ∧ w = w' := by
  obtain ⟨hmax, hr⟩ := hr
  have HN : Hid (l.length = n) := hn
  rw [hn] at hmax hr
  clear hn
  have HR : Hid (0 < n → ∃ b off, A = some ⟨b, off, none⟩ ∧ b < w.heap.size ∧ ∀ k, k < n → w.cell? ⟨b, off + k, none⟩ = some (.int .u8 ((l.getD k 0).toNat : Nat))) := hr
  clear hr
  go_enter Try.func42, Try.ntmps42
  go_wp2
  go_step3
  go_wp2
  go_step3
  go_wp2
  go_loopg [0, 9] n (fun g s0 s9 wx => ∃ (k d : Nat), k + g = n ∧ s9 = .int .i64 k ∧ s0 = .int .u32 d ∧ d < 4294967296 ∧ Hid (fld c (l.take k) = d) ∧ w = wx)
  case atStart => exact ⟨0, c, by omega, rfl, rfl, hc, rfl, rfl⟩
  case round =>
    obtain ⟨k, q, hkg, rfl, rfl, hq, HQ, rfl⟩ := hrel
    cases gk with
    | zero =>
      have hkz : ¬ ((k : Int) < (n : Int)) := by omega
      go_wp2
      try rw [Exit.noGoto_ret]
      go_ret
      refine ⟨int_eq ?_, rfl⟩
      have h := HQ.out
      rw [List.take_of_length_le (by have := HN.out; omega)] at h
      rw [h]
    | succ g =>
      have hkz : (k : Int) < (n : Int) := by omega
      obtain ⟨b, off, rfl, hb, hcells⟩ := HR.out (by omega)
      have hcell := hcells k (by omega)
      have hsn : l.take (k + 1) = l.take k ++ [l.getD k 0] := by
        rw [List.take_succ_eq_append_getElem (by have := HN.out; omega)]
        simp [List.getD, List.getElem?_eq_getElem (show k < l.length by have := HN.out; omega)]
      have HS : Hid (fld c (l.take (k + 1)) = stp q (l.getD k 0).toNat) := by
        show _ = _
        rw [hsn, fld_snoc, HQ.out]
      have hx : (l.getD k 0).toNat < 256 := UInt8.toNat_lt _
      obtain ⟨x, hxe⟩ : ∃ x, (l.getD k 0).toNat = x := ⟨_, rfl⟩
      rw [hxe] at hcell HS hx
      clear hcells hsn hxe HR HQ
      obtain ⟨r, hr⟩ : ∃ r, q ^^^ x = r := ⟨_, rfl⟩
      have hxor : bits .xor .u32 (q : Int) (x : Int) = (r : Int) := by rw [u32_xor_nat q x hq (by omega), hr]
      have hrl : r < 4294967296 := by rw [← hr]; exact Nat.xor_lt_two_pow (n := 32) (by omega) (by omega)
      have HS2 : Hid (fld c (l.take (k + 1)) = hvN 8 r) := by
        have := HS.out
        rw [stp, hr] at this
        exact this
      clear HS hr
      go_wp2
      clear hxor hcell
      go_loopg [0, 17] 8 (fun g2 s0 s17 wx => ∃ (j d : Nat), j + g2 = 8 ∧ s17 = .int .i64 j ∧ s0 = .int .u32 d ∧ d < 4294967296 ∧ Hid (hvN 8 r = hvN g2 d) ∧ w = wx)
      case atStart => exact ⟨0, r, by omega, rfl, rfl, hrl, rfl, rfl⟩
      case round =>
        obtain ⟨j, d, hjg, rfl, rfl, hd, HD, rfl⟩ := hrel
        cases gk with
        | zero =>
          have hj8 : ¬ ((j : Int) < 8) := by omega
          go_wp2
          go_roundg g
          case measure => omega
          case rel => exact ⟨k + 1, d, by omega, by go_num, rfl, hd, HS2.out.trans HD.out, rfl⟩
        | succ g2 =>
          have hj8 : (j : Int) < 8 := by omega
          by_cases h0 : d = 0
          · have ht : ((d : Int) == 0) = true := by simp [h0]
            have HD2 : Hid (fld c (l.take (k + 1)) = d) := HS2.out.trans (HD.out.trans (by rw [h0, hvN_zero]))
            clear h0 HD
            go_wp2
            go_roundg g
            case measure => omega
            case rel => exact ⟨k + 1, d, by omega, by go_num, rfl, hd, HD2, rfl⟩
          · have ht : ((d : Int) == 0) = false := by simp; exact h0
            clear h0
            go_wp2_with (go_at_call 45; refine (halve_any _ (by omega) _).mono ?_; rintro e w' ⟨rfl, rfl⟩)
            go_roundg g2
            case measure => omega
            case rel => exact ⟨j + 1, hv d, by omega, by go_num, rfl, hv_lt hd, HD, rfl⟩

theorem xor_nt (c : Nat) (hc : c < 4294967296) : bits .xor .u32 IntKind.u32.max (c : Int) = (nt c : Nat) := by
  rw [show IntKind.u32.max = (4294967295 : Int) from rfl]
  have h := u32_xor_nat 4294967295 c (by omega) hc
  rw [nt_def]
  simpa using h

set_option maxHeartbeats 400000 in
theorem add_any (c : Nat) (hc : c < 4294967296) (A : Option Addr) (n cap : Nat) (l : List UInt8) (hn : l.length = n) (w : World) (hr : Row w A l) :
    Calls Try.prog 38 #[.int .u32 c, .slice A n cap] w fun e w' => e = .returned (.int .u32 (addS c l : Nat)) ∧ w = w' := by
  have H := fold_any (nt c) (nt_lt hc) A n cap l hn w hr
  have h1 := xor_nt c hc
  have h2 := xor_nt _ (fld_lt l (nt_lt hc))
  rw [← addS_def c l] at h2
  obtain ⟨f, hf⟩ : ∃ f, fld (nt c) l = f := ⟨_, rfl⟩
  obtain ⟨d, hd⟩ : ∃ d, nt c = d := ⟨_, rfl⟩
  obtain ⟨r, hrr⟩ : ∃ r, addS c l = r := ⟨_, rfl⟩
  rw [hf] at H h2
  rw [hd] at H h1
  rw [hrr] at h2 ⊢
  have HH := Lib.hid H
  clear H hn hr hf hd hrr
  have hsg : IntKind.u32.signed = false := rfl
  go_enter Try.func38, Try.ntmps38
  go_wp2_with fail
  refine HH.out.mono ?_
  rintro e w' ⟨rfl, rfl⟩
  go_wp2
  go_ret
  exact ⟨rfl, rfl⟩

end Go.Proofs.Ytfdifimakaiccaa
