/-
  Proved here: what the chapter's own answers (step, Text, Sum, Add) give for each row of bytes.
  Conditions: rows of at most 2^30 bytes.
-/
import Derived.Test.YtfdifimakaiccaaSum
namespace Go.Proofs.Ytfdifimakaiccaa
open Go.RowKit
set_option maxRecDepth 100000

theorem and_even {c : Nat} (hc : c < 4294967296) (h : c % 2 = 0) : bits .and .u32 (c : Int) 1 = 0 := by
  have := u32_and_nat c 1 hc (by omega)
  rw [Nat.and_one_is_mod, h] at this
  exact this
theorem and_odd {c : Nat} (hc : c < 4294967296) (h : c % 2 = 1) : bits .and .u32 (c : Int) 1 = 1 := by
  have := u32_and_nat c 1 hc (by omega)
  rw [Nat.and_one_is_mod, h] at this
  exact this

set_option maxHeartbeats 400000 in
theorem step_any (c x : Nat) (hc : c < 4294967296) (hx : x < 256) (w : World) :
    Calls Try.prog 41 #[.int .u32 c, .int .u8 x] w fun e w' => e = .returned (.int .u32 (stp c x : Nat)) ∧ w = w' := by
  have hrl : c ^^^ x < 4294967296 := Nat.xor_lt_two_pow (n := 32) (by omega) (by omega)
  have hxor := u32_xor_nat c x hc (by omega)
  obtain ⟨r, hr⟩ : ∃ r, c ^^^ x = r := ⟨_, rfl⟩
  have HR : Hid (stp c x = hvN 8 r) := by
    show stp c x = _
    rw [stp, hr]
  rw [hr] at hrl hxor
  clear hr
  go_enter Try.func41, Try.ntmps41
  go_wp2
  clear hxor
  go_loopg [0, 5] 8 (fun g s0 s5 wx => ∃ (j d : Nat), j + g = 8 ∧ s5 = .int .i64 j ∧ s0 = .int .u32 d ∧ d < 4294967296 ∧ Hid (hvN 8 r = hvN g d) ∧ w = wx)
  case atStart => exact ⟨0, r, by omega, rfl, rfl, hrl, rfl, rfl⟩
  case round =>
    obtain ⟨j, d, hjg, rfl, rfl, hd, HD, rfl⟩ := hrel
    cases gk with
    | zero =>
      have hj8 : ¬ ((j : Int) < 8) := by omega
      go_wp2
      go_ret
      exact ⟨int_eq (by rw [HR.out, HD.out]; rfl), rfl⟩
    | succ g =>
      have hj8 : (j : Int) < 8 := by omega
      rcases Nat.mod_two_eq_zero_or_one d with h2 | h2
      · have ha := and_even hd h2
        have hh : hv d = d / 2 := by rw [hv, if_pos h2]
        have HH := Lib.hid hh
        clear h2 hh
        go_wp2
        go_roundg g
        case measure => omega
        case rel => exact ⟨j + 1, hv d, by omega, by go_num, by rw [HH.out]; go_num, hv_lt hd, HD, rfl⟩
      · have ha := and_odd hd h2
        have hh : hv d = d / 2 ^^^ 3988292384 := by rw [hv, if_neg (by omega)]
        have hp := xor_pol d hd
        rw [← hh] at hp
        obtain ⟨q, hq⟩ : ∃ q, hv d = q := ⟨_, rfl⟩
        rw [hq] at hp
        have HQ := Lib.hid hq
        clear h2 hh hq
        go_wp2
        go_roundg g
        case measure => omega
        case rel => exact ⟨j + 1, q, by omega, by go_num, rfl, HQ.out ▸ hv_lt hd, HQ.out ▸ HD.out, rfl⟩

theorem xor_one (c : Nat) (hc : c < 4294967296) : bits .xor .u32 (c : Int) 4294967295 = (nt c : Nat) := by
  have h := u32_xor_nat c 4294967295 hc (by omega)
  rw [nt_def, Nat.xor_comm]
  simpa using h

set_option maxHeartbeats 400000 in
theorem rtext_any (s : ByteArray) (hs : s.size ≤ 1073741824) (w : World) :
    Calls Try.prog 37 #[.string s] w fun e w' => e = .returned (.int .u32 (addS 0 s.data.toList : Nat)) ∧ w = w' := by
  have h0 : fld 4294967295 s.data.toList < 4294967296 := fld_lt _ (by omega)
  have hx := xor_one _ h0
  have he : addS 0 s.data.toList = nt (fld 4294967295 s.data.toList) := by rw [addS_def]; rfl
  rw [← he] at hx
  obtain ⟨R, hR⟩ : ∃ R, addS 0 s.data.toList = R := ⟨_, rfl⟩
  obtain ⟨F, hF⟩ : ∃ F, fld 4294967295 s.data.toList = F := ⟨_, rfl⟩
  rw [hR, hF] at hx
  rw [hR]
  have HF := Lib.hid hF
  have HX := Lib.hid hx
  clear h0 he hR hF hx
  go_enter Try.func37, Try.ntmps37
  go_wp2
  go_loopg [3, 4] s.size (fun g s3 s4 wx => ∃ k d : Nat, k + g = s.size ∧ s4 = .int .i64 k ∧ s3 = .int .u32 d ∧ d < 4294967296 ∧ Hid (fld 4294967295 (s.data.toList.take k) = d) ∧ w = wx)
  case atStart => exact ⟨0, 4294967295, by omega, rfl, rfl, by omega, rfl, rfl⟩
  case round =>
    obtain ⟨k, d, hkg, rfl, rfl, hd, HD, rfl⟩ := hrel
    cases gk with
    | zero =>
      have hkz : ¬ ((k : Int) < (s.size : Int)) := by omega
      have hD := HD.out
      rw [List.take_of_length_le (by have h : s.data.toList.length = s.size := rfl; omega), HF.out] at hD
      subst hD
      go_wp2
      go_ret
      exact ⟨int_eq HX.out, rfl⟩
    | succ g =>
      have hkz : (k : Int) < (s.size : Int) := by omega
      have hkn : k < s.size := by omega
      have hsn : s.data.toList.take (k + 1) = s.data.toList.take k ++ [s[k]] := by
        rw [List.take_succ_eq_append_getElem (by simpa using hkn)]
        rfl
      have HA := Lib.hid (fun W => step_any d s[k].toNat hd (UInt8.toNat_lt _) W)
      have HS : Hid (fld 4294967295 (s.data.toList.take (k + 1)) = stp d s[k].toNat) := by
        show _ = _
        rw [hsn, fld_snoc, HD.out]
      have hlt := stp_lt hd (UInt8.toNat_lt s[k])
      obtain ⟨r, hr⟩ : ∃ r, stp d s[k].toNat = r := ⟨_, rfl⟩
      rw [hr] at HA HS hlt
      clear hsn hr HD
      go_wp2_with fail
      refine (HA.out _).mono ?_
      rintro e w' ⟨rfl, rfl⟩
      go_wp2
      go_roundg g
      case measure => omega
      case rel => exact ⟨k + 1, r, by omega, by go_num, rfl, hlt, HS, rfl⟩

end Go.Proofs.Ytfdifimakaiccaa
