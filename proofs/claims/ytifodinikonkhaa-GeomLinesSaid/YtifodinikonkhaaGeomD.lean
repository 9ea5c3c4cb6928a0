/-
  Proved here: of which bytes package geom tells that they are a superblock or a clock line; where its slabs lie; the chapter's example.
  Conditions: rows of at most 2^30 bytes.
-/
import Derived.Test.YtifodinikonkhaaGeomC
namespace Go.Proofs.Ytifodinikonkhaa
open Go Go.RowKit

/-- Is x a clock line, a superblock? -/
theorem isclock_yes (A : Option Addr) (c : Nat) (v : Nat) (hv : v < 18446744073709551616) (w : World) (hr : Row w A (clockL v)) :
    Calls Try.prog 16 #[.slice A 64 c] w fun e w' => e = .returned (.tuple #[.int .u64 v, .bool true]) ∧ Below w.heap.size w w' :=
  isclock_64 A c (clockL v) (clockL_len v) w hr v (clock_num hv) true (by simp)
theorem isclock_no (A : Option Addr) (n c : Nat) (x : List UInt8) (hx : x.length = n) (w : World) (hr : Row w A x) (hno : ∀ v, v < 18446744073709551616 → x ≠ clockL v) :
    Calls Try.prog 16 #[.slice A n c] w fun e w' => e = .returned (.tuple #[.int .u64 0, .bool false]) ∧ Below w.heap.size w w' := by
  rcases Classical.em (n = 64) with h | h
  · subst h
    have hvl : le (cut x 1 8) < 18446744073709551616 := by
      have := le_lt (cut x 1 8)
      rw [cut_len x 1 8 (by omega), pow8_eight] at this
      exact this
    exact isclock_64 A c x hx w hr _ rfl false (by simpa using hno _ hvl)
  · exact isclock_bad A n c h w
theorem issuper_yes (A : Option Addr) (c : Nat) (n : Nat) (h1 : 10 ≤ n) (h2 : n ≤ 258) (w : World) (hr : Row w A (superL n)) :
    Calls Try.prog 15 #[.slice A 64 c] w fun e w' => e = .returned (.tuple #[.int .i64 n, .bool true]) ∧ Below w.heap.size w w' :=
  issuper_64 A c (superL n) (superL_len n) w hr n (super_num (by omega)) (holds_of h1 h2) true (by simp)
theorem issuper_no (A : Option Addr) (n c : Nat) (x : List UInt8) (hx : x.length = n) (w : World) (hr : Row w A x) (hno : ∀ k, 10 ≤ k → k ≤ 258 → x ≠ superL k) :
    Calls Try.prog 15 #[.slice A n c] w fun e w' => e = .returned (.tuple #[.int .i64 0, .bool false]) ∧ Below w.heap.size w w' := by
  rcases Classical.em (n = 64) with h | h
  · subst h
    cases hh : holds (le (cut x 5 4) : Nat) with
    | false => exact issuper_out A c x hx w hr _ rfl hh
    | true =>
      obtain ⟨k, hk, h1, h2⟩ := holds_true hh
      have hk' : le (cut x 5 4) = k := by omega
      exact issuper_64 A c x hx w hr _ rfl hh false (by rw [hk']; simpa using hno k h1 h2)
  · exact issuper_bad A n c h w

/-! ### Slabs -/
def slabsN (x : Int) : Int := if x < 10 then 0 else (min x 258 - 2) / 8
def slabN (x : Int) : Int := if 0 ≤ x ∧ x ≤ 31 then 2 + 8 * x else -1
def slabOfN (x : Int) : Int := if 2 ≤ x ∧ x < 258 then (x - 2) / 8 else -1
set_option maxHeartbeats 400000 in
theorem slabs_any (x : Int) (hx : (Lit.int .i64 x).wf = true) (w : World) : Calls Try.prog 22 #[.int .i64 x] w fun e w' => e = .returned (.int .i64 (slabsN x)) ∧ w = w' := by
  have hb := bounds_i64 hx
  have H : Hid (slabsN x = if x < 10 then 0 else (min x 258 - 2) / 8) := rfl
  generalize slabsN x = r at *
  rcases Classical.em (x < 10) with h | h
  · go_enter Try.func22, Try.ntmps22
    go_wp2
    go_ret
    exact ⟨int_eq (by rw [H.out, if_pos h]), rfl⟩
  · rcases Classical.em (x ≤ 258) with h2 | h2
    · have hm : min x 258 = x := by omega
      go_enter Try.func22, Try.ntmps22
      go_wp2
      go_ret
      exact ⟨int_eq (by rw [H.out, if_neg (by omega), hm]), rfl⟩
    · have hm : min x 258 = 258 := by omega
      go_enter Try.func22, Try.ntmps22
      go_wp2
      go_ret
      exact ⟨int_eq (by rw [H.out, if_neg (by omega), hm]; rfl), rfl⟩
set_option maxHeartbeats 400000 in
theorem slab_any (x : Int) (w : World) : Calls Try.prog 24 #[.int .i64 x] w fun e w' => e = .returned (.int .i64 (slabN x)) ∧ w = w' := by
  have H : Hid (slabN x = if 0 ≤ x ∧ x ≤ 31 then 2 + 8 * x else -1) := rfl
  generalize slabN x = r at *
  rcases Classical.em (x < 0) with h | h
  · go_enter Try.func24, Try.ntmps24
    go_wp2
    go_ret
    exact ⟨int_eq (by rw [H.out, if_neg (by omega)]), rfl⟩
  · rcases Classical.em (32 ≤ x) with h2 | h2
    · go_enter Try.func24, Try.ntmps24
      go_wp2
      go_ret
      exact ⟨int_eq (by rw [H.out, if_neg (by omega)]), rfl⟩
    · go_enter Try.func24, Try.ntmps24
      go_wp2
      go_ret
      exact ⟨int_eq (by rw [H.out, if_pos (by omega)]; omega), rfl⟩
set_option maxHeartbeats 400000 in
theorem slabof_any (x : Int) (w : World) : Calls Try.prog 26 #[.int .i64 x] w fun e w' => e = .returned (.int .i64 (slabOfN x)) ∧ w = w' := by
  have H : Hid (slabOfN x = if 2 ≤ x ∧ x < 258 then (x - 2) / 8 else -1) := rfl
  generalize slabOfN x = r at *
  rcases Classical.em (x < 2) with h | h
  · go_enter Try.func26, Try.ntmps26
    go_wp2
    go_ret
    exact ⟨int_eq (by rw [H.out, if_neg (by omega)]), rfl⟩
  · rcases Classical.em (258 ≤ x) with h2 | h2
    · go_enter Try.func26, Try.ntmps26
      go_wp2
      go_ret
      exact ⟨int_eq (by rw [H.out, if_neg (by omega)]), rfl⟩
    · go_enter Try.func26, Try.ntmps26
      go_wp2
      go_ret
      exact ⟨int_eq (by rw [H.out, if_pos (by omega)]), rfl⟩

set_option maxHeartbeats 800000 in
theorem awake_any (w : World) : Calls Try.prog 17 #[] w fun e w' => e = .returned (.bool true) ∧ Below w.heap.size w w' := by
  have HC := Lib.hid (fun W => clock_ok 7 (by omega) W)
  have HY := Lib.hid (fun W A c (h : Row W A (clockL 7)) => isclock_yes A c 7 (by omega) W h)
  have HN := Lib.hid (fun W A c (h : Row W A (clockL 7)) => issuper_no A 64 c (clockL 7) (clockL_len 7) W h (fun k _ _ => clock_super k 7))
  have HL := Lib.hid (clockL_len 7)
  have hs := fun W => slabs_any 10 (by decide) W
  have ht := fun W => slab_any 1 W
  rw [show slabsN 10 = 1 by decide] at hs
  rw [show slabN 1 = 10 by decide] at ht
  have HS := Lib.hid hs
  have HT := Lib.hid ht
  generalize clockL 7 = x at *
  clear hs ht
  go_enter Try.func17, Try.ntmps17
  go_wp2_with fail
  refine (HC.out w).mono ?_
  rintro e w1 ⟨g1, rfl, _, ha, hb⟩
  have HR := Lib.hid (ha.row (by have := HL.out; omega))
  have HB1 := Lib.hid hb
  clear ha hb
  go_wp2_with fail
  refine (HY.out w1 _ _ HR.out).mono ?_
  rintro e w2 ⟨rfl, hb⟩
  have HB2 := Lib.hid (HB1.out.trans (hb.mono HB1.out.size))
  clear hb
  go_wp2_with fail
  refine (HC.out w2).mono ?_
  rintro e w3 ⟨g3, rfl, _, ha, hb⟩
  have HR3 := Lib.hid (ha.row (by have := HL.out; omega))
  have HB3 := Lib.hid (HB2.out.trans (hb.mono HB2.out.size))
  clear ha hb
  go_wp2_with fail
  refine (HN.out w3 _ _ HR3.out).mono ?_
  rintro e w4 ⟨rfl, hb⟩
  have HB4 := Lib.hid (HB3.out.trans (hb.mono HB3.out.size))
  clear hb
  go_wp2_with fail
  refine (HS.out w4).mono ?_
  rintro e w' ⟨rfl, rfl⟩
  go_wp2_with fail
  refine (HT.out w4).mono ?_
  rintro e w' ⟨rfl, rfl⟩
  go_wp2
  go_ret
  exact ⟨rfl, HB4.out⟩

end Go.Proofs.Ytifodinikonkhaa
