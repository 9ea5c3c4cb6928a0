/-
  Proved here: of which bytes chapter 4's own IsSuper and IsClock tell that they are a superblock or a clock line.
  Conditions: rows of at most 2^30 bytes.
-/
import Derived.Test.YtifodinikonkhaaRef4A
import Derived.Test.YtifodinikonkhaaGeomC
import Derived.Deep.RegionWith
namespace Go.Proofs.Ytifodinikonkhaa
open Go Go.RowKit

theorem super_inj {a b : Nat} (ha : a < 4294967296) (hb : b < 4294967296) (h : superL a = superL b) : a = b := by
  rw [← super_num ha, h, super_num hb]
/-- How two rows compare as texts. -/
theorem texts_eq {S T : ByteArray} {a b : List UInt8} (hS : (⟨a.toArray⟩ : ByteArray) = S) (hT : (⟨b.toArray⟩ : ByteArray) = T) : (S.toList == T.toList) = (a == b) := by
  rw [← hS, ← hT, ByteArray.toList_eq, ByteArray.toList_eq]
set_option maxHeartbeats 800000 in
theorem rissuper_no (A : Option Addr) (n c : Nat) (x : List UInt8) (hx : x.length = n) (w : World) (hr : Row w A x) (hno : ∀ k, 10 ≤ k → k ≤ 258 → x ≠ superL k) :
    Calls Try.prog 19 #[.slice A n c] w fun e w' => e = .returned (.tuple #[.int .i64 0, .bool false]) ∧ Below w.heap.size w w' := by
  have HX := Lib.hid hx
  have HR := Lib.hid hr
  have HNO := Lib.hid hno
  clear hx hr hno
  go_enter Try.func19, Try.ntmps19
  go_wp2
  go_loopg [4] 249 (fun gk s4 wx => ∃ k : Nat, k + gk = 259 ∧ 10 ≤ k ∧ s4 = .int .i64 k ∧ Hid (Below w.heap.size w wx))
  case atStart => exact ⟨10, by omega, by omega, rfl, Below.refl _ _⟩
  case round =>
    obtain ⟨k, hk, h10, rfl, HB⟩ := hrel
    cases gk with
    | zero =>
      have hkk : ¬ (k : Int) ≤ 258 := by omega
      go_wp2
      go_ret2
      exact ⟨rfl, HB.out⟩
    | succ gk =>
      have hkk : (k : Int) ≤ 258 := by omega
      have HS := Lib.hid (rsuper_ok k h10 (by omega) wr)
      go_wp2_with fail
      refine HS.out.mono ?_
      rintro e w1 ⟨g, cap, rfl, ho, hb⟩
      obtain ⟨C, cp, he, hrow⟩ := row_of_own ho (by rw [superL_len]; omega)
      injection he with he1 he2 he3
      subst he1
      have hb1 : Below w.heap.size w w1 := HB.out.trans (hb.mono HB.out.size)
      have h1 := run_conv w1 (some ⟨g, 0, none⟩) _ cap (superL k) rfl hrow
      have h2 := run_conv w1 A n c x HX.out (HR.out.below hb1)
      obtain ⟨S, hS⟩ : ∃ S : ByteArray, (⟨(superL k).toArray⟩ : ByteArray) = S := ⟨_, rfl⟩
      obtain ⟨T, hT⟩ : ∃ T : ByteArray, (⟨x.toArray⟩ : ByteArray) = T := ⟨_, rfl⟩
      have hcmp : (S.toList == T.toList) = false := by rw [texts_eq hS hT]; simpa using Ne.symm (HNO.out k h10 (by omega))
      rw [hS] at h1
      rw [hT] at h2
      have HB1 := Lib.hid hb1
      rw [superL_len] at h1 ⊢
      clear ho hb hrow he2 he3 hS hT hb1 HS
      go_wp2
      go_roundg gk
      case measure => omega
      case rel => exact ⟨k + 1, by omega, by omega, by go_num, HB1⟩
set_option maxHeartbeats 800000 in
theorem rissuper_yes (A : Option Addr) (c : Nat) (N : Nat) (hN1 : 10 ≤ N) (hN2 : N ≤ 258) (w : World) (hr : Row w A (superL N)) :
    Calls Try.prog 19 #[.slice A 64 c] w fun e w' => e = .returned (.tuple #[.int .i64 N, .bool true]) ∧ Below w.heap.size w w' := by
  have HX := Lib.hid (superL_len N)
  have HR := Lib.hid hr
  have HNO := Lib.hid (fun k (hk : k < N) => show superL k ≠ superL N from fun e => by have := super_inj (by omega) (by omega) e; omega)
  have HSS : Hid (∀ W, Calls Try.prog 10 #[.int .i64 N] W (OwnTo2 W.heap.size W (superL N))) := fun W => rsuper_ok N hN1 hN2 W
  generalize superL N = x at *
  clear hr
  go_enter Try.func19, Try.ntmps19
  go_wp2
  go_loopg [4] (N - 10) (fun gk s4 wx => ∃ k : Nat, k + gk = N ∧ 10 ≤ k ∧ s4 = .int .i64 k ∧ Hid (Below w.heap.size w wx))
  case atStart => exact ⟨10, by omega, by omega, rfl, Below.refl _ _⟩
  case round =>
    obtain ⟨k, hk, h10, rfl, HB⟩ := hrel
    have hkk : (k : Int) ≤ 258 := by omega
    cases gk with
    | zero =>
      obtain rfl : N = k := by omega
      go_wp2_with fail
      refine (HSS.out wr).mono ?_
      rintro e w1 ⟨g, cap, rfl, ho, hb⟩
      obtain ⟨C, cp, he, hrow⟩ := row_of_own ho (by rw [HX.out]; omega)
      injection he with he1 he2 he3
      subst he1
      have hb1 : Below w.heap.size w w1 := HB.out.trans (hb.mono HB.out.size)
      have h1 := run_conv w1 (some ⟨g, 0, none⟩) _ cap x rfl hrow
      have h2 := run_conv w1 A 64 c x HX.out (HR.out.below hb1)
      obtain ⟨S, hS⟩ : ∃ S : ByteArray, (⟨x.toArray⟩ : ByteArray) = S := ⟨_, rfl⟩
      have hcmp : (S.toList == S.toList) = true := by simp
      rw [hS] at h1 h2
      have HB1 := Lib.hid hb1
      rw [HX.out] at h1 ⊢
      clear ho hb hrow he2 he3 hS hb1
      go_wp2
      go_ret2
      exact ⟨rfl, HB1.out⟩
    | succ gk =>
      have HS := Lib.hid (rsuper_ok k h10 (by omega) wr)
      go_wp2_with fail
      refine HS.out.mono ?_
      rintro e w1 ⟨g, cap, rfl, ho, hb⟩
      obtain ⟨C, cp, he, hrow⟩ := row_of_own ho (by rw [superL_len]; omega)
      injection he with he1 he2 he3
      subst he1
      have hb1 : Below w.heap.size w w1 := HB.out.trans (hb.mono HB.out.size)
      have h1 := run_conv w1 (some ⟨g, 0, none⟩) _ cap (superL k) rfl hrow
      have h2 := run_conv w1 A 64 c x HX.out (HR.out.below hb1)
      obtain ⟨S, hS⟩ : ∃ S : ByteArray, (⟨(superL k).toArray⟩ : ByteArray) = S := ⟨_, rfl⟩
      obtain ⟨T, hT⟩ : ∃ T : ByteArray, (⟨x.toArray⟩ : ByteArray) = T := ⟨_, rfl⟩
      have hcmp : (S.toList == T.toList) = false := by rw [texts_eq hS hT]; simpa using HNO.out k (by omega)
      rw [hS] at h1
      rw [hT] at h2
      have HB1 := Lib.hid hb1
      rw [superL_len] at h1 ⊢
      clear ho hb hrow he2 he3 hS hT hb1 HS
      go_wp2
      go_roundg gk
      case measure => omega
      case rel => exact ⟨k + 1, by omega, by omega, by go_num, HB1⟩
set_option maxHeartbeats 800000 in
theorem risclock_bad (A : Option Addr) (n c : Nat) (hn : n ≠ 64) (w : World) : Calls Try.prog 20 #[.slice A n c] w fun e w' => e = .returned (.tuple #[.int .u64 0, .bool false]) ∧ w = w' := by
  have hne : ((n : Int) != 64) = true := by simp; omega
  clear hn
  go_enter Try.func20, Try.ntmps20
  go_wp2
  go_ret2
  exact ⟨rfl, rfl⟩
set_option maxHeartbeats 1600000 in
set_option maxRecDepth 100000 in
theorem risclock_64 (A : Option Addr) (c : Nat) (x : List UInt8) (hx : x.length = 64) (hc : 64 ≤ c) (w : World) (hr : Row w A x) (v : Nat) (hv : le (cut x 1 8) = v) (b : Bool) (hb : (clockL v == x) = b) :
    Calls Try.prog 20 #[.slice A 64 c] w fun e w' => e = .returned (.tuple #[.int .u64 (pick b v : Nat), .bool b]) ∧ Below w.heap.size w w' := by
  have hvl : v < 18446744073709551616 := by
    have := le_lt (cut x 1 8)
    rw [cut_len x 1 8 (by omega), pow8_eight, hv] at this
    exact this
  obtain ⟨bl, off, rfl, hlt, hcl⟩ := hr.2 (by omega)
  have hnum := number_any (some ⟨bl, off + 1, none⟩) 8 (c - 1) (cut x 1 8) (cut_len x 1 8 (by omega)) (by omega) w ⟨by rw [cut_len x 1 8 (by omega)]; omega, fun _ => ⟨bl, off + 1, rfl, hlt, fun k hk => by
    rw [cut_len x 1 8 (by omega)] at hk
    rw [Nat.add_assoc, hcl (1 + k) (by omega)]
    simp only [cut, List.getD, List.getElem?_take_of_lt hk, List.getElem?_drop]⟩⟩
  rw [hv] at hnum
  have HNUM := Lib.hid hnum
  have HCK := Lib.hid (fun W => rclock_ok v hvl W)
  have HL := Lib.hid (clockL_len v)
  have hconv : ∀ W, Below w.heap.size w W → (convert 23 9 (.slice (some ⟨bl, off, none⟩) 64 c)).run Try.prog W = .ok (.string ⟨x.toArray⟩) W := fun W hW => run_conv W _ 64 c x hx (hr.below hW)
  obtain ⟨T, hT⟩ : ∃ T : ByteArray, (⟨x.toArray⟩ : ByteArray) = T := ⟨_, rfl⟩
  have hconv2 : ∀ W (g cap : Nat), Row W (some ⟨g, 0, none⟩) (clockL v) → (convert 23 9 (.slice (some ⟨g, 0, none⟩) 64 cap)).run Try.prog W = .ok (.string ⟨(clockL v).toArray⟩) W := fun W g cap hW => run_conv W _ 64 cap _ (clockL_len v) hW
  obtain ⟨S, hS⟩ : ∃ S : ByteArray, (⟨(clockL v).toArray⟩ : ByteArray) = S := ⟨_, rfl⟩
  have hcmp : (S.toList == T.toList) = b := by
    rw [texts_eq hS hT, hb]
  rw [hT] at hconv
  rw [hS] at hconv2
  have HCV := Lib.hid hconv
  have HCV2 := Lib.hid hconv2
  generalize clockL v = y at *
  have hcn : ¬ c = 1 := by omega
  have hc9 : (9 : Int) ≤ (c : Int) := by omega
  clear hnum hr hcl hv hb hT hS hconv hconv2 hx hvl
  go_enter Try.func20, Try.ntmps20
  go_wp2_with fail
  refine HNUM.out.mono ?_
  rintro e w1 ⟨rfl, rfl⟩
  go_wp2_with fail
  have h0 := HCV.out w.drew (Below.refl _ _).drew
  go_region_with
    (first | (go_at_call 14; refine (HCK.out _).mono ?_; rintro e w7 ⟨g, cap, rfl, ho, hb⟩; have hb7 : Below w.heap.size w w7 := (Below.refl _ _).drew.trans hb; have hk7 := HCV.out w7 hb7; obtain ⟨C, cp, he, hrow⟩ := row_of_own ho (by rw [HL.out]; omega); injection he with he1 he2 he3; subst he1; have hk8 := HCV2.out w7 g cap hrow; have HB7 := Lib.hid hb7; rw [HL.out]; clear hb hb7 ho hrow he2 he3))
  all_goals
    clear h0
    have hbb := HB7.out
    cases b with
    | true =>
      go_wp2
      go_ret2
      exact ⟨rfl, hbb⟩
    | false =>
      go_wp2
      go_ret2
      exact ⟨rfl, hbb⟩
theorem risclock_yes (A : Option Addr) (c : Nat) (hc : 64 ≤ c) (v : Nat) (hv : v < 18446744073709551616) (w : World) (hr : Row w A (clockL v)) :
    Calls Try.prog 20 #[.slice A 64 c] w fun e w' => e = .returned (.tuple #[.int .u64 v, .bool true]) ∧ Below w.heap.size w w' :=
  risclock_64 A c (clockL v) (clockL_len v) hc w hr v (clock_num hv) true (by simp)
theorem risclock_no (A : Option Addr) (n c : Nat) (hc : n ≤ c) (x : List UInt8) (hx : x.length = n) (w : World) (hr : Row w A x) (hno : ∀ v, v < 18446744073709551616 → x ≠ clockL v) :
    Calls Try.prog 20 #[.slice A n c] w fun e w' => e = .returned (.tuple #[.int .u64 0, .bool false]) ∧ Below w.heap.size w w' := by
  rcases Classical.em (n = 64) with h | h
  · subst h
    have hvl : le (cut x 1 8) < 18446744073709551616 := by
      have := le_lt (cut x 1 8)
      rw [cut_len x 1 8 (by omega), pow8_eight] at this
      exact this
    exact risclock_64 A c x hx hc w hr _ rfl false (by simpa using Ne.symm (hno _ hvl))
  · exact (risclock_bad A n c h w).mono fun _ _ ⟨he, hw⟩ => ⟨he, hw ▸ Below.refl _ _⟩

end Go.Proofs.Ytifodinikonkhaa
