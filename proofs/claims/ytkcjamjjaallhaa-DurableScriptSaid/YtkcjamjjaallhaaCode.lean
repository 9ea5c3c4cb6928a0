/-
  Proved here: what package code's checkField, fits, Put, Get and Zeros answer for each row of bytes.
  Conditions: rows of at most 2^30 bytes.
-/
import Derived.Test.YtkcjamjjaallhaaOwn
import Derived.Test.YtkcjamjjaallhaaCodeMath
import Derived.Deep.QuietTactic
import Derived.BigQuiet
namespace Go.Proofs.Ytkcjamjjaallhaa
open Go.RowKit

set_option maxHeartbeats 400000 in
theorem check_any (A : Option Addr) (n c : Nat) (hn : n ≤ 1073741824) (p k : Int) (w : World) :
    Calls Try.prog 80 #[.slice A n c, .int .i64 p, .int .i64 k] w fun e w' => e = .returned (.int .i64 (chk n p k)) ∧ w = w' := by
  rcases Classical.em (k < 1 ∨ 8 < k) with h | h
  · have H := Lib.hid (chk_one (size := n) (at_ := p) h)
    have hk : decide (k < 1) = true ∨ decide (8 < k) = true := by simpa using h
    go_enter Try.func80, Try.ntmps80
    go_wp2
    all_goals first | omega | skip
    all_goals go_ret
    all_goals exact ⟨int_eq H.out.symm, rfl⟩
  · have hk1 : ¬ k < 1 := by omega
    have hk8 : ¬ 8 < k := by omega
    have hk1' : 1 ≤ k := by omega
    have hk8' : k ≤ 8 := by omega
    rcases Classical.em (p < 0 ∨ (n : Int) - k < p) with h2 | h2
    · have H := Lib.hid (chk_two h h2)
      clear h
      go_enter Try.func80, Try.ntmps80
      go_wp2
      all_goals first | omega | skip
      all_goals go_ret
      all_goals exact ⟨int_eq H.out.symm, rfl⟩
    · have H := Lib.hid (chk_ok h h2)
      clear h
      go_enter Try.func80, Try.ntmps80
      go_wp2
      all_goals first | omega | skip
      all_goals go_ret
      all_goals exact ⟨int_eq H.out.symm, rfl⟩

set_option maxHeartbeats 400000 in
theorem fits_any (v n : Nat) (hv : v < 18446744073709551616) (h1 : 1 ≤ n) (h8 : n ≤ 8) (w : World) :
    Calls Try.prog 86 #[.int .u64 v, .int .i64 n] w fun e w' => e = .returned (.bool (fit v n)) ∧ w = w' := by
  rcases Nat.lt_or_ge n 8 with h | h
  · have hn8 : ((n : Int) == 8) = false := by simp; omega
    have H : Hid (((v : Int) / 2 ^ (8 * n) == 0) = fit v n) := by
      show _ = _
      rw [fit, ← pow_8]
      have hp : 0 < 2 ^ (8 * n) := Nat.two_pow_pos _
      rw [Bool.eq_iff_iff, beq_iff_eq, decide_eq_true_iff]
      rw [show ((v : Int) / 2 ^ (8 * n)) = ((v / 2 ^ (8 * n) : Nat) : Int) by simp]
      rw [show ((v / 2 ^ (8 * n) : Nat) : Int) = 0 ↔ v / 2 ^ (8 * n) = 0 by omega, Nat.div_eq_zero_iff]
      omega
    go_enter Try.func86, Try.ntmps86
    go_wp2
    go_ret
    exact ⟨bool_eq H.out, rfl⟩
  · obtain rfl : n = 8 := by omega
    have H := Lib.hid (fit_of (v := v) (n := 8) (by rw [pow8_eight]; exact hv))
    go_enter Try.func86, Try.ntmps86
    go_wp2
    go_ret
    exact ⟨bool_eq H.out.symm, rfl⟩
/-- A place where nothing is wrong. -/
theorem chk_nat {n : Nat} {p k : Int} (h : chk n p k = 0) : ∃ a m : Nat, p = (a : Int) ∧ k = (m : Int) ∧ 1 ≤ m ∧ m ≤ 8 ∧ a + m ≤ n := by
  unfold chk at h
  split at h
  · cases h
  · split at h
    · cases h
    · exact ⟨p.toNat, k.toNat, by omega, by omega, by omega, by omega, by omega⟩

set_option maxHeartbeats 400000 in
theorem put_bad (A : Option Addr) (n c : Nat) (hn : n ≤ 1073741824) (p k : Int) (v : Int) (h : chk n p k ≠ 0) (w : World) :
    Calls Try.prog 81 #[.slice A n c, .int .i64 p, .int .i64 k, .int .u64 v] w fun e w' => e = .returned (.tuple #[.slice none 0 0, .int .i64 (chk n p k)]) ∧ w = w' := by
  have HC := Lib.hid (check_any A n c hn p k w)
  obtain ⟨x, hx⟩ : ∃ x, chk n p k = x := ⟨_, rfl⟩
  rw [hx] at h HC ⊢
  have hne : (x != 0) = true := by simpa using h
  clear hx
  go_enter Try.func81, Try.ntmps81
  go_wp2_with fail
  refine HC.out.mono ?_
  rintro e w' ⟨rfl, rfl⟩
  go_wp2
  go_ret2
  exact ⟨rfl, rfl⟩

set_option maxHeartbeats 400000 in
theorem put_full (A : Option Addr) (n c : Nat) (hn : n ≤ 1073741824) (a k v : Nat) (hv : v < 18446744073709551616) (h : chk n a k = 0) (h1 : 1 ≤ k) (h8 : k ≤ 8) (hf : fit v k = false) (w : World) :
    Calls Try.prog 81 #[.slice A n c, .int .i64 a, .int .i64 k, .int .u64 v] w fun e w' => e = .returned (.tuple #[.slice none 0 0, .int .i64 11]) ∧ w = w' := by
  have hc := check_any A n c hn a k w
  have hg := fits_any v k hv h1 h8 w
  rw [h] at hc
  rw [hf] at hg
  have HC := Lib.hid hc
  have HG := Lib.hid hg
  clear hc hg h hf
  go_enter Try.func81, Try.ntmps81
  go_wp2_with fail
  refine HC.out.mono ?_
  rintro e w' ⟨rfl, rfl⟩
  go_wp2_with fail
  refine HG.out.mono ?_
  rintro e w' ⟨rfl, rfl⟩
  go_wp2
  go_ret2
  exact ⟨rfl, rfl⟩

/-- What Put leaves where it does not refuse. -/
def PutTo (w : World) (n : Nat) (r : List UInt8) (e : Ending) (w' : World) : Prop :=
  ∃ g, e = .returned (.tuple #[.slice (some ⟨g, 0, none⟩) n n, .int .i64 0]) ∧ w.heap.size ≤ g ∧ Blk w' g (enc r) ∧ Below w.heap.size w w'

theorem byte_shr (v i : Nat) : IntKind.u8.wrap ((v : Int) / 2 ^ (8 * i)) = ((UInt8.ofNat (v / 256 ^ i)).toNat : Nat) := by
  rw [← pow_8, UInt8.toNat_ofNat']
  rw [show ((v : Int) / 2 ^ (8 * i)) = ((v / 2 ^ (8 * i) : Nat) : Int) by simp]
  obtain ⟨x, hx⟩ : ∃ x, v / 2 ^ (8 * i) = x := ⟨_, rfl⟩
  rw [hx]
  rfl

set_option maxHeartbeats 800000 in
set_option maxRecDepth 100000 in
theorem put_ok (A : Option Addr) (n c : Nat) (l : List UInt8) (hl : l.length = n) (a k v : Nat) (hv : v < 18446744073709551616) (h1 : 1 ≤ k) (h8 : k ≤ 8) (ha : a + k ≤ n) (hf : fit v k = true) (w : World) (hr : Row w A l) :
    Calls Try.prog 81 #[.slice A n c, .int .i64 a, .int .i64 k, .int .u64 v] w (PutTo w n (splice l a (lay k v))) := by
  have hn : n ≤ 1073741824 := by have := hr.1; omega
  have hc := check_any A n c hn a k w
  have hg := fits_any v k hv h1 h8 w
  rw [chk_ok (by omega) (by omega)] at hc
  rw [hf] at hg
  have HC := Lib.hid hc
  have HG := Lib.hid hg
  obtain ⟨w1, hmk, hblk, hbel⟩ := made w n hn
  obtain ⟨g, hgw⟩ : ∃ g, w.heap.size = g := ⟨_, rfl⟩
  have HGW := Lib.hid hgw
  rw [hgw] at hmk hblk hbel
  have HBK : Hid (w1.heap[g]? = some (.cells (List.replicate n (z8 0)).toArray 5 (0, 0))) := hblk
  have HBE := Lib.hid hbel
  have HL := Lib.hid hl
  have HR := Lib.hid hr
  have HPOS : Hid (Feeds w1 A l) := by
    intro hpos
    obtain ⟨b, off, e, hlt, hcl⟩ := hr.2 hpos
    refine ⟨_, e, fun j u hu => ?_⟩
    obtain ⟨hj, rfl⟩ := enc_at' l hu
    rw [add_plain]
    exact (hbel.cell (p := ⟨b, off + j, none⟩) (show b < g by omega)).trans (hcl j hj)
  clear hc hg hf hblk hbel hl hr hgw
  go_enter Try.func81, Try.ntmps81
  go_wp2_with fail
  refine HC.out.mono ?_
  rintro e w' ⟨rfl, rfl⟩
  go_wp2_with fail
  refine HG.out.mono ?_
  rintro e w' ⟨rfl, rfl⟩
  go_wp2_with (refine wpList_copy_splice (o := ⟨some 29, _, _, _, _, _⟩) rfl (.tmp 27) (.tmp 28) 50 50 rfl 5 Try.underlying50 byte_size (some ⟨g, 0, none⟩) A n n n c rfl rfl g 0 (List.replicate n (z8 0)) 5 HBK.out (enc l) (by rw [enc_len, HL.out]; simp) (fun h => ⟨rfl, HPOS.out (by rw [← enc_len]; exact h)⟩) (by rw [enc_len, HL.out]; simp) enc_one g w HBE.out (Nat.le_refl _) ?_; intro w2 HG2 hB2; have HB2 := Lib.hid hB2; clear hB2)
  clear hmk
  have HB3 : Hid (Blk w2 g (enc (laid l a k v 0))) := by
    show Blk _ _ _
    unfold Blk
    rw [HG2.out, laid_zero, splice, List.take_zero, List.nil_append, List.drop_of_length_le (by rw [enc_len, HL.out]; simp), List.append_nil]
  clear HG2 HPOS HBK HBE HC HG
  go_loopg [12, 31] k (fun gk s12 s31 wx => ∃ i : Nat, i + gk = k ∧ s31 = .int .i64 i ∧ Hid (Blk wx g (enc (laid l a k v i))) ∧ Hid (Below g w wx))
  case atStart => exact ⟨0, by omega, rfl, HB3, HB2⟩
  case round =>
    obtain ⟨i, hik, rfl, HB, HW⟩ := hrel
    cases gk with
    | zero =>
      obtain rfl : i = k := by omega
      have hii : ¬ (i : Int) < (i : Int) := by omega
      go_wp2
      go_ret2
      refine ⟨g, rfl, Nat.le_of_eq HGW.out, ?_, HGW.out ▸ HW.out⟩
      rw [← laid_all]
      exact HB.out
    | succ gk =>
      have hii : (i : Int) < (k : Int) := by omega
      have hlen : (laid l a k v i).length = n := by rw [laid_len l a k v i (by omega) (by have := HL.out; omega), HL.out]
      have hcell : wr.cell? ⟨g, a + i, none⟩ = some (.int .u8 (((laid l a k v i).getD (a + i) 0).toNat : Nat)) := by
        rw [HB.out.cell, enc_at _ _ (by omega)]
      have hfr : wr.frozen? ⟨g, a + i, none⟩ = false := HB.out.frozen _
      have hby := byte_shr v i
      have HSET := Lib.hid (laid_set l a k v i (by omega) (by have := HL.out; omega))
      obtain ⟨x, hx⟩ : ∃ x, UInt8.ofNat (v / 256 ^ i) = x := ⟨_, rfl⟩
      rw [hx] at hby HSET
      obtain ⟨o, ho⟩ : ∃ o, ((laid l a k v i).getD (a + i) 0).toNat = o := ⟨_, rfl⟩
      rw [ho] at hcell
      clear hx ho hlen
      go_wp2
      go_roundg gk
      case measure => omega
      case rel =>
        refine ⟨i + 1, by omega, by go_num, ?_, HW.out.setCell (Nat.le_refl _) _⟩
        have := HB.out.set_ (a + i) (.int .u8 (x.toNat : Nat))
        rw [enc_set _ _ _ (UInt8.toNat_lt x), UInt8.ofNat_toNat, HSET.out] at this
        exact this

set_option maxHeartbeats 400000 in
theorem get_bad (A : Option Addr) (n c : Nat) (hn : n ≤ 1073741824) (p k : Int) (h : chk n p k ≠ 0) (w : World) :
    Calls Try.prog 71 #[.slice A n c, .int .i64 p, .int .i64 k] w fun e w' => e = .returned (.tuple #[.int .u64 0, .int .i64 (chk n p k)]) ∧ w = w' := by
  have HC := Lib.hid (check_any A n c hn p k w)
  obtain ⟨x, hx⟩ : ∃ x, chk n p k = x := ⟨_, rfl⟩
  rw [hx] at h HC ⊢
  have hne : (x != 0) = true := by simpa using h
  clear hx
  go_enter Try.func71, Try.ntmps71
  go_wp2_with fail
  refine HC.out.mono ?_
  rintro e w' ⟨rfl, rfl⟩
  go_wp2
  go_ret2
  exact ⟨rfl, rfl⟩

/-- The k bytes of l from index a on. -/
def cut (l : List UInt8) (a k : Nat) : List UInt8 := (l.drop a).take k
theorem cut_len (l : List UInt8) (a k : Nat) (h : a + k ≤ l.length) : (cut l a k).length = k := by simp [cut]; omega
theorem cut_snoc (l : List UInt8) (a k : Nat) (h : a + k < l.length) : cut l a (k + 1) = cut l a k ++ [l.getD (a + k) 0] := by
  unfold cut
  rw [List.take_succ_eq_append_getElem (by simp; omega), List.getElem_drop]
  simp [List.getD, List.getElem?_eq_getElem h]
theorem or_byte (d x i : Nat) (hd : d < 256 ^ i) (hx : x < 256) (hi : i < 8) : bits .or .u64 (d : Int) (IntKind.u64.wrap ((x : Int) * 2 ^ (8 * i))) = ((d + x * 256 ^ i : Nat) : Int) := by
  have hp : 256 ^ (i + 1) ≤ 256 ^ 8 := Nat.pow_le_pow_right (by omega) (by omega)
  rw [Nat.pow_succ, pow8_eight] at hp
  have hb : x * 256 ^ i < 18446744073709551616 := by
    have : x * 256 ^ i ≤ 255 * 256 ^ i := Nat.mul_le_mul_right _ (by omega)
    omega
  have hd2 : d < 18446744073709551616 := by omega
  have e : IntKind.u64.wrap ((x : Int) * 2 ^ (8 * i)) = ((x * 256 ^ i : Nat) : Int) := by
    rw [show ((x : Int) * 2 ^ (8 * i)) = ((x * 2 ^ (8 * i) : Nat) : Int) by simp, pow_8]
    obtain ⟨y, hy⟩ : ∃ y, x * 256 ^ i = y := ⟨_, rfl⟩
    rw [hy] at hb ⊢
    show ((y : Int) % (18446744073709551616 : Int)) = _
    omega
  rw [e]
  have := u64_or_nat d (x * 256 ^ i) hd2 hb
  rw [this]
  congr 1
  rw [← pow_8] at hd ⊢
  exact or_add d x (8 * i) hd

set_option maxHeartbeats 800000 in
theorem get_ok (A : Option Addr) (n c : Nat) (l : List UInt8) (hl : l.length = n) (a k : Nat) (h1 : 1 ≤ k) (h8 : k ≤ 8) (ha : a + k ≤ n) (w : World) (hr : Row w A l) :
    Calls Try.prog 71 #[.slice A n c, .int .i64 a, .int .i64 k] w fun e w' => e = .returned (.tuple #[.int .u64 (le (cut l a k) : Nat), .int .i64 0]) ∧ w = w' := by
  have hn : n ≤ 1073741824 := by have := hr.1; omega
  have hc := check_any A n c hn a k w
  rw [chk_ok (by omega) (by omega)] at hc
  have HC := Lib.hid hc
  obtain ⟨b, off, rfl, hlt, hcl⟩ := hr.2 (by omega)
  have HCL := Lib.hid hcl
  have HL := Lib.hid hl
  obtain ⟨R, hR⟩ : ∃ R, le (cut l a k) = R := ⟨_, rfl⟩
  rw [hR]
  have HR := Lib.hid hR
  clear hc hcl hl hr hR
  go_enter Try.func71, Try.ntmps71
  go_wp2_with fail
  refine HC.out.mono ?_
  rintro e w' ⟨rfl, rfl⟩
  go_wp2
  go_loopg [9, 10, 19] k (fun gk s9 s10 s19 wx => ∃ i d : Nat, i + gk = k ∧ s19 = .int .i64 i ∧ s9 = .int .u64 d ∧ Hid (le (cut l a i) = d) ∧ w = wx)
  case atStart => exact ⟨0, 0, by omega, rfl, rfl, (by show le (cut l a 0) = 0; simp [cut, le]), rfl⟩
  case round =>
    obtain ⟨i, d, hik, rfl, rfl, HD, rfl⟩ := hrel
    cases gk with
    | zero =>
      obtain rfl : i = k := by omega
      have hii : ¬ (i : Int) < (i : Int) := by omega
      obtain rfl : R = d := HR.out.symm.trans HD.out
      go_wp2
      go_ret2
      exact ⟨rfl, rfl⟩
    | succ gk =>
      have hii : (i : Int) < (k : Int) := by omega
      have hcell := HCL.out (a + i) (by have := HL.out; omega)
      have hdl : d < 256 ^ i := by
        have := le_lt (cut l a i)
        rw [cut_len l a i (by have := HL.out; omega), HD.out] at this
        exact this
      have hx := UInt8.toNat_lt (l.getD (a + i) 0)
      have hor := or_byte d _ i hdl hx (by omega)
      have HS : Hid (le (cut l a (i + 1)) = d + (l.getD (a + i) 0).toNat * 256 ^ i) := by
        show _ = _
        rw [cut_snoc l a i (by have := HL.out; omega), le_snoc, HD.out, cut_len l a i (by have := HL.out; omega)]
      obtain ⟨x, hxe⟩ : ∃ x, (l.getD (a + i) 0).toNat = x := ⟨_, rfl⟩
      rw [hxe] at hcell hx hor HS
      obtain ⟨y, hye⟩ : ∃ y, d + x * 256 ^ i = y := ⟨_, rfl⟩
      rw [hye] at hor HS
      clear hxe hye hdl
      go_wp2
      go_roundg gk
      case measure => omega
      case rel => exact ⟨i + 1, y, by omega, by go_num, rfl, HS, rfl⟩

end Go.Proofs.Ytkcjamjjaallhaa
