/-
  Proved here, joined: Code, SumMath, Sum, GeomMath
  Conditions: as each part says.
-/
import Derived.Test.YtlghphccmgmomaaGreatJN1
import Derived.Test.YtlghphccmgmomaaGreatJN4
import Derived.Deep.QuietTactic
import Derived.BigQuiet

/-
  Proved here: what package code's checkField, fits, Put, Get and Zeros answer for each row of bytes.
  Conditions: rows of at most 2^30 bytes.
-/
namespace Go.Proofs.YtlghphccmgmomaaGreat
open Go.RowKit
set_option maxRecDepth 100000

set_option maxHeartbeats 400000 in
theorem check_any (A : Option Addr) (n c : Nat) (hn : n ≤ 1073741824) (p k : Int) (w : World) :
    Calls Tryz.prog 225 #[.slice A n c, .int .i64 p, .int .i64 k] w fun e w' => e = .returned (.int .i64 (chk n p k)) ∧ w = w' := by
  rcases Classical.em (k < 1 ∨ 8 < k) with h | h
  · have H := Lib.hid (chk_one (size := n) (at_ := p) h)
    have hk : decide (k < 1) = true ∨ decide (8 < k) = true := by simpa using h
    go_enter Tryz.func225, Tryz.ntmps225
    go_wp2
    all_goals first | omega | skip
    all_goals go_ret
    all_goals exact ⟨int_eq H.out.symm, rfl⟩
  · have hk1 : ¬ k < 1 := by omega
    have hk8 : ¬ 8 < k := by omega
    have hk1' : 1 ≤ k := by omega
    have hk8' : k ≤ 8 := by omega
    rcases Classical.em (p < 0 ∨ (n : Int) - k < p) with h2 | h2
    · have H := Lib.hid (chk_two h h2)
      clear h
      go_enter Tryz.func225, Tryz.ntmps225
      go_wp2
      all_goals first | omega | skip
      all_goals go_ret
      all_goals exact ⟨int_eq H.out.symm, rfl⟩
    · have H := Lib.hid (chk_ok h h2)
      clear h
      go_enter Tryz.func225, Tryz.ntmps225
      go_wp2
      all_goals first | omega | skip
      all_goals go_ret
      all_goals exact ⟨int_eq H.out.symm, rfl⟩

set_option maxHeartbeats 400000 in
theorem fits_any (v n : Nat) (hv : v < 18446744073709551616) (h1 : 1 ≤ n) (h8 : n ≤ 8) (w : World) :
    Calls Tryz.prog 238 #[.int .u64 v, .int .i64 n] w fun e w' => e = .returned (.bool (fit v n)) ∧ w = w' := by
  rcases Nat.lt_or_ge n 8 with h | h
  · have hn8 : ((n : Int) == 8) = false := by simp; omega
    have H : Hid (((v : Int) / 2 ^ (8 * n) == 0) = fit v n) := by
      show _ = _
      rw [fit, ← pow_8]
      have hp : 0 < 2 ^ (8 * n) := Nat.two_pow_pos _
      rw [Bool.eq_iff_iff, beq_iff_eq, decide_eq_true_iff]
      rw [show ((v : Int) / 2 ^ (8 * n)) = ((v / 2 ^ (8 * n) : Nat) : Int) by simp]
      rw [show ((v / 2 ^ (8 * n) : Nat) : Int) = 0 ↔ v / 2 ^ (8 * n) = 0 by omega, Nat.div_eq_zero_iff]
      omega
    go_enter Tryz.func238, Tryz.ntmps238
    go_wp2
    go_ret
    exact ⟨bool_eq H.out, rfl⟩
  · obtain rfl : n = 8 := by omega
    have H := Lib.hid (fit_of (v := v) (n := 8) (by rw [pow8_eight]; exact hv))
    go_enter Tryz.func238, Tryz.ntmps238
    go_wp2
    go_ret
    exact ⟨bool_eq H.out.symm, rfl⟩
/-- What Put leaves where it does not refuse. -/
def PutTo (w : World) (n : Nat) (r : List UInt8) (e : Ending) (w' : World) : Prop :=
  ∃ g, e = .returned (.tuple #[.slice (some ⟨g, 0, none⟩) n n, .int .i64 0]) ∧ w.heap.size ≤ g ∧ Blk w' g (enc r) ∧ Below w.heap.size w w'

theorem byte_shr (v i : Nat) : IntKind.u8.wrap ((v : Int) / 2 ^ (8 * i)) = ((UInt8.ofNat (v / 256 ^ i)).toNat : Nat) := by
  rw [← pow_8, UInt8.toNat_ofNat']
  rw [show ((v : Int) / 2 ^ (8 * i)) = ((v / 2 ^ (8 * i) : Nat) : Int) by simp]
  obtain ⟨x, hx⟩ : ∃ x, v / 2 ^ (8 * i) = x := ⟨_, rfl⟩
  rw [hx]
  rfl

set_option maxHeartbeats 800000 in
set_option maxRecDepth 100000 in
theorem put_ok (A : Option Addr) (n c : Nat) (l : List UInt8) (hl : l.length = n) (a k v : Nat) (hv : v < 18446744073709551616) (h1 : 1 ≤ k) (h8 : k ≤ 8) (ha : a + k ≤ n) (hf : fit v k = true) (w : World) (hr : Row w A l) :
    Calls Tryz.prog 223 #[.slice A n c, .int .i64 a, .int .i64 k, .int .u64 v] w (PutTo w n (splice l a (lay k v))) := by
  have hn : n ≤ 1073741824 := by have := hr.1; omega
  have hc := check_any A n c hn a k w
  have hg := fits_any v k hv h1 h8 w
  rw [chk_ok (by omega) (by omega)] at hc
  rw [hf] at hg
  have HC := Lib.hid hc
  have HG := Lib.hid hg
  obtain ⟨w1, hmk, hblk, hbel⟩ := made w n hn
  obtain ⟨g, hgw⟩ : ∃ g, w.heap.size = g := ⟨_, rfl⟩
  have HGW := Lib.hid hgw
  rw [hgw] at hmk hblk hbel
  have HBK : Hid (w1.heap[g]? = some (.cells (List.replicate n (z8 0)).toArray 5 (0, 0))) := hblk
  have HBE := Lib.hid hbel
  have HL := Lib.hid hl
  have HR := Lib.hid hr
  have HPOS : Hid (Feeds w1 A l) := by
    intro hpos
    obtain ⟨b, off, e, hlt, hcl⟩ := hr.2 hpos
    refine ⟨_, e, fun j u hu => ?_⟩
    obtain ⟨hj, rfl⟩ := enc_at' l hu
    rw [add_plain]
    exact (hbel.cell (p := ⟨b, off + j, none⟩) (show b < g by omega)).trans (hcl j hj)
  clear hc hg hf hblk hbel hl hr hgw
  go_enter Tryz.func223, Tryz.ntmps223
  go_wp2_with fail
  refine HC.out.mono ?_
  rintro e w' ⟨rfl, rfl⟩
  go_wp2_with fail
  refine HG.out.mono ?_
  rintro e w' ⟨rfl, rfl⟩
  go_wp2_with (refine wpList_copy_splice (o := ⟨some 29, _, _, _, _, _⟩) rfl (.tmp 27) (.tmp 28) 148 148 rfl 5 Tryz.underlying148 byte_size (some ⟨g, 0, none⟩) A n n n c rfl rfl g 0 (List.replicate n (z8 0)) 5 HBK.out (enc l) (by rw [enc_len, HL.out]; simp) (fun h => ⟨rfl, HPOS.out (by rw [← enc_len]; exact h)⟩) (by rw [enc_len, HL.out]; simp) enc_one g w HBE.out (Nat.le_refl _) ?_; intro w2 HG2 hB2; have HB2 := Lib.hid hB2; clear hB2)
  clear hmk
  have HB3 : Hid (Blk w2 g (enc (laid l a k v 0))) := by
    show Blk _ _ _
    unfold Blk
    rw [HG2.out, laid_zero, splice, List.take_zero, List.nil_append, List.drop_of_length_le (by rw [enc_len, HL.out]; simp), List.append_nil]
  clear HG2 HPOS HBK HBE HC HG
  go_loopg [12, 31] k (fun gk s12 s31 wx => ∃ i : Nat, i + gk = k ∧ s31 = .int .i64 i ∧ Hid (Blk wx g (enc (laid l a k v i))) ∧ Hid (Below g w wx))
  case atStart => exact ⟨0, by omega, rfl, HB3, HB2⟩
  case round =>
    obtain ⟨i, hik, rfl, HB, HW⟩ := hrel
    cases gk with
    | zero =>
      obtain rfl : i = k := by omega
      have hii : ¬ (i : Int) < (i : Int) := by omega
      go_wp2
      go_ret2
      refine ⟨g, rfl, Nat.le_of_eq HGW.out, ?_, HGW.out ▸ HW.out⟩
      rw [← laid_all]
      exact HB.out
    | succ gk =>
      have hii : (i : Int) < (k : Int) := by omega
      have hlen : (laid l a k v i).length = n := by rw [laid_len l a k v i (by omega) (by have := HL.out; omega), HL.out]
      have hcell : wr.cell? ⟨g, a + i, none⟩ = some (.int .u8 (((laid l a k v i).getD (a + i) 0).toNat : Nat)) := by
        rw [HB.out.cell, enc_at _ _ (by omega)]
      have hfr : wr.frozen? ⟨g, a + i, none⟩ = false := HB.out.frozen _
      have hby := byte_shr v i
      have HSET := Lib.hid (laid_set l a k v i (by omega) (by have := HL.out; omega))
      obtain ⟨x, hx⟩ : ∃ x, UInt8.ofNat (v / 256 ^ i) = x := ⟨_, rfl⟩
      rw [hx] at hby HSET
      obtain ⟨o, ho⟩ : ∃ o, ((laid l a k v i).getD (a + i) 0).toNat = o := ⟨_, rfl⟩
      rw [ho] at hcell
      clear hx ho hlen
      go_wp2
      go_roundg gk
      case measure => omega
      case rel =>
        refine ⟨i + 1, by omega, by go_num, ?_, HW.out.setCell (Nat.le_refl _) _⟩
        have := HB.out.set_ (a + i) (.int .u8 (x.toNat : Nat))
        rw [enc_set _ _ _ (UInt8.toNat_lt x), UInt8.ofNat_toNat, HSET.out] at this
        exact this

/-- The k bytes of l from index a on. -/
def cut (l : List UInt8) (a k : Nat) : List UInt8 := (l.drop a).take k
theorem cut_len (l : List UInt8) (a k : Nat) (h : a + k ≤ l.length) : (cut l a k).length = k := by simp [cut]; omega
theorem cut_snoc (l : List UInt8) (a k : Nat) (h : a + k < l.length) : cut l a (k + 1) = cut l a k ++ [l.getD (a + k) 0] := by
  unfold cut
  rw [List.take_succ_eq_append_getElem (by simp; omega), List.getElem_drop]
  simp [List.getD, List.getElem?_eq_getElem h]
theorem or_byte (d x i : Nat) (hd : d < 256 ^ i) (hx : x < 256) (hi : i < 8) : bits .or .u64 (d : Int) (IntKind.u64.wrap ((x : Int) * 2 ^ (8 * i))) = ((d + x * 256 ^ i : Nat) : Int) := by
  have hp : 256 ^ (i + 1) ≤ 256 ^ 8 := Nat.pow_le_pow_right (by omega) (by omega)
  rw [Nat.pow_succ, pow8_eight] at hp
  have hb : x * 256 ^ i < 18446744073709551616 := by
    have : x * 256 ^ i ≤ 255 * 256 ^ i := Nat.mul_le_mul_right _ (by omega)
    omega
  have hd2 : d < 18446744073709551616 := by omega
  have e : IntKind.u64.wrap ((x : Int) * 2 ^ (8 * i)) = ((x * 256 ^ i : Nat) : Int) := by
    rw [show ((x : Int) * 2 ^ (8 * i)) = ((x * 2 ^ (8 * i) : Nat) : Int) by simp, pow_8]
    obtain ⟨y, hy⟩ : ∃ y, x * 256 ^ i = y := ⟨_, rfl⟩
    rw [hy] at hb ⊢
    show ((y : Int) % (18446744073709551616 : Int)) = _
    omega
  rw [e]
  have := u64_or_nat d (x * 256 ^ i) hd2 hb
  rw [this]
  congr 1
  rw [← pow_8] at hd ⊢
  exact or_add d x (8 * i) hd

set_option maxHeartbeats 800000 in
theorem get_ok (A : Option Addr) (n c : Nat) (l : List UInt8) (hl : l.length = n) (a k : Nat) (h1 : 1 ≤ k) (h8 : k ≤ 8) (ha : a + k ≤ n) (w : World) (hr : Row w A l) :
    Calls Tryz.prog 203 #[.slice A n c, .int .i64 a, .int .i64 k] w fun e w' => e = .returned (.tuple #[.int .u64 (le (cut l a k) : Nat), .int .i64 0]) ∧ w = w' := by
  have hn : n ≤ 1073741824 := by have := hr.1; omega
  have hc := check_any A n c hn a k w
  rw [chk_ok (by omega) (by omega)] at hc
  have HC := Lib.hid hc
  obtain ⟨b, off, rfl, hlt, hcl⟩ := hr.2 (by omega)
  have HCL := Lib.hid hcl
  have HL := Lib.hid hl
  obtain ⟨R, hR⟩ : ∃ R, le (cut l a k) = R := ⟨_, rfl⟩
  rw [hR]
  have HR := Lib.hid hR
  clear hc hcl hl hr hR
  go_enter Tryz.func203, Tryz.ntmps203
  go_wp2_with fail
  refine HC.out.mono ?_
  rintro e w' ⟨rfl, rfl⟩
  go_wp2
  go_loopg [9, 10, 19] k (fun gk s9 s10 s19 wx => ∃ i d : Nat, i + gk = k ∧ s19 = .int .i64 i ∧ s9 = .int .u64 d ∧ Hid (le (cut l a i) = d) ∧ w = wx)
  case atStart => exact ⟨0, 0, by omega, rfl, rfl, (by show le (cut l a 0) = 0; simp [cut, le]), rfl⟩
  case round =>
    obtain ⟨i, d, hik, rfl, rfl, HD, rfl⟩ := hrel
    cases gk with
    | zero =>
      obtain rfl : i = k := by omega
      have hii : ¬ (i : Int) < (i : Int) := by omega
      obtain rfl : R = d := HR.out.symm.trans HD.out
      go_wp2
      go_ret2
      exact ⟨rfl, rfl⟩
    | succ gk =>
      have hii : (i : Int) < (k : Int) := by omega
      have hcell := HCL.out (a + i) (by have := HL.out; omega)
      have hdl : d < 256 ^ i := by
        have := le_lt (cut l a i)
        rw [cut_len l a i (by have := HL.out; omega), HD.out] at this
        exact this
      have hx := UInt8.toNat_lt (l.getD (a + i) 0)
      have hor := or_byte d _ i hdl hx (by omega)
      have HS : Hid (le (cut l a (i + 1)) = d + (l.getD (a + i) 0).toNat * 256 ^ i) := by
        show _ = _
        rw [cut_snoc l a i (by have := HL.out; omega), le_snoc, HD.out, cut_len l a i (by have := HL.out; omega)]
      obtain ⟨x, hxe⟩ : ∃ x, (l.getD (a + i) 0).toNat = x := ⟨_, rfl⟩
      rw [hxe] at hcell hx hor HS
      obtain ⟨y, hye⟩ : ∃ y, d + x * 256 ^ i = y := ⟨_, rfl⟩
      rw [hye] at hor HS
      clear hxe hye hdl
      go_wp2
      go_roundg gk
      case measure => omega
      case rel => exact ⟨i + 1, y, by omega, by go_num, rfl, HS, rfl⟩

end Go.Proofs.YtlghphccmgmomaaGreat

/-
  Proved here: the plain mathematics of the checksum of chapter 1, on natural numbers: one step, a byte, a row of bytes, the complement; that steps keep apart what was apart.
  Conditions: none. Nothing of the translation is imported.
-/
namespace Go.Proofs.YtlghphccmgmomaaGreat
set_option maxRecDepth 100000

/-- One of the eight steps for a byte. -/
def hv (c : Nat) : Nat := if c % 2 = 0 then c / 2 else c / 2 ^^^ 3988292384
/-- So many steps. -/
def hvN : Nat → Nat → Nat
  | 0, c => c
  | n + 1, c => hvN n (hv c)
/-- A byte taken into the register. -/
def stp (c x : Nat) : Nat := hvN 8 (c ^^^ x)
/-- A row of bytes taken into the register. -/
def fld (c : Nat) (l : List UInt8) : Nat := l.foldl (fun c x => stp c x.toNat) c
/-- The complement. -/
def nt (c : Nat) : Nat := 4294967295 ^^^ c
/-- The checksum of what lies behind what has the checksum c. -/
def addS (c : Nat) (l : List UInt8) : Nat := nt (fld (nt c) l)

theorem addS_def (c : Nat) (l : List UInt8) : addS c l = nt (fld (nt c) l) := rfl
theorem hv_lt {c : Nat} (h : c < 4294967296) : hv c < 4294967296 := by
  unfold hv
  split
  · omega
  · exact Nat.xor_lt_two_pow (n := 32) (by omega) (by omega)
theorem hvN_lt : ∀ (n : Nat) {c : Nat}, c < 4294967296 → hvN n c < 4294967296
  | 0, _, h => h
  | n + 1, _, h => hvN_lt n (hv_lt h)
theorem stp_lt {c x : Nat} (h : c < 4294967296) (hx : x < 256) : stp c x < 4294967296 :=
  hvN_lt 8 (Nat.xor_lt_two_pow (n := 32) (by omega) (by omega))
theorem fld_lt : ∀ (l : List UInt8) {c : Nat}, c < 4294967296 → fld c l < 4294967296
  | [], _, h => h
  | x :: l, _, h => fld_lt l (stp_lt h x.toNat_lt)
theorem nt_lt {c : Nat} (h : c < 4294967296) : nt c < 4294967296 := Nat.xor_lt_two_pow (n := 32) (by omega) (by omega)
theorem addS_lt {c : Nat} {l : List UInt8} (h : c < 4294967296) : addS c l < 4294967296 := nt_lt (fld_lt l (nt_lt h))

theorem xor_back (a p : Nat) : p ^^^ (p ^^^ a) = a := by rw [← Nat.xor_assoc, Nat.xor_self, Nat.zero_xor]
theorem nt_def (c : Nat) : nt c = 4294967295 ^^^ c := rfl
theorem nt_nt (c : Nat) : nt (nt c) = c := (nt_def (nt c)).trans (xor_back c 4294967295)
theorem hvN_zero : ∀ n, hvN n 0 = 0
  | 0 => rfl
  | n + 1 => hvN_zero n
theorem fld_append (c : Nat) (a b : List UInt8) : fld c (a ++ b) = fld (fld c a) b := by simp [fld]
theorem fld_snoc (c : Nat) (a : List UInt8) (x : UInt8) : fld c (a ++ [x]) = stp (fld c a) x.toNat := by simp [fld]
theorem addS_append (c : Nat) (a b : List UInt8) : addS (addS c a) b = addS c (a ++ b) := by
  unfold addS
  rw [nt_nt, fld_append]
/-- The chapter's example. -/
theorem nine : addS 0 [49, 50, 51, 52, 53, 54, 55, 56, 57] = 3421780262 := by decide +kernel
end Go.Proofs.YtlghphccmgmomaaGreat

/-
  Proved here: what the functions of package sum answer, for each row of bytes.
  Conditions: rows and texts of at most 2^30 bytes.
-/
namespace Go.Proofs.YtlghphccmgmomaaGreat
open Go.RowKit
set_option maxRecDepth 100000

theorem xor_pol (c : Nat) (hc : c < 4294967296) : bits .xor .u32 ((c : Int) / 2) 3988292384 = ((c / 2 ^^^ 3988292384 : Nat) : Int) := by
  have h := u32_xor_nat (c / 2) 3988292384 (by omega) (by omega)
  simpa using h
theorem hv_even {c : Nat} (h : ((c : Int) % 2 == 0) = true) : (c : Int) / 2 = (hv c : Nat) := by
  have : c % 2 = 0 := by simp at h; omega
  rw [hv, if_pos this]; omega
theorem hv_odd {c : Nat} (hc : c < 4294967296) (h : ((c : Int) % 2 == 0) = false) : bits .xor .u32 ((c : Int) / 2) 3988292384 = (hv c : Nat) := by
  have : ¬ c % 2 = 0 := by simp at h; omega
  rw [hv, if_neg this, xor_pol c hc]

set_option maxHeartbeats 400000 in
theorem halve_any (c : Nat) (hc : c < 4294967296) (w : World) :
    Calls Tryz.prog 235 #[.int .u32 c] w fun e w' => e = .returned (.int .u32 (hv c : Nat)) ∧ w = w' := by
  go_enter Tryz.func235, Tryz.ntmps235
  go_wp2
  · go_ret
    exact ⟨int_eq (hv_even ‹_›), rfl⟩
  · go_ret
    exact ⟨int_eq (hv_odd hc ‹_›), rfl⟩

set_option maxHeartbeats 400000 in
theorem fold_any (c : Nat) (hc : c < 4294967296) (A : Option Addr) (n cap : Nat) (l : List UInt8) (hn : l.length = n) (w : World) (hr : Row w A l) :
    Calls Tryz.prog 220 #[.int .u32 c, .slice A n cap] w fun e w' => e = .returned (.int .u32 (fld c l : Nat)) ∧ w = w' := by
  obtain ⟨hmax, hr⟩ := hr
  have HN : Hid (l.length = n) := hn
  rw [hn] at hmax hr
  clear hn
  have HR : Hid (0 < n → ∃ b off, A = some ⟨b, off, none⟩ ∧ b < w.heap.size ∧ ∀ k, k < n → w.cell? ⟨b, off + k, none⟩ = some (.int .u8 ((l.getD k 0).toNat : Nat))) := hr
  clear hr
  go_enter Tryz.func220, Tryz.ntmps220
  go_wp2
  go_step3
  go_wp2
  go_step3
  go_wp2
  go_loopg [0, 9] n (fun g s0 s9 wx => ∃ (k d : Nat), k + g = n ∧ s9 = .int .i64 k ∧ s0 = .int .u32 d ∧ d < 4294967296 ∧ Hid (fld c (l.take k) = d) ∧ w = wx)
  case atStart => exact ⟨0, c, by omega, rfl, rfl, hc, rfl, rfl⟩
  case round =>
    obtain ⟨k, q, hkg, rfl, rfl, hq, HQ, rfl⟩ := hrel
    cases gk with
    | zero =>
      have hkz : ¬ ((k : Int) < (n : Int)) := by omega
      go_wp2
      try rw [Exit.noGoto_ret]
      go_ret
      refine ⟨int_eq ?_, rfl⟩
      have h := HQ.out
      rw [List.take_of_length_le (by have := HN.out; omega)] at h
      rw [h]
    | succ g =>
      have hkz : (k : Int) < (n : Int) := by omega
      obtain ⟨b, off, rfl, hb, hcells⟩ := HR.out (by omega)
      have hcell := hcells k (by omega)
      have hsn : l.take (k + 1) = l.take k ++ [l.getD k 0] := by
        rw [List.take_succ_eq_append_getElem (by have := HN.out; omega)]
        simp [List.getD, List.getElem?_eq_getElem (show k < l.length by have := HN.out; omega)]
      have HS : Hid (fld c (l.take (k + 1)) = stp q (l.getD k 0).toNat) := by
        show _ = _
        rw [hsn, fld_snoc, HQ.out]
      have hx : (l.getD k 0).toNat < 256 := UInt8.toNat_lt _
      obtain ⟨x, hxe⟩ : ∃ x, (l.getD k 0).toNat = x := ⟨_, rfl⟩
      rw [hxe] at hcell HS hx
      clear hcells hsn hxe HR HQ
      obtain ⟨r, hr⟩ : ∃ r, q ^^^ x = r := ⟨_, rfl⟩
      have hxor : bits .xor .u32 (q : Int) (x : Int) = (r : Int) := by rw [u32_xor_nat q x hq (by omega), hr]
      have hrl : r < 4294967296 := by rw [← hr]; exact Nat.xor_lt_two_pow (n := 32) (by omega) (by omega)
      have HS2 : Hid (fld c (l.take (k + 1)) = hvN 8 r) := by
        have := HS.out
        rw [stp, hr] at this
        exact this
      clear HS hr
      go_wp2
      clear hxor hcell
      go_loopg [0, 17] 8 (fun g2 s0 s17 wx => ∃ (j d : Nat), j + g2 = 8 ∧ s17 = .int .i64 j ∧ s0 = .int .u32 d ∧ d < 4294967296 ∧ Hid (hvN 8 r = hvN g2 d) ∧ w = wx)
      case atStart => exact ⟨0, r, by omega, rfl, rfl, hrl, rfl, rfl⟩
      case round =>
        obtain ⟨j, d, hjg, rfl, rfl, hd, HD, rfl⟩ := hrel
        cases gk with
        | zero =>
          have hj8 : ¬ ((j : Int) < 8) := by omega
          go_wp2
          go_roundg g
          case measure => omega
          case rel => exact ⟨k + 1, d, by omega, by go_num, rfl, hd, HS2.out.trans HD.out, rfl⟩
        | succ g2 =>
          have hj8 : (j : Int) < 8 := by omega
          by_cases h0 : d = 0
          · have ht : ((d : Int) == 0) = true := by simp [h0]
            have HD2 : Hid (fld c (l.take (k + 1)) = d) := HS2.out.trans (HD.out.trans (by rw [h0, hvN_zero]))
            clear h0 HD
            go_wp2
            go_roundg g
            case measure => omega
            case rel => exact ⟨k + 1, d, by omega, by go_num, rfl, hd, HD2, rfl⟩
          · have ht : ((d : Int) == 0) = false := by simp; exact h0
            clear h0
            go_wp2_with (go_at_call 235; refine (halve_any _ (by omega) _).mono ?_; rintro e w' ⟨rfl, rfl⟩)
            go_roundg g2
            case measure => omega
            case rel => exact ⟨j + 1, hv d, by omega, by go_num, rfl, hv_lt hd, HD, rfl⟩

theorem xor_nt (c : Nat) (hc : c < 4294967296) : bits .xor .u32 IntKind.u32.max (c : Int) = (nt c : Nat) := by
  rw [show IntKind.u32.max = (4294967295 : Int) from rfl]
  have h := u32_xor_nat 4294967295 c (by omega) hc
  rw [nt_def]
  simpa using h

set_option maxHeartbeats 400000 in
theorem add_any (c : Nat) (hc : c < 4294967296) (A : Option Addr) (n cap : Nat) (l : List UInt8) (hn : l.length = n) (w : World) (hr : Row w A l) :
    Calls Tryz.prog 186 #[.int .u32 c, .slice A n cap] w fun e w' => e = .returned (.int .u32 (addS c l : Nat)) ∧ w = w' := by
  have H := fold_any (nt c) (nt_lt hc) A n cap l hn w hr
  have h1 := xor_nt c hc
  have h2 := xor_nt _ (fld_lt l (nt_lt hc))
  rw [← addS_def c l] at h2
  obtain ⟨f, hf⟩ : ∃ f, fld (nt c) l = f := ⟨_, rfl⟩
  obtain ⟨d, hd⟩ : ∃ d, nt c = d := ⟨_, rfl⟩
  obtain ⟨r, hrr⟩ : ∃ r, addS c l = r := ⟨_, rfl⟩
  rw [hf] at H h2
  rw [hd] at H h1
  rw [hrr] at h2 ⊢
  have HH := Lib.hid H
  clear H hn hr hf hd hrr
  have hsg : IntKind.u32.signed = false := rfl
  go_enter Tryz.func186, Tryz.ntmps186
  go_wp2_with fail
  refine HH.out.mono ?_
  rintro e w' ⟨rfl, rfl⟩
  go_wp2
  go_ret
  exact ⟨rfl, rfl⟩

set_option maxHeartbeats 400000 in
theorem sum_any (A : Option Addr) (n cap : Nat) (l : List UInt8) (hn : l.length = n) (w : World) (hr : Row w A l) :
    Calls Tryz.prog 196 #[.slice A n cap] w fun e w' => e = .returned (.int .u32 (addS 0 l : Nat)) ∧ w = w' := by
  have HH := Lib.hid (add_any 0 (by omega) A n cap l hn w hr)
  clear hn hr
  go_enter Tryz.func196, Tryz.ntmps196
  go_wp2_with (go_at_call 186; refine HH.out.mono ?_; rintro e w' ⟨rfl, rfl⟩)
  go_ret
  exact ⟨rfl, rfl⟩

end Go.Proofs.YtlghphccmgmomaaGreat

/-
  Proved here: plain facts on the bytes of a superblock and of a clock line of chapter 4: how they are laid part by part, that they read back, that one byte turned leaves none.
  Conditions: none.
-/
namespace Go.Proofs.YtlghphccmgmomaaGreat
set_option maxRecDepth 100000

/-- What is laid so far, and noughts up to a line's end. -/
def padded (pre : List UInt8) : List UInt8 := pre ++ List.replicate (64 - pre.length) 0
theorem padded_len {pre : List UInt8} (h : pre.length ≤ 64) : (padded pre).length = 64 := by simp [padded]; omega
theorem padded_splice (pre ys : List UInt8) (h : pre.length + ys.length ≤ 64) : splice (padded pre) pre.length ys = padded (pre ++ ys) := by
  simp only [splice, padded, List.take_left, List.drop_append, List.length_append]
  rw [List.drop_of_length_le (by omega), List.nil_append, List.drop_replicate, List.append_assoc, show 64 - pre.length - (pre.length + ys.length - pre.length) = 64 - (pre.length + ys.length) by omega]
/-- Nine bytes, their checksum, noughts up to a line's end. -/
def sealed (nine : List UInt8) : List UInt8 := padded (nine ++ lay 4 (addS 0 nine))
def superNine (n : Nat) : List UInt8 := (lay 1 4 ++ [70, 85, 83, 69]) ++ lay 4 n
def clockNine (v : Nat) : List UInt8 := lay 1 3 ++ lay 8 v
def superL (n : Nat) : List UInt8 := sealed (superNine n)
def clockL (v : Nat) : List UInt8 := sealed (clockNine v)
theorem superNine_len (n : Nat) : (superNine n).length = 9 := by simp [superNine, lay_len]
theorem clockNine_len (v : Nat) : (clockNine v).length = 9 := by simp [clockNine, lay_len]
theorem sealed_len {nine : List UInt8} (h : nine.length = 9) : (sealed nine).length = 64 := padded_len (by simp [lay_len, h])
theorem superL_len (n : Nat) : (superL n).length = 64 := sealed_len (superNine_len n)
theorem clockL_len (v : Nat) : (clockL v).length = 64 := sealed_len (clockNine_len v)

end Go.Proofs.YtlghphccmgmomaaGreat
