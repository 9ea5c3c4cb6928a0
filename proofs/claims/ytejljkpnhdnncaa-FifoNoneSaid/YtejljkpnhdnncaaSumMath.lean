/-
  Proved here: the plain mathematics of the checksum of chapter 1, on natural numbers: one step, a byte, a row of bytes, the complement; that steps keep apart what was apart.
  Conditions: none. Nothing of the translation is imported.
-/
namespace Go.Proofs.Ytejljkpnhdnncaa
set_option maxRecDepth 100000

/-- One of the eight steps for a byte. -/
def hv (c : Nat) : Nat := if c % 2 = 0 then c / 2 else c / 2 ^^^ 3988292384
/-- So many steps. -/
def hvN : Nat → Nat → Nat
  | 0, c => c
  | n + 1, c => hvN n (hv c)
/-- A byte taken into the register. -/
def stp (c x : Nat) : Nat := hvN 8 (c ^^^ x)
/-- A row of bytes taken into the register. -/
def fld (c : Nat) (l : List UInt8) : Nat := l.foldl (fun c x => stp c x.toNat) c
/-- The complement. -/
def nt (c : Nat) : Nat := 4294967295 ^^^ c
/-- The checksum of what lies behind what has the checksum c. -/
def addS (c : Nat) (l : List UInt8) : Nat := nt (fld (nt c) l)

theorem addS_def (c : Nat) (l : List UInt8) : addS c l = nt (fld (nt c) l) := rfl
theorem hv_lt {c : Nat} (h : c < 4294967296) : hv c < 4294967296 := by
  unfold hv
  split
  · omega
  · exact Nat.xor_lt_two_pow (n := 32) (by omega) (by omega)
theorem hvN_lt : ∀ (n : Nat) {c : Nat}, c < 4294967296 → hvN n c < 4294967296
  | 0, _, h => h
  | n + 1, _, h => hvN_lt n (hv_lt h)
theorem stp_lt {c x : Nat} (h : c < 4294967296) (hx : x < 256) : stp c x < 4294967296 :=
  hvN_lt 8 (Nat.xor_lt_two_pow (n := 32) (by omega) (by omega))
theorem fld_lt : ∀ (l : List UInt8) {c : Nat}, c < 4294967296 → fld c l < 4294967296
  | [], _, h => h
  | x :: l, _, h => fld_lt l (stp_lt h x.toNat_lt)
theorem nt_lt {c : Nat} (h : c < 4294967296) : nt c < 4294967296 := Nat.xor_lt_two_pow (n := 32) (by omega) (by omega)
theorem addS_lt {c : Nat} {l : List UInt8} (h : c < 4294967296) : addS c l < 4294967296 := nt_lt (fld_lt l (nt_lt h))

theorem xor_back (a p : Nat) : p ^^^ (p ^^^ a) = a := by rw [← Nat.xor_assoc, Nat.xor_self, Nat.zero_xor]
theorem nt_def (c : Nat) : nt c = 4294967295 ^^^ c := rfl
theorem nt_nt (c : Nat) : nt (nt c) = c := (nt_def (nt c)).trans (xor_back c 4294967295)
theorem nt_inj {a b : Nat} (h : nt a = nt b) : a = b := by rw [← nt_nt a, h, nt_nt]

theorem hvN_zero : ∀ n, hvN n 0 = 0
  | 0 => rfl
  | n + 1 => hvN_zero n
theorem hvN_succ : ∀ (n c : Nat), hvN (n + 1) c = hv (hvN n c)
  | 0, _ => rfl
  | n + 1, c => hvN_succ n (hv c)
theorem fld_append (c : Nat) (a b : List UInt8) : fld c (a ++ b) = fld (fld c a) b := by simp [fld]
theorem fld_snoc (c : Nat) (a : List UInt8) (x : UInt8) : fld c (a ++ [x]) = stp (fld c a) x.toNat := by simp [fld]
theorem addS_append (c : Nat) (a b : List UInt8) : addS (addS c a) b = addS c (a ++ b) := by
  unfold addS
  rw [nt_nt, fld_append]
theorem addS_nil (c : Nat) : addS c [] = c := nt_nt c

theorem top_half {c : Nat} (h : c < 4294967296) : (c / 2).testBit 31 = false := by
  rw [Nat.testBit_lt_two_pow]
  omega
theorem top_pol : (3988292384 : Nat).testBit 31 = true := by decide
theorem hv_inj {a b : Nat} (ha : a < 4294967296) (hb : b < 4294967296) (h : hv a = hv b) : a = b := by
  have h31 := congrArg (fun n => Nat.testBit n 31) h
  unfold hv at h h31
  by_cases pa : a % 2 = 0 <;> by_cases pb : b % 2 = 0
  · rw [if_pos pa, if_pos pb] at h
    omega
  · rw [if_pos pa, if_neg pb] at h31
    simp [Nat.testBit_xor, top_half ha, top_half hb, top_pol] at h31
  · rw [if_neg pa, if_pos pb] at h31
    simp [Nat.testBit_xor, top_half ha, top_half hb, top_pol] at h31
  · rw [if_neg pa, if_neg pb] at h
    have e : a / 2 = b / 2 := by
      rw [← xor_back (a / 2) 3988292384, ← xor_back (b / 2) 3988292384, Nat.xor_comm _ (a / 2), Nat.xor_comm _ (b / 2), h]
    omega
theorem hvN_inj : ∀ (n : Nat) {a b : Nat}, a < 4294967296 → b < 4294967296 → hvN n a = hvN n b → a = b
  | 0, _, _, _, _, h => h
  | n + 1, _, _, ha, hb, h => hv_inj ha hb (hvN_inj n (hv_lt ha) (hv_lt hb) h)
theorem stp_inj {a b x : Nat} (ha : a < 4294967296) (hb : b < 4294967296) (hx : x < 256) (h : stp a x = stp b x) : a = b := by
  have e := hvN_inj 8 (Nat.xor_lt_two_pow (n := 32) (by omega) (by omega)) (Nat.xor_lt_two_pow (n := 32) (by omega) (by omega)) h
  rw [← xor_back a x, Nat.xor_comm x a, e, Nat.xor_comm b x, xor_back]
theorem stp_inj2 {c x y : Nat} (hc : c < 4294967296) (hx : x < 256) (hy : y < 256) (h : stp c x = stp c y) : x = y := by
  have e := hvN_inj 8 (Nat.xor_lt_two_pow (n := 32) (by omega) (by omega)) (Nat.xor_lt_two_pow (n := 32) (by omega) (by omega)) h
  rw [← xor_back x c, e, xor_back]
theorem fld_inj : ∀ (l : List UInt8) {a b : Nat}, a < 4294967296 → b < 4294967296 → fld a l = fld b l → a = b
  | [], _, _, _, _, h => h
  | x :: l, _, _, ha, hb, h => stp_inj ha hb x.toNat_lt (fld_inj l (stp_lt ha x.toNat_lt) (stp_lt hb x.toNat_lt) h)

/-- Of two rows that differ in one byte the checksums differ. -/
theorem addS_set {c : Nat} (hc : c < 4294967296) (a b : List UInt8) (x y : UInt8) (hne : x ≠ y) : addS c (a ++ x :: b) ≠ addS c (a ++ y :: b) := by
  intro h
  have h1 := nt_inj h
  rw [fld_append, fld_append] at h1
  have hr := fld_lt a (nt_lt hc)
  exact hne (UInt8.toNat_inj.mp (stp_inj2 hr x.toNat_lt y.toNat_lt (fld_inj b (stp_lt hr x.toNat_lt) (stp_lt hr y.toNat_lt) h1)))

/-- The chapter's example. -/
theorem nine : addS 0 [49, 50, 51, 52, 53, 54, 55, 56, 57] = 3421780262 := by decide +kernel
end Go.Proofs.Ytejljkpnhdnncaa
