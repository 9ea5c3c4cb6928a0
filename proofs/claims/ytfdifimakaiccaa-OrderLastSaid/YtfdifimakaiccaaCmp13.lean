/-
  Proved here: what the comparisons answer that the order hands on.
  Conditions: none.
-/
import Derived.Test.YtfdifimakaiccaaOrdMem
import Derived.Test.YtfdifimakaiccaaSearch13
import Derived.Test.YtfdifimakaiccaaFind12
namespace Go.Proofs.Ytfdifimakaiccaa
open Go Go.RowKit
set_option maxRecDepth 100000

/-! ### The comparisons that the order hands on -/
theorem cmp_lt (a b : Ky) : decide (Lib.compareBytes a b < 0) = Op.bytesLess a b := by
  induction a generalizing b with
  | nil => cases b <;> rfl
  | cons x a ih =>
    cases b with
    | nil => rfl
    | cons y b =>
      unfold Lib.compareBytes Op.bytesLess
      by_cases h1 : x < y
      · simp [h1]
      · by_cases h2 : y < x
        · have : (x == y) = false := by
            rw [beq_eq_false_iff_ne]
            rintro rfl
            exact h1 h2
          simp [h1, h2, this]
        · have : x = y := UInt8.toNat_inj.1 (by have a : ¬ x.toNat < y.toNat := fun h => h1 (UInt8.lt_iff_toNat_lt.2 h); have b : ¬ y.toNat < x.toNat := fun h => h2 (UInt8.lt_iff_toNat_lt.2 h); omega)
          subst this
          simp [h1, ih]
theorem cmp_eq (a b : Ky) : (Lib.compareBytes a b == 0) = (a == b) := by
  induction a generalizing b with
  | nil => cases b <;> rfl
  | cons x a ih =>
    cases b with
    | nil => rfl
    | cons y b =>
      unfold Lib.compareBytes
      by_cases h1 : x < y
      · have : x ≠ y := by rintro rfl; exact absurd (UInt8.lt_iff_toNat_lt.1 h1) (Nat.lt_irrefl _)
        simp [h1, this]
      · by_cases h2 : y < x
        · have : x ≠ y := by rintro rfl; exact absurd (UInt8.lt_iff_toNat_lt.1 h2) (Nat.lt_irrefl _)
          simp [h1, h2, this]
        · have : x = y := UInt8.toNat_inj.1 (by have a : ¬ x.toNat < y.toNat := fun h => h1 (UInt8.lt_iff_toNat_lt.2 h); have b : ¬ y.toNat < x.toNat := fun h => h2 (UInt8.lt_iff_toNat_lt.2 h); omega)
          subst this
          have e : Lib.compareBytes a b = Lib.compareBytes a b := rfl
          simp only [h1, if_false]
          rw [ih]
          simp
/-- By key. -/
def byK (s : ByteArray) (x : Ln) : Int := Lib.compareBytes x.k s.data.toList
/-- Passed over or not. -/
def bySkip (s : ByteArray) (past : Bool) (x : Ln) : Int := if skipB s.data.toList past x.k = true then -1 else 1
set_option maxHeartbeats 1000000 in
theorem find1_any (x : Ln) (s : ByteArray) (w : World) : Calls Try.prog 33 #[.agg #[.string x.str, .int .u64 (x.id : Nat), .int .u64 (x.ver : Nat), .int .i64 x.line, .int .i64 x.cl], .string s] w fun e w' => e = .returned (.int .i64 (byK s x)) ∧ Below w.heap.size w w' := by
  have HC : Hid (∀ w', Calls Try.prog 34 #[.string x.str, .string s] w' fun e w2 => e = .returned (.int .i64 (byK s x)) ∧ w2 = w') := fun w' => strcmp_any x.str s w'
  generalize byK s x = r at *
  generalize x.str = s0 at *
  generalize (x.id : Int) = s1 at *
  generalize (x.ver : Int) = s2 at *
  generalize x.line = s3 at *
  generalize x.cl = s4 at *
  go_enter Try.func33, Try.ntmps33
  go_wp2_with (go_at_call 34; refine (HC.out _).mono ?_; rintro e w' ⟨rfl, rfl⟩)
  go_ret
  exact ⟨rfl, (Below.refl _ _).alloc (Nat.le_refl _) _⟩
theorem leq_str (x y : ByteArray) : (Op.bytesLess x.toList y.toList || x.toList == y.toList) = !Op.bytesLess y.data.toList x.data.toList := by
  rw [← gt_str]
  cases Op.bytesLess x.toList y.toList || x.toList == y.toList <;> rfl
set_option maxHeartbeats 1000000 in
theorem right1_any (x : Ln) (s : ByteArray) (past : Bool) (b : Nat) (w : World) (hb : b < w.heap.size) (hc : w.cell? ⟨b, 0, none⟩ = some (.bool past)) : Calls Try.prog 30 #[.agg #[.string x.str, .int .u64 (x.id : Nat), .int .u64 (x.ver : Nat), .int .i64 x.line, .int .i64 x.cl], .string s, .pointer (some ⟨b, 0, none⟩)] w fun e w' => e = .returned (.int .i64 (bySkip s past x)) ∧ Below w.heap.size w w' := by
  have hle := leq_str x.str s
  have hxk : x.str.data.toList = x.k := rfl
  rw [hxk] at hle
  have hsk : skipB s.data.toList past x.k = (past && !Op.bytesLess s.data.toList x.k) := rfl
  have hne : ¬ b = w.heap.size := by omega
  unfold bySkip
  rw [hsk]
  obtain ⟨z, hz⟩ : ∃ z, Op.bytesLess s.data.toList x.k = z := ⟨_, rfl⟩
  rw [hz] at hle ⊢
  clear hxk hsk hz
  generalize x.str = s0 at *
  generalize (x.id : Int) = s1 at *
  generalize (x.ver : Int) = s2 at *
  generalize x.line = s3 at *
  generalize x.cl = s4 at *
  cases past <;> cases z
  all_goals
    simp only [Bool.not_true, Bool.not_false] at hle
    go_enter Try.func30, Try.ntmps30
    go_wp2
    go_ret
    exact ⟨rfl, (Below.refl _ _).alloc (Nat.le_refl _) _⟩

end Go.Proofs.Ytfdifimakaiccaa
