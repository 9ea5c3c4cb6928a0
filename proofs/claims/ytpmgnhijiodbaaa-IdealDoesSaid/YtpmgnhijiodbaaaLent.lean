/-
  Proved here: what the statements' own LendBytes, SameBytes, KeptBytes and Low answer.
  Conditions: rows of at most 2^30 bytes.
-/
import Derived.Test.YtpmgnhijiodbaaaBytes
namespace Go.Proofs.Ytpmgnhijiodbaaa
open Go.RowKit
set_option maxRecDepth 100000

def z8 (n : Nat) : Value := .int .u8 (n : Nat)

/-- The spare room behind i rounds of marking. -/
def marked (i : Nat) : List Value := List.replicate i (z8 165) ++ List.replicate (5 - i) (z8 0)
theorem marked_set (i : Nat) (h : i < 5) : (marked i).set i (z8 165) = marked (i + 1) := by
  rcases i with _ | _ | _ | _ | _ | i <;> first | rfl | omega
theorem marked_len (i : Nat) (h : i ≤ 5) : (marked i).length = 5 := by simp [marked]; omega
theorem lent_set (l : List UInt8) (i : Nat) (h : i < 5) : (enc l ++ marked i).set (l.length + i) (z8 165) = enc l ++ marked (i + 1) := by
  rw [List.set_append_right _ _ (by rw [enc_len]; omega), enc_len, Nat.add_sub_cancel_left, marked_set i h]

/-- What is lent: the bytes l, and five marked places behind them. -/
def Lent (w : World) (g : Nat) (l : List UInt8) : Prop := Blk w g (enc l ++ List.replicate 5 (z8 165))

/-- What LendBytes leaves. -/
def LentTo (w : World) (n : Nat) (l : List UInt8) (e : Ending) (w' : World) : Prop :=
  ∃ g, e = .returned (.slice (some ⟨g, 0, none⟩) n (n + 5)) ∧ w.heap.size ≤ g ∧ Lent w' g l ∧ Below w.heap.size w w'

theorem Lent.row {w : World} {g : Nat} {l : List UInt8} (h : Lent w g l) (hl : l.length ≤ 1073741824) : Row w (some ⟨g, 0, none⟩) l :=
  ⟨hl, fun _ => ⟨g, 0, rfl, Blk.lt h, fun k hk => by
    rw [Nat.zero_add, Blk.cell h, List.getElem?_append_left (by rw [enc_len]; exact hk), enc_at l k hk]⟩⟩

/-- Low: the number x, taken below n. -/
def low (x : Int) (n : Nat) : Nat := (IntKind.u64.wrap x).toNat % n
theorem low_lt (x : Int) {n : Nat} (h : 0 < n) : low x n < n := Nat.mod_lt _ h
theorem low_eq (x : Int) (n : Nat) (hn : 0 < n) (hn2 : n ≤ 1073741824) : wrap64 ((IntKind.u64.wrap x).tmod (n : Int)) = (low x n : Nat) := by
  have h0 := wrap_u64_nonneg x
  have hl := low_lt x hn
  obtain ⟨y, hy⟩ : ∃ y : Nat, IntKind.u64.wrap x = (y : Int) := ⟨(IntKind.u64.wrap x).toNat, by omega⟩
  have e : (IntKind.u64.wrap x).tmod (n : Int) = (low x n : Nat) := by
    rw [low, hy, Int.tmod_eq_emod_of_nonneg (by omega), Int.toNat_natCast]
    rfl
  rw [e]
  unfold wrap64
  omega
end Go.Proofs.Ytpmgnhijiodbaaa
