/-
  Proved here: plain facts on the bytes of a superblock and of a clock line of chapter 4: how they are laid part by part, that they read back, that one byte turned leaves none.
  Conditions: none.
-/
import Derived.Test.YtkcjamjjaallhaaCodeMath
import Derived.Test.YtkcjamjjaallhaaSumMath
namespace Go.Proofs.Ytkcjamjjaallhaa

/-- What is laid so far, and noughts up to a line's end. -/
def padded (pre : List UInt8) : List UInt8 := pre ++ List.replicate (64 - pre.length) 0
theorem padded_len {pre : List UInt8} (h : pre.length ≤ 64) : (padded pre).length = 64 := by simp [padded]; omega
theorem padded_splice (pre ys : List UInt8) (h : pre.length + ys.length ≤ 64) : splice (padded pre) pre.length ys = padded (pre ++ ys) := by
  simp only [splice, padded, List.take_left, List.drop_append, List.length_append]
  rw [List.drop_of_length_le (by omega), List.nil_append, List.drop_replicate, List.append_assoc, show 64 - pre.length - (pre.length + ys.length - pre.length) = 64 - (pre.length + ys.length) by omega]
theorem padded_take (pre : List UInt8) : (padded pre).take pre.length = pre := by simp [padded]
theorem padded_nil : padded [] = List.replicate 64 0 := rfl

/-- Nine bytes, their checksum, noughts up to a line's end. -/
def sealed (nine : List UInt8) : List UInt8 := padded (nine ++ lay 4 (addS 0 nine))
def superNine (n : Nat) : List UInt8 := (lay 1 4 ++ [70, 85, 83, 69]) ++ lay 4 n
def clockNine (v : Nat) : List UInt8 := lay 1 3 ++ lay 8 v
def superL (n : Nat) : List UInt8 := sealed (superNine n)
def clockL (v : Nat) : List UInt8 := sealed (clockNine v)
theorem superNine_len (n : Nat) : (superNine n).length = 9 := by simp [superNine, lay_len]
theorem clockNine_len (v : Nat) : (clockNine v).length = 9 := by simp [clockNine, lay_len]
theorem sealed_len {nine : List UInt8} (h : nine.length = 9) : (sealed nine).length = 64 := padded_len (by simp [lay_len, h])
theorem superL_len (n : Nat) : (superL n).length = 64 := sealed_len (superNine_len n)
theorem clockL_len (v : Nat) : (clockL v).length = 64 := sealed_len (clockNine_len v)

theorem sealed_eq {nine : List UInt8} (h : nine.length = 9) : sealed nine = nine ++ (lay 4 (addS 0 nine) ++ List.replicate 51 0) := by
  simp [sealed, padded, lay_len, h]
theorem sealed_take {nine : List UInt8} (h : nine.length = 9) : (sealed nine).take 9 = nine := by
  rw [sealed_eq h, ← h, List.take_left]
theorem sealed_drop {nine : List UInt8} (h : nine.length = 9) : (sealed nine).drop 9 = lay 4 (addS 0 nine) ++ List.replicate 51 0 := by
  rw [sealed_eq h, ← h, List.drop_left]
theorem sealed_inj {a b : List UInt8} (ha : a.length = 9) (hb : b.length = 9) (h : sealed a = sealed b) : a = b := by
  rw [← sealed_take ha, h, sealed_take hb]
theorem sealed_cut {nine : List UInt8} (h : nine.length = 9) (a k : Nat) (hk : a + k ≤ 9) : ((sealed nine).drop a).take k = (nine.drop a).take k := by
  rw [sealed_eq h, List.drop_append_of_le_length (by omega), List.take_append_of_le_length (by simp; omega)]
theorem super_num {n : Nat} (h : n < 4294967296) : le (((superL n).drop 5).take 4) = n := by
  rw [superL, sealed_cut (superNine_len n) 5 4 (by omega)]
  rw [show ((superNine n).drop 5).take 4 = lay 4 n by simp [superNine, lay, List.drop, List.take]]
  exact le_lay_of (by simpa using h)
theorem clock_num {v : Nat} (h : v < 18446744073709551616) : le (((clockL v).drop 1).take 8) = v := by
  rw [clockL, sealed_cut (clockNine_len v) 1 8 (by omega)]
  rw [show ((clockNine v).drop 1).take 8 = lay 8 v by simp [clockNine, lay, List.drop, List.take]]
  exact le_lay_of (by simpa using h)
theorem clock_super (n v : Nat) : clockL v ≠ superL n := by
  intro h
  have := sealed_inj (clockNine_len v) (superNine_len n) h
  simp [clockNine, superNine, lay] at this

/-- One byte of a sealed line turned: it is none. -/
theorem sealed_turned {a b : List UInt8} (ha : a.length = 9) (hb : b.length = 9) (k : Nat) (hk : k < 64) (y : UInt8) (hy : (sealed a).getD k 0 ≠ y) : (sealed a).set k y ≠ sealed b := by
  intro h
  have hl := sealed_len ha
  have hget : ((sealed a).set k y).getD k 0 = y := by simp [List.getD, hl, hk]
  rcases Nat.lt_or_ge k 9 with h9 | h9
  · have hd : (sealed b).drop 9 = (sealed a).drop 9 := by rw [← h, List.drop_set_of_lt h9]
    have ht : b = a.set k y := by rw [← sealed_take hb, ← h, List.take_set, sealed_take ha]
    rw [sealed_drop ha, sealed_drop hb] at hd
    have hs : lay 4 (addS 0 b) = lay 4 (addS 0 a) := (List.append_inj hd (by simp [lay_len])).1
    have e1 : addS 0 b = addS 0 a := by
      have h1 := le_lay_of (n := 4) (v := addS 0 b) (by have := addS_lt (c := 0) (l := b) (by omega); simpa using this)
      have h2 := le_lay_of (n := 4) (v := addS 0 a) (by have := addS_lt (c := 0) (l := a) (by omega); simpa using this)
      rw [← h1, hs, h2]
    have hka : k < a.length := by omega
    have ea : a = a.take k ++ a[k] :: a.drop (k + 1) := by rw [← List.drop_eq_getElem_cons hka, List.take_append_drop]
    have eb : a.set k y = a.take k ++ y :: a.drop (k + 1) := by rw [List.set_eq_take_append_cons_drop, if_pos hka]
    have hne : y ≠ a[k] := by
      intro e
      apply hy
      rw [sealed_eq ha, List.getD, List.getElem?_append_left hka, List.getElem?_eq_getElem hka]
      simp [e]
    have e2 : addS 0 (a.take k ++ y :: a.drop (k + 1)) = addS 0 (a.take k ++ a[k] :: a.drop (k + 1)) := by
      rw [← eb, ← ht, e1]
      exact congrArg (addS 0) ea
    exact addS_set (c := 0) (by omega) (a.take k) (a.drop (k + 1)) y a[k] hne e2
  · have ht : b = a := by rw [← sealed_take hb, ← h, List.take_set_of_le h9, sealed_take ha]
    rw [ht] at h
    rw [h] at hget
    exact hy hget
end Go.Proofs.Ytkcjamjjaallhaa
