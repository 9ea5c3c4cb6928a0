/-
  Proved here: plain facts on numbers that lie as bytes, the least significant byte first.
  Conditions: none.
-/
import Derived.Laws.CopyOwn
namespace Go.Proofs.Ytkcjamjjaallhaa

/-- The number that bytes encode, the least significant byte first. -/
def le : List UInt8 → Nat
  | [] => 0
  | x :: r => x.toNat + 256 * le r
/-- The lowest n bytes of v. -/
def lay : Nat → Nat → List UInt8
  | 0, _ => []
  | n + 1, v => UInt8.ofNat v :: lay n (v / 256)

theorem lay_len (n v : Nat) : (lay n v).length = n := by
  induction n generalizing v with
  | zero => rfl
  | succ n ih => simp [lay, ih]
theorem le_lay (n v : Nat) : le (lay n v) = v % 256 ^ n := by
  induction n generalizing v with
  | zero => simp [lay, le, Nat.mod_one]
  | succ n ih =>
    simp only [lay, le, ih]
    rw [Nat.pow_succ, Nat.mul_comm (256 ^ n) 256, Nat.mod_mul, UInt8.toNat_ofNat']
theorem le_lay_of {n v : Nat} (h : v < 256 ^ n) : le (lay n v) = v := by rw [le_lay, Nat.mod_eq_of_lt h]
theorem lay_at (n v i : Nat) (h : i < n) : (lay n v).getD i 0 = UInt8.ofNat (v / 256 ^ i) := by
  induction n generalizing v i with
  | zero => omega
  | succ n ih =>
    cases i with
    | zero => simp [lay]
    | succ i =>
      have := ih (v / 256) i (by omega)
      simp only [lay, List.getD_cons_succ, this, Nat.div_div_eq_div_mul, Nat.pow_succ, Nat.mul_comm 256]
theorem lay_snoc (n v : Nat) : lay (n + 1) v = lay n v ++ [UInt8.ofNat (v / 256 ^ n)] := by
  induction n generalizing v with
  | zero => simp [lay]
  | succ n ih =>
    rw [lay, ih (v / 256)]
    simp only [lay, List.cons_append, Nat.div_div_eq_div_mul, Nat.pow_succ, Nat.mul_comm 256]
theorem lay_take (n v i : Nat) (h : i ≤ n) : (lay n v).take i = lay i v := by
  induction n generalizing v i with
  | zero => obtain rfl : i = 0 := by omega
            rfl
  | succ n ih =>
    cases i with
    | zero => rfl
    | succ i => simp [lay, ih (v / 256) i (by omega)]
theorem le_lt (l : List UInt8) : le l < 256 ^ l.length := by
  induction l with
  | nil => simp [le]
  | cons x r ih =>
    have := UInt8.toNat_lt x
    simp only [le, List.length_cons, Nat.pow_succ]
    omega
theorem le_append (a b : List UInt8) : le (a ++ b) = le a + 256 ^ a.length * le b := by
  induction a with
  | nil => simp [le]
  | cons x r ih =>
    simp only [List.cons_append, le, ih, List.length_cons, Nat.pow_succ]
    rw [Nat.mul_add, ← Nat.mul_assoc, Nat.mul_comm 256 (256 ^ r.length)]
    omega
theorem le_snoc (a : List UInt8) (x : UInt8) : le (a ++ [x]) = le a + x.toNat * 256 ^ a.length := by
  rw [le_append]
  simp [le, Nat.mul_comm]
theorem lay_le (l : List UInt8) : lay l.length (le l) = l := by
  induction l with
  | nil => rfl
  | cons x r ih =>
    have h := UInt8.toNat_lt x
    have e1 : (x.toNat + 256 * le r) / 256 = le r := by omega
    have e2 : UInt8.ofNat (x.toNat + 256 * le r) = x := by
      apply UInt8.toNat.inj
      rw [UInt8.toNat_ofNat']
      omega
    simp only [List.length_cons, lay, le, e1, e2, ih]

/-- What is wrong with a place (P2.1): 1, 2 or 0. -/
def chk (size at_ n : Int) : Int := if n < 1 ∨ 8 < n then 1 else if at_ < 0 ∨ size - n < at_ then 2 else 0
theorem chk_one {size at_ n : Int} (h : n < 1 ∨ 8 < n) : chk size at_ n = 1 := if_pos h
theorem chk_two {size at_ n : Int} (h : ¬ (n < 1 ∨ 8 < n)) (h2 : at_ < 0 ∨ size - n < at_) : chk size at_ n = 2 := by rw [chk, if_neg h, if_pos h2]
theorem chk_ok {size at_ n : Int} (h : ¬ (n < 1 ∨ 8 < n)) (h2 : ¬ (at_ < 0 ∨ size - n < at_)) : chk size at_ n = 0 := by rw [chk, if_neg h, if_neg h2]

/-- Does the number v have room in n bytes? -/
def fit (v n : Nat) : Bool := decide (v < 256 ^ n)
theorem pow_8 (n : Nat) : (2 : Nat) ^ (8 * n) = 256 ^ n := by rw [Nat.pow_mul]
theorem fit_lt {v n : Nat} (h : fit v n = true) : v < 256 ^ n := of_decide_eq_true h
theorem fit_of {v n : Nat} (h : v < 256 ^ n) : fit v n = true := decide_eq_true h
theorem fit_not {v n : Nat} (h : fit v n = false) : ¬ v < 256 ^ n := of_decide_eq_false h
theorem pow8_eight : (256 : Nat) ^ 8 = 18446744073709551616 := by decide

/-- The row l behind i bytes of a number laid from index a on. -/
def laid (l : List UInt8) (a n v i : Nat) : List UInt8 := l.take a ++ ((lay n v).take i ++ l.drop (a + i))
theorem laid_zero (l : List UInt8) (a n v : Nat) : laid l a n v 0 = l := by simp [laid]
theorem laid_len (l : List UInt8) (a n v i : Nat) (hi : i ≤ n) (h : a + n ≤ l.length) : (laid l a n v i).length = l.length := by
  simp [laid, lay_len]
  omega
theorem laid_all (l : List UInt8) (a n v : Nat) : laid l a n v n = splice l a (lay n v) := by
  rw [laid, splice, lay_take n v n (Nat.le_refl _), lay_len]
theorem laid_set (l : List UInt8) (a n v i : Nat) (hi : i < n) (h : a + n ≤ l.length) : (laid l a n v i).set (a + i) (UInt8.ofNat (v / 256 ^ i)) = laid l a n v (i + 1) := by
  have e1 : (l.take a).length = a := by simp; omega
  have e2 : ((lay n v).take i).length = i := by simp [lay_len]; omega
  rw [laid, laid, List.set_append_right _ _ (by omega), e1, Nat.add_sub_cancel_left, List.set_append_right _ _ (by omega), e2, Nat.sub_self, lay_take n v i (by omega), lay_take n v (i + 1) (by omega), lay_snoc, List.append_assoc]
  congr 2
  rw [List.drop_eq_getElem_cons (by omega), List.set_cons_zero]
  rfl
theorem splice_len (l : List UInt8) (a n v : Nat) (h : a + n ≤ l.length) : (splice l a (lay n v)).length = l.length := by
  rw [← laid_all]
  exact laid_len l a n v n (Nat.le_refl _) h
theorem splice_mid (l : List UInt8) (a n v : Nat) (h : a + n ≤ l.length) : ((splice l a (lay n v)).drop a).take n = lay n v := by
  have e1 : (l.take a).length = a := by simp; omega
  rw [splice, List.drop_append_of_le_length (by omega), List.drop_of_length_le (by omega), List.nil_append, List.take_append_of_le_length (by rw [lay_len]; omega), List.take_of_length_le (by rw [lay_len]; omega)]
theorem splice_other (l : List UInt8) (a n v i : Nat) (h : a + n ≤ l.length) (hi : i < a ∨ a + n ≤ i) : (splice l a (lay n v)).getD i 0 = l.getD i 0 := by
  have e1 : (l.take a).length = a := by simp; omega
  have e2 := lay_len n v
  rcases hi with hi | hi
  · simp only [splice, List.getD, List.getElem?_append_left (show i < (l.take a).length by omega), List.getElem?_take_of_lt hi]
  · rw [splice, e2]
    simp only [List.getD]
    rw [List.getElem?_append_right (by omega), e1, List.getElem?_append_right (by omega), e2, List.getElem?_drop]
    congr 2
    omega

theorem or_add (a b k : Nat) (h : a < 2 ^ k) : a ||| b * 2 ^ k = a + b * 2 ^ k := by
  rw [Nat.or_comm, Nat.mul_comm b, ← Nat.two_pow_add_eq_or_of_lt h, Nat.add_comm]

/-- Are all bytes noughts? -/
def zer (l : List UInt8) : Bool := l.all fun x => x == 0
theorem zer_take {l : List UInt8} {k : Nat} (hk : k < l.length) (h0 : zer (l.take k) = true) : zer (l.take (k + 1)) = (l.getD k 0 == 0) := by
  have hs : l.take (k + 1) = l.take k ++ [l.getD k 0] := by
    rw [List.take_succ_eq_append_getElem hk]
    simp [List.getD, List.getElem?_eq_getElem hk]
  unfold zer at h0 ⊢
  rw [hs, List.all_append, h0]
  simp
theorem zer_not {l : List UInt8} {k : Nat} (hk : k < l.length) (h : (l.getD k 0 == 0) = false) : zer l = false := by
  unfold zer
  rw [List.all_eq_false]
  refine ⟨l.getD k 0, ?_, by simpa using h⟩
  simp [List.getD, List.getElem?_eq_getElem hk]
end Go.Proofs.Ytkcjamjjaallhaa
