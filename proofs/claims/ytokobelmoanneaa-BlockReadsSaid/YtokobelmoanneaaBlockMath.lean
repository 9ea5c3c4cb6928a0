/-
    Proved here: plain facts on blocks of chapter 6: which may be, their lines, that these read back, that one byte turned leaves none.
  Conditions: none.
-/
import Derived.Test.YtokobelmoanneaaClassA
import Derived.Test.YtokobelmoanneaaCodeMath
import Derived.Test.YtokobelmoanneaaSumMath
namespace Go.Proofs.Ytokobelmoanneaa
open Go Go.RowKit

/-- A block, as it is handed in. -/
structure BV where
  cl : Int
  kd : Int
  id : Nat
  ver : Nat
  ep : Nat
  key : ByteArray
  val : ByteArray
def BV.K (b : BV) : List UInt8 := b.key.data.toList
def BV.V (b : BV) : List UInt8 := b.val.data.toList
/-- Its numbers are such as a machine has. -/
structure BV.ok (b : BV) : Prop where
  id : b.id < 18446744073709551616
  ver : b.ver < 18446744073709551616
  ep : b.ep < 18446744073709551616
/-- May the number v stand in a head that is no draft's? -/
def numB (v : Nat) : Bool := decide (1 ≤ v) && decide (v ≤ 2305843009213693952)
/-- Has a block the numbers of one that is no draft, a value that is short enough, and the class that its data need? -/
def fillsB (b : BV) : Bool := numB b.id && numB b.ver && numB b.ep && decide (b.val.size ≤ 400) && decide (b.cl = needN ((b.key.size + b.val.size : Nat) : Int))
def isDraftB (b : BV) : Bool := decide (b.id = 0) && decide (b.ver = 0) && decide (b.ep = 0) && decide (b.key.size = 0) && decide (b.val.size = 0)
/-- Which blocks may be (P6.1). -/
def mayB (b : BV) : Bool :=
  if 0 ≤ b.cl ∧ b.cl ≤ 3 then
    if b.kd = 0 then isDraftB b
    else if b.kd = 1 then decide (b.key.size ≠ 0) && decide (b.key.size ≤ 16) && fillsB b
    else if b.kd = 2 then decide (b.key.size = 0) && fillsB b
    else if b.kd = 3 then decide (b.val.size = 0) && decide (b.key.size = 0) && fillsB b
    else false
  else false

theorem needN_cap {n : Int} (h : 0 ≤ needN n) : n ≤ capN (needN n) ∧ 0 ≤ n ∧ needN n ≤ 3 := by
  unfold needN at h ⊢
  (repeat' split at h) <;> (repeat' split) <;> simp_all [capN]
theorem mayB_cl {b : BV} (h : mayB b = true) : 0 ≤ b.cl ∧ b.cl ≤ 3 := by
  unfold mayB at h
  split at h
  · assumption
  · cases h
theorem fillsB_nums {b : BV} (h : fillsB b = true) : b.val.size ≤ 400 ∧ b.cl = needN ((b.key.size + b.val.size : Nat) : Int) := by
  simp only [fillsB, Bool.and_eq_true, decide_eq_true_eq] at h
  exact ⟨h.1.2, h.2⟩
theorem mayB_kd {b : BV} (h : mayB b = true) : 0 ≤ b.kd ∧ b.kd ≤ 3 := by
  unfold mayB at h
  (repeat' split at h) <;> first | omega | cases h
theorem mayB_sizes {b : BV} (h : mayB b = true) : b.key.size ≤ 16 ∧ b.val.size ≤ 400 ∧ ((b.key.size + b.val.size : Nat) : Int) ≤ capN b.cl := by
  have hc := mayB_cl h
  have hcap : 0 ≤ capN b.cl := by unfold capN; (repeat' split) <;> omega
  unfold mayB at h
  rw [if_pos hc] at h
  split at h
  · simp only [isDraftB, Bool.and_eq_true, decide_eq_true_eq] at h
    omega
  · have hf : fillsB b = true ∧ b.key.size ≤ 16 := by
      split at h
      · simp only [Bool.and_eq_true, decide_eq_true_eq] at h
        exact ⟨h.2, h.1.2⟩
      · split at h
        · simp only [Bool.and_eq_true, decide_eq_true_eq] at h
          exact ⟨h.2, by omega⟩
        · split at h
          · simp only [Bool.and_eq_true, decide_eq_true_eq] at h
            exact ⟨h.2, by omega⟩
          · cases h
    obtain ⟨h1, h2⟩ := fillsB_nums hf.1
    have := needN_cap (n := ((b.key.size + b.val.size : Nat) : Int)) (by omega)
    rw [← h2] at this
    exact ⟨hf.2, h1, this.1⟩

/-- How many lines a block of class c has behind its first one. -/
def restN (c : Int) : Nat := spanN c - 1
theorem spanN_rest {c : Int} (h : 0 ≤ c ∧ c ≤ 3) : spanN c = restN c + 1 := by
  have := spanN_some (c := c) (by omega)
  unfold restN
  omega
theorem restN_le (c : Int) : restN c ≤ 7 := by have := spanN_cases c; unfold restN; omega
theorem capN_rest {c : Int} (h : 0 ≤ c ∧ c ≤ 3) : capN c = ((28 + 63 * restN c : Nat) : Int) := by
  rw [capN_span, if_neg (by have := spanN_rest h; omega), spanN_rest h]
  omega
theorem restN_inj {c d : Int} (hc : 0 ≤ c ∧ c ≤ 3) (hd : 0 ≤ d ∧ d ≤ 3) (h : restN c = restN d) : c = d := by
  unfold restN spanN at h
  (repeat' split at h) <;> omega

/-- Lines of 63 bytes each, a tag ahead of each. -/
def tags : Nat → List UInt8 → List UInt8
  | 0, _ => []
  | n + 1, r => 2 :: (r.take 63 ++ tags n (r.drop 63))
/-- The bytes of so many lines without their first ones. -/
def untags : Nat → List UInt8 → List UInt8
  | 0, _ => []
  | n + 1, l => (l.drop 1).take 63 ++ untags n (l.drop 64)
theorem tags_len (n : Nat) (r : List UInt8) (h : r.length = 63 * n) : (tags n r).length = 64 * n := by
  induction n generalizing r with
  | zero => rfl
  | succ n ih =>
    have := ih (r.drop 63) (by rw [List.length_drop]; omega)
    simp only [tags, List.length_cons, List.length_append, List.length_take, this]
    omega
theorem untags_len (n : Nat) (l : List UInt8) (h : l.length = 64 * n) : (untags n l).length = 63 * n := by
  induction n generalizing l with
  | zero => rfl
  | succ n ih =>
    have := ih (l.drop 64) (by rw [List.length_drop]; omega)
    simp only [untags, List.length_append, List.length_take, List.length_drop, this]
    omega
theorem untags_tags (n : Nat) (r : List UInt8) (h : r.length = 63 * n) : untags n (tags n r) = r := by
  induction n generalizing r with
  | zero => exact (List.eq_nil_of_length_eq_zero (by omega)).symm
  | succ n ih =>
    have h1 : (r.take 63).length = 63 := by simp; omega
    have := ih (r.drop 63) (by rw [List.length_drop]; omega)
    simp only [tags, untags, List.drop_succ_cons, List.drop_zero]
    rw [List.take_append_of_le_length (by omega), List.take_of_length_le (by omega), List.drop_append, List.drop_of_length_le (by omega), List.nil_append, h1]
    simp only [Nat.sub_self, List.drop_zero, this, List.take_append_drop]
theorem tags_snoc (n : Nat) (r : List UInt8) (h : 63 * n ≤ r.length) : tags (n + 1) r = tags n r ++ 2 :: ((r.drop (63 * n)).take 63) := by
  induction n generalizing r with
  | zero => simp [tags]
  | succ n ih =>
    have := ih (r.drop 63) (by rw [List.length_drop]; omega)
    rw [tags, this]
    simp only [tags, List.drop_drop, List.cons_append, List.append_assoc]
    rw [show 63 + 63 * n = 63 * (n + 1) by omega]
theorem untags_snoc (n : Nat) (l : List UInt8) : untags (n + 1) l = untags n l ++ (l.drop (64 * n + 1)).take 63 := by
  induction n generalizing l with
  | zero => simp [untags]
  | succ n ih =>
    rw [untags, ih (l.drop 64)]
    simp only [untags, List.drop_drop, List.append_assoc]
    rw [show 64 + (64 * n + 1) = 64 * (n + 1) + 1 by omega]

/-- The lines that the bytes P of head and data make: the checksum behind 32 bytes, tags ahead of the lines behind the first one. -/
def frame (n : Nat) (P : List UInt8) : List UInt8 := P.take 32 ++ (lay 4 (addS 0 P) ++ ((P.drop 32).take 28 ++ tags n (P.drop 60)))
def unframe (n : Nat) (l : List UInt8) : List UInt8 := l.take 32 ++ ((l.drop 36).take 28 ++ untags n (l.drop 64))
theorem frame_len {n : Nat} {P : List UInt8} (h : P.length = 60 + 63 * n) : (frame n P).length = 64 * (n + 1) := by
  have := tags_len n (P.drop 60) (by rw [List.length_drop]; omega)
  simp only [frame, List.length_append, List.length_take, List.length_drop, lay_len, this]
  omega
theorem frame_take {n : Nat} {P : List UInt8} (h : P.length = 60 + 63 * n) : (frame n P).take 32 = P.take 32 := by
  have h1 : (P.take 32).length = 32 := by simp; omega
  rw [frame, List.take_append_of_le_length (by omega), List.take_of_length_le (by omega)]
theorem frame_drop32 {n : Nat} {P : List UInt8} (h : P.length = 60 + 63 * n) : (frame n P).drop 32 = lay 4 (addS 0 P) ++ ((P.drop 32).take 28 ++ tags n (P.drop 60)) := by
  have h1 : (P.take 32).length = 32 := by simp; omega
  rw [frame, List.drop_append, List.drop_of_length_le (by omega), h1]
  simp
theorem frame_drop36 {n : Nat} {P : List UInt8} (h : P.length = 60 + 63 * n) : (frame n P).drop 36 = (P.drop 32).take 28 ++ tags n (P.drop 60) := by
  rw [show (36 : Nat) = 32 + 4 from rfl, ← List.drop_drop, frame_drop32 h, List.drop_append, List.drop_of_length_le (by rw [lay_len]; omega), lay_len]
  simp
theorem frame_drop64 {n : Nat} {P : List UInt8} (h : P.length = 60 + 63 * n) : (frame n P).drop 64 = tags n (P.drop 60) := by
  have h1 : ((P.drop 32).take 28).length = 28 := by simp; omega
  rw [show (64 : Nat) = 36 + 28 from rfl, ← List.drop_drop, frame_drop36 h, List.drop_append, List.drop_of_length_le (by omega), h1]
  simp
theorem unframe_frame {n : Nat} {P : List UInt8} (h : P.length = 60 + 63 * n) : unframe n (frame n P) = P := by
  have h1 : ((P.drop 32).take 28).length = 28 := by simp; omega
  rw [unframe, frame_take h, frame_drop36 h, frame_drop64 h, List.take_append_of_le_length (by omega), List.take_of_length_le (Nat.le_of_eq h1), untags_tags n _ (by rw [List.length_drop]; omega), show P.drop 60 = (P.drop 32).drop 28 by rw [List.drop_drop], List.take_append_drop, List.take_append_drop]
theorem frame_sum {n : Nat} {P : List UInt8} (h : P.length = 60 + 63 * n) : ((frame n P).drop 32).take 4 = lay 4 (addS 0 P) := by
  rw [frame_drop32 h, List.take_append_of_le_length (by rw [lay_len]; omega), List.take_of_length_le (by rw [lay_len]; omega)]

/-- A byte turned among lines turns one of what they hold, or none. -/
theorem untags_set (n : Nat) (l : List UInt8) (k : Nat) (y : UInt8) : untags n (l.set k y) = untags n l ∨ ∃ j, untags n (l.set k y) = (untags n l).set j y := by
  induction n generalizing l k with
  | zero => exact .inl rfl
  | succ n ih =>
    rcases Nat.lt_or_ge k 64 with h | h
    · rcases Nat.eq_zero_or_pos k with rfl | h0
      · refine .inl ?_
        simp only [untags]
        rw [List.drop_set_of_lt (by omega), List.drop_set_of_lt (by omega)]
      · rcases Nat.lt_or_ge (k - 1) ((l.drop 1).take 63).length with hl | hl
        · refine .inr ⟨k - 1, ?_⟩
          simp only [untags]
          rw [List.drop_set_of_lt h, List.set_append_left _ _ hl]
          congr 1
          rw [List.drop_set, if_neg (by omega), List.take_set]
        · refine .inl ?_
          simp only [untags]
          rw [List.drop_set_of_lt h, List.drop_set, if_neg (by omega), List.take_set, List.set_eq_of_length_le hl]
    · have e1 : (l.set k y).drop 64 = (l.drop 64).set (k - 64) y := by rw [List.drop_set, if_neg (by omega)]
      have e2 : ((l.set k y).drop 1).take 63 = (l.drop 1).take 63 := by rw [List.drop_set, if_neg (by omega), List.take_set_of_le (by omega)]
      rcases ih (l.drop 64) (k - 64) with h1 | ⟨j, h1⟩
      · refine .inl ?_
        simp only [untags, e1, e2, h1]
      · refine .inr ⟨((l.drop 1).take 63).length + j, ?_⟩
        simp only [untags, e1, e2, h1]
        rw [List.set_append_right _ _ (by omega), Nat.add_sub_cancel_left]
theorem unframe_set (n : Nat) (l : List UInt8) (hl : 64 ≤ l.length) (k : Nat) (y : UInt8) : (unframe n (l.set k y) = unframe n l) ∨ ((k < 32 ∨ 36 ≤ k) ∧ ∃ j, unframe n (l.set k y) = (unframe n l).set j y) := by
  have h32 : (l.take 32).length = 32 := by simp; omega
  have h28 : ((l.drop 36).take 28).length = 28 := by simp; omega
  rcases Nat.lt_or_ge k 32 with h | h
  · refine .inr ⟨.inl h, k, ?_⟩
    rw [unframe, unframe, List.set_append_left _ _ (by omega), List.drop_set_of_lt (by omega), List.drop_set_of_lt (by omega), List.take_set]
  · have e0 : (l.set k y).take 32 = l.take 32 := List.take_set_of_le (by omega)
    rcases Nat.lt_or_ge k 36 with h2 | h2
    · refine .inl ?_
      rw [unframe, unframe, e0, List.drop_set_of_lt (by omega), List.drop_set_of_lt (by omega)]
    · have e1 : (l.set k y).drop 36 = (l.drop 36).set (k - 36) y := by rw [List.drop_set, if_neg (by omega)]
      rcases Nat.lt_or_ge k 64 with h3 | h3
      · refine .inr ⟨.inr h2, 32 + (k - 36), ?_⟩
        rw [unframe, unframe, e0, e1, List.drop_set_of_lt (by omega), List.set_append_right _ _ (by omega), h32, Nat.add_sub_cancel_left, List.set_append_left _ _ (by omega), List.take_set]
      · have e2 : ((l.set k y).drop 36).take 28 = (l.drop 36).take 28 := by rw [e1, List.take_set_of_le (by omega)]
        have e3 : (l.set k y).drop 64 = (l.drop 64).set (k - 64) y := by rw [List.drop_set, if_neg (by omega)]
        rcases untags_set n (l.drop 64) (k - 64) y with h4 | ⟨j, h4⟩
        · refine .inl ?_
          rw [unframe, unframe, e0, e2, e3, h4]
        · refine .inr ⟨.inr h2, 32 + (28 + j), ?_⟩
          rw [unframe, unframe, e0, e2, e3, h4, List.set_append_right _ _ (by omega), h32, Nat.add_sub_cancel_left, List.set_append_right _ _ (by omega), h28, Nat.add_sub_cancel_left]
theorem addS_turn (P : List UInt8) (j : Nat) (y : UInt8) (h : P.set j y ≠ P) : addS 0 (P.set j y) ≠ addS 0 P := by
  have hj : j < P.length := by
    rcases Nat.lt_or_ge j P.length with h1 | h1
    · exact h1
    · exact absurd (List.set_eq_of_length_le h1) h
  have ea : P = P.take j ++ P[j] :: P.drop (j + 1) := by rw [← List.drop_eq_getElem_cons hj, List.take_append_drop]
  have eb : P.set j y = P.take j ++ y :: P.drop (j + 1) := by rw [List.set_eq_take_append_cons_drop, if_pos hj]
  intro e
  rw [eb] at e h
  refine addS_set (c := 0) (by omega) (P.take j) (P.drop (j + 1)) y P[j] (fun e2 => h ?_) (e.trans (congrArg (addS 0) ea))
  rw [e2]
  exact ea.symm
/-- One byte of framed bytes turned: they are none. -/
theorem frame_turned {n : Nat} {P Q : List UInt8} (hP : P.length = 60 + 63 * n) (hQ : Q.length = 60 + 63 * n) (k : Nat) (y : UInt8) (hk : (frame n P).set k y ≠ frame n P) : (frame n P).set k y ≠ frame n Q := by
  intro h
  have hl := frame_len hP
  have hu : unframe n ((frame n P).set k y) = Q := by rw [h, unframe_frame hQ]
  rcases unframe_set n (frame n P) (by omega) k y with h1 | ⟨h2, j, h1⟩
  · rw [h1, unframe_frame hP] at hu
    subst hu
    exact hk h
  · rw [h1, unframe_frame hP] at hu
    have hne : P.set j y ≠ P := by
      intro e
      rw [e] at hu
      subst hu
      exact hk h
    have hs : ((frame n P).set k y |>.drop 32).take 4 = ((frame n P).drop 32).take 4 := by
      rcases h2 with h2 | h2
      · rw [List.drop_set_of_lt h2]
      · rw [List.drop_set, if_neg (by omega), List.take_set_of_le (by omega)]
    rw [h, frame_sum hQ, frame_sum hP] at hs
    have e1 : addS 0 Q = addS 0 P := by
      have h1 := le_lay_of (n := 4) (v := addS 0 Q) (by have := addS_lt (c := 0) (l := Q) (by omega); simpa using this)
      have h2 := le_lay_of (n := 4) (v := addS 0 P) (by have := addS_lt (c := 0) (l := P) (by omega); simpa using this)
      rw [← h1, hs, h2]
    rw [← hu] at e1
    exact addS_turn P j y hne e1

/-- The 32 bytes of a head. -/
def headL (b : BV) : List UInt8 := [1, UInt8.ofNat b.cl.toNat, UInt8.ofNat b.kd.toNat, UInt8.ofNat b.K.length] ++ (lay 2 b.V.length ++ ([0, 0] ++ (lay 8 b.id ++ (lay 8 b.ver ++ lay 8 b.ep))))
theorem headL_len (b : BV) : (headL b).length = 32 := by simp [headL, lay_len]
def dataL (b : BV) : List UInt8 := b.K ++ b.V
/-- The data and the noughts behind them. -/
def roomL (b : BV) : List UInt8 := dataL b ++ List.replicate (28 + 63 * restN b.cl - (dataL b).length) 0
theorem K_len (b : BV) : b.K.length = b.key.size := rfl
theorem V_len (b : BV) : b.V.length = b.val.size := rfl
theorem dataL_len (b : BV) : (dataL b).length = b.key.size + b.val.size := by rw [dataL, List.length_append, K_len, V_len]
theorem data_le {b : BV} (h : mayB b = true) : (dataL b).length ≤ 28 + 63 * restN b.cl := by
  have h1 := (mayB_sizes h).2.2
  rw [capN_rest (mayB_cl h)] at h1
  rw [dataL_len]
  omega
theorem roomL_len {b : BV} (h : mayB b = true) : (roomL b).length = 28 + 63 * restN b.cl := by
  have := data_le h
  rw [roomL, List.length_append, List.length_replicate]
  omega
def payL (b : BV) : List UInt8 := headL b ++ roomL b
theorem payL_len {b : BV} (h : mayB b = true) : (payL b).length = 60 + 63 * restN b.cl := by
  rw [payL, List.length_append, headL_len, roomL_len h]
  omega
/-- The lines of a block (P6.1). -/
def linesL (b : BV) : List UInt8 := frame (restN b.cl) (payL b)
theorem linesL_len {b : BV} (h : mayB b = true) : (linesL b).length = 64 * spanN b.cl := by
  rw [linesL, frame_len (payL_len h), spanN_rest (mayB_cl h)]
theorem linesL_eq (b : BV) : linesL b = headL b ++ (lay 4 (addS 0 (headL b ++ roomL b)) ++ ((roomL b).take 28 ++ tags (restN b.cl) ((roomL b).drop 28))) := by
  have hh := headL_len b
  have e1 : (headL b ++ roomL b).take 32 = headL b := by rw [← hh, List.take_left]
  have e2 : (headL b ++ roomL b).drop 32 = roomL b := by rw [← hh, List.drop_left]
  have e3 : (headL b ++ roomL b).drop 60 = (roomL b).drop 28 := by rw [show (60 : Nat) = 32 + 28 from rfl, ← List.drop_drop, e2]
  rw [linesL, frame, payL, e1, e2, e3]

/-- What lines hold of data. -/
def dataOfL (n : Nat) (l : List UInt8) : List UInt8 := (l.drop 36).take 28 ++ untags n (l.drop 64)
theorem dataOfL_len {n : Nat} {l : List UInt8} (h : l.length = 64 * (n + 1)) : (dataOfL n l).length = 28 + 63 * n := by
  have := untags_len n (l.drop 64) (by rw [List.length_drop]; omega)
  simp only [dataOfL, List.length_append, List.length_take, List.length_drop, this]
  omega
def clOf (l : List UInt8) : Nat := (l.getD 1 0).toNat
def kdOf (l : List UInt8) : Nat := (l.getD 2 0).toNat
def klOf (l : List UInt8) : Nat := (l.getD 3 0).toNat
def vlOf (l : List UInt8) : Nat := le ((l.drop 4).take 2)
/-- The block that lines speak of. -/
def readL (l : List UInt8) : BV :=
  ⟨clOf l, kdOf l, le ((l.drop 8).take 8), le ((l.drop 16).take 8), le ((l.drop 24).take 8),
   ⟨((dataOfL (restN (clOf l)) l).take (klOf l)).toArray⟩, ⟨(((dataOfL (restN (clOf l)) l).drop (klOf l)).take (vlOf l)).toArray⟩⟩
theorem le_lt8 (l : List UInt8) : le (l.take 8) < 18446744073709551616 := by
  have h := le_lt (l.take 8)
  have hp : 256 ^ (l.take 8).length ≤ 256 ^ 8 := Nat.pow_le_pow_right (by omega) (by simp; omega)
  rw [pow8_eight] at hp
  omega
theorem readL_ok (l : List UInt8) : (readL l).ok := ⟨le_lt8 _, le_lt8 _, le_lt8 _⟩

theorem head_cut (b : BV) (a k : Nat) (hk : a + k ≤ 32) : ((linesL b).drop a).take k = ((headL b).drop a).take k := by
  rw [linesL_eq b, List.drop_append_of_le_length (by rw [headL_len]; omega), List.take_append_of_le_length (by rw [List.length_drop, headL_len]; omega)]
theorem head_at (b : BV) (k : Nat) (hk : k < 32) : (linesL b).getD k 0 = (headL b).getD k 0 := by
  rw [linesL_eq b, List.getD, List.getD, List.getElem?_append_left (by rw [headL_len]; exact hk)]
theorem lines_tag (b : BV) : (linesL b).getD 0 0 = 1 := by rw [head_at b 0 (by omega)]; rfl
theorem byte_toNat {n : Nat} (h : n < 256) : (UInt8.ofNat n).toNat = n := by rw [UInt8.toNat_ofNat']; omega
theorem lines_cl {b : BV} (h : mayB b = true) : ((clOf (linesL b) : Nat) : Int) = b.cl := by
  have := mayB_cl h
  rw [clOf, head_at b 1 (by omega), show (headL b).getD 1 0 = UInt8.ofNat b.cl.toNat from rfl, byte_toNat (by omega)]
  omega
theorem lines_kd {b : BV} (h : mayB b = true) : ((kdOf (linesL b) : Nat) : Int) = b.kd := by
  have := mayB_kd h
  rw [kdOf, head_at b 2 (by omega), show (headL b).getD 2 0 = UInt8.ofNat b.kd.toNat from rfl, byte_toNat (by omega)]
  omega
theorem lines_kl {b : BV} (h : mayB b = true) : klOf (linesL b) = b.key.size := by
  have := mayB_sizes h
  rw [klOf, head_at b 3 (by omega), show (headL b).getD 3 0 = UInt8.ofNat b.K.length from rfl, K_len, byte_toNat (by omega)]
theorem lines_vl {b : BV} (h : mayB b = true) : vlOf (linesL b) = b.val.size := by
  have := mayB_sizes h
  rw [vlOf, head_cut b 4 2 (by omega), show ((headL b).drop 4).take 2 = lay 2 b.V.length by simp [headL, lay, List.drop, List.take], V_len]
  exact le_lay_of (by simp; omega)
theorem lines_id {b : BV} (ho : b.ok) : le (((linesL b).drop 8).take 8) = b.id := by
  rw [head_cut b 8 8 (by omega), show ((headL b).drop 8).take 8 = lay 8 b.id by simp [headL, lay, List.drop, List.take]]
  exact le_lay_of (by rw [pow8_eight]; exact ho.id)
theorem lines_ver {b : BV} (ho : b.ok) : le (((linesL b).drop 16).take 8) = b.ver := by
  rw [head_cut b 16 8 (by omega), show ((headL b).drop 16).take 8 = lay 8 b.ver by simp [headL, lay, List.drop, List.take]]
  exact le_lay_of (by rw [pow8_eight]; exact ho.ver)
theorem lines_ep {b : BV} (ho : b.ok) : le (((linesL b).drop 24).take 8) = b.ep := by
  rw [head_cut b 24 8 (by omega), show ((headL b).drop 24).take 8 = lay 8 b.ep by simp [headL, lay, List.drop, List.take]]
  exact le_lay_of (by rw [pow8_eight]; exact ho.ep)
theorem lines_data {b : BV} (h : mayB b = true) : dataOfL (restN b.cl) (linesL b) = roomL b := by
  have h1 := payL_len h
  have hu : unframe (restN b.cl) (linesL b) = payL b := unframe_frame h1
  have h32 : ((linesL b).take 32).length = 32 := by rw [List.length_take, linesL_len h, spanN_rest (mayB_cl h)]; omega
  have e : (unframe (restN b.cl) (linesL b)).drop 32 = dataOfL (restN b.cl) (linesL b) := by
    rw [unframe, List.drop_append, List.drop_of_length_le (by omega), h32]
    simp [dataOfL]
  rw [← e, hu, payL, List.drop_append, List.drop_of_length_le (by rw [headL_len]; omega), headL_len]
  simp
/-- What was laid is read again. -/
theorem read_lines {b : BV} (h : mayB b = true) (ho : b.ok) : readL (linesL b) = b := by
  have hc := lines_cl h
  unfold readL
  rw [hc, lines_data h, lines_kd h, lines_kl h, lines_vl h, lines_id ho, lines_ver ho, lines_ep ho]
  have e1 : (roomL b).take b.key.size = b.K := by
    rw [roomL, dataL, List.append_assoc, List.take_append_of_le_length (by rw [K_len]; omega), List.take_of_length_le (by rw [K_len]; omega)]
  have e2 : ((roomL b).drop b.key.size).take b.val.size = b.V := by
    rw [roomL, dataL, List.append_assoc, List.drop_append, List.drop_of_length_le (by rw [K_len]; omega), K_len, Nat.sub_self, List.drop_zero, List.nil_append, List.take_append_of_le_length (by rw [V_len]; omega), List.take_of_length_le (by rw [V_len]; omega)]
  rw [e1, e2]
  rcases b with ⟨_, _, _, _, _, ⟨⟨k⟩⟩, ⟨⟨v⟩⟩⟩
  rfl
theorem linesL_inj {a b : BV} (ha : mayB a = true) (hb : mayB b = true) (oa : a.ok) (ob : b.ok) (h : linesL a = linesL b) : a = b := by
  rw [← read_lines ha oa, h, read_lines hb ob]
/-- Are bytes the lines of a block? -/
def isLines (l : List UInt8) : Prop := ∃ b : BV, b.ok ∧ mayB b = true ∧ linesL b = l
theorem isLines_read {l : List UInt8} (h : isLines l) : mayB (readL l) = true ∧ linesL (readL l) = l := by
  obtain ⟨b, ho, hm, rfl⟩ := h
  rw [read_lines hm ho]
  exact ⟨hm, rfl⟩
theorem linesL_turned {b : BV} (h : mayB b = true) (k : Nat) (y : UInt8) (hk : (linesL b).set k y ≠ linesL b) : ¬ isLines ((linesL b).set k y) := by
  rintro ⟨d, ho, hm, e⟩
  have hl := congrArg List.length e
  rw [List.length_set, linesL_len h, linesL_len hm] at hl
  have hc := restN_inj (mayB_cl hm) (mayB_cl h) (by unfold restN; omega)
  have h2 := payL_len hm
  rw [hc] at h2
  refine frame_turned (payL_len h) h2 k y hk ?_
  rw [show frame (restN b.cl) (payL d) = linesL d by rw [linesL, hc], e]
  rfl
theorem lines_len64 {l : List UInt8} (h : isLines l) : ∃ n, l.length = 64 * n ∧ 1 ≤ n ∧ n ≤ 8 := by
  obtain ⟨b, ho, hm, rfl⟩ := h
  have := spanN_some (c := b.cl) (by have := mayB_cl hm; omega)
  exact ⟨_, linesL_len hm, by omega, by omega⟩
/-- The first byte of a line behind the first one. -/
theorem tags_at (n : Nat) (r : List UInt8) (i : Nat) (h : i < n) (hr : r.length = 63 * n) : (tags n r).getD (64 * i) 0 = 2 := by
  induction n generalizing r i with
  | zero => omega
  | succ n ih =>
    cases i with
    | zero => rfl
    | succ i =>
      have h1 : (r.take 63).length = 63 := by simp; omega
      have := ih (r.drop 63) i (by omega) (by rw [List.length_drop]; omega)
      rw [tags, show 64 * (i + 1) = (63 + 64 * i) + 1 by omega, List.getD_cons_succ, List.getD, List.getElem?_append_right (by omega), h1, Nat.add_sub_cancel_left]
      exact this
theorem lines_tagAt {b : BV} (h : mayB b = true) (i : Nat) (h0 : 0 < i) (hi : i < spanN b.cl) : (linesL b).getD (64 * i) 0 = 2 := by
  have hs := spanN_rest (mayB_cl h)
  have h1 := payL_len h
  have := tags_at (restN b.cl) ((payL b).drop 60) (i - 1) (by omega) (by rw [List.length_drop]; omega)
  rw [← frame_drop64 h1, List.getD, List.getElem?_drop] at this
  rw [show 64 * i = 64 + 64 * (i - 1) by omega]
  exact this

end Go.Proofs.Ytokobelmoanneaa
