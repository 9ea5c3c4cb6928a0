/-
  Proved here, joined: ClassA, BlockMath
  Conditions: as each part says.
-/
import Derived.Test.YtlghphccmgmomaaGreatJN6
import Derived.Deep.QuietTactic
import Derived.BigQuiet
import Derived.Test.YtlghphccmgmomaaGreatJN4
import Derived.Test.YtlghphccmgmomaaGreatJN5

/-
  Proved here: how large classes are, which one is needed, where blocks begin; what Span, Cap, Need, Home of package class answer, and chapter 5's own Span, Cap, Need.
  Conditions: none.
-/
namespace Go.Proofs.YtlghphccmgmomaaGreat
open Go Go.RowKit
set_option maxRecDepth 100000

def spanN (c : Int) : Nat := if c = 0 then 1 else if c = 1 then 2 else if c = 2 then 4 else if c = 3 then 8 else 0
def capN (c : Int) : Int := if c = 0 then 28 else if c = 1 then 91 else if c = 2 then 217 else if c = 3 then 469 else 0
def needN (n : Int) : Int := if n < 0 then -1 else if n ≤ 28 then 0 else if n ≤ 91 then 1 else if n ≤ 217 then 2 else if n ≤ 469 then 3 else -1
/-- Where blocks of class c begin in slab k. -/
def startsN (k c : Int) : List Int := if 0 ≤ k ∧ k ≤ 31 then (List.range (8 / spanN c)).map fun i : Nat => 2 + 8 * k + (i * spanN c : Nat) else []
def homeN (x c : Int) : Bool := decide (x ∈ startsN (slabOfN x) c)
theorem spanN_none {c : Int} (h : c < 0 ∨ 3 < c) : spanN c = 0 := by unfold spanN; (repeat' rw [if_neg (by omega)])
theorem spanN_some {c : Int} (h : ¬ (c < 0 ∨ 3 < c)) : spanN c = 1 ∨ spanN c = 2 ∨ spanN c = 4 ∨ spanN c = 8 := by unfold spanN; (repeat' split) <;> omega
theorem spanN_cases (c : Int) : spanN c = 0 ∨ spanN c = 1 ∨ spanN c = 2 ∨ spanN c = 4 ∨ spanN c = 8 := by unfold spanN; (repeat' split) <;> omega
theorem capN_span (c : Int) : capN c = if spanN c = 0 then 0 else 28 + ((spanN c : Int) - 1) * 63 := by
  unfold capN spanN; (repeat' split) <;> simp_all
theorem needN_at (n : Int) (i : Nat) (h0 : 0 ≤ n) (hi : i < 4) (h : n ≤ capN i) (hj : ∀ j : Nat, j < i → capN j < n) : needN n = i := by
  unfold needN
  match i, hi with
  | 0, _ =>
    replace h : n ≤ 28 := h
    rw [if_neg (by omega), if_pos h]; rfl
  | 1, _ =>
    replace h : n ≤ 91 := h
    have h1 : 28 < n := hj 0 (by omega)
    rw [if_neg (by omega), if_neg (by omega), if_pos h]; rfl
  | 2, _ =>
    replace h : n ≤ 217 := h
    have h1 : 91 < n := hj 1 (by omega)
    rw [if_neg (by omega), if_neg (by omega), if_neg (by omega), if_pos h]; rfl
  | 3, _ =>
    replace h : n ≤ 469 := h
    have h1 : 217 < n := hj 2 (by omega)
    rw [if_neg (by omega), if_neg (by omega), if_neg (by omega), if_neg (by omega), if_pos h]; rfl
theorem needN_none (n : Int) (h : n < 0 ∨ 469 < n) : needN n = -1 := by
  unfold needN
  rcases h with h | h
  · rw [if_pos h]
  · rw [if_neg (by omega), if_neg (by omega), if_neg (by omega), if_neg (by omega), if_neg (by omega)]
theorem startsN_len {k : Int} (c : Int) (h : 0 ≤ k ∧ k ≤ 31) : (startsN k c).length = 8 / spanN c := by unfold startsN; rw [if_pos h]; simp
theorem startsN_at {k : Int} (c : Int) (h : 0 ≤ k ∧ k ≤ 31) (i : Nat) (hi : i < 8 / spanN c) : (startsN k c).getD i 0 = 2 + 8 * k + (i * spanN c : Nat) := by
  unfold startsN; rw [if_pos h]; simp [List.getD, List.getElem?_map, List.getElem?_range hi]
theorem startsN_le (k c : Int) : (startsN k c).length ≤ 8 := by
  unfold startsN; split
  · simp; rcases spanN_cases c with h | h | h | h | h <;> rw [h] <;> omega
  · simp
theorem startsN_no {k c : Int} (h : ¬ (0 ≤ k ∧ k ≤ 31)) : startsN k c = [] := by unfold startsN; rw [if_neg h]
theorem startsN_none {k c : Int} (h : spanN c = 0) : startsN k c = [] := by unfold startsN; split <;> simp [h]
/-- A line is a home: told by its distance from the head of its slab. -/
theorem homeN_no {x c : Int} (h : slabOfN x < 0 ∨ spanN c = 0) : homeN x c = false := by
  unfold homeN
  rcases h with h | h
  · rw [startsN_no (by omega)]; simp
  · rw [startsN_none h]; simp
theorem slabOfN_in {x : Int} (h : ¬ slabOfN x < 0) : 2 ≤ x ∧ x < 258 ∧ slabOfN x = (x - 2) / 8 := by
  unfold slabOfN at h ⊢
  split at h
  · rename_i h2
    rw [if_pos h2]; exact ⟨h2.1, h2.2, rfl⟩
  · omega
theorem homeN_yes {x c : Int} (h : ¬ slabOfN x < 0) (hs : ¬ spanN c = 0) : homeN x c = decide ((x - (2 + 8 * slabOfN x)) % (spanN c : Int) = 0) := by
  obtain ⟨h1, h2, h3⟩ := slabOfN_in h
  unfold homeN startsN
  rw [if_pos (by omega), Bool.eq_iff_iff, decide_eq_true_iff, decide_eq_true_iff, List.mem_map]
  generalize slabOfN x = k at *
  have hc := spanN_cases c
  generalize spanN c = s at *
  constructor
  · rintro ⟨i, hi, rfl⟩
    have : 2 + 8 * k + ((i * s : Nat) : Int) - (2 + 8 * k) = (i : Int) * (s : Int) := by push_cast; omega
    rw [this, Int.mul_emod_left]
  · intro hm
    refine ⟨((x - (2 + 8 * k)) / s).toNat, ?_, ?_⟩
    · rw [List.mem_range]
      rcases hc with rfl | rfl | rfl | rfl | rfl
      · omega
      all_goals omega
    · rcases hc with rfl | rfl | rfl | rfl | rfl
      · omega
      all_goals (push_cast at hm ⊢; omega)
set_option maxHeartbeats 400000 in
theorem span_any (c : Int) (w : World) : Calls Tryz.prog 78 #[.int .i64 c] w fun e w' => e = .returned (.int .i64 (spanN c)) ∧ w = w' := by
  have HN : Hid ((c < 0 ∨ 3 < c) → spanN c = 0) := spanN_none
  rcases Classical.em (c < 0 ∨ 3 < c) with h | h
  · have h0 : (c == 0) = false := by simp; omega
    have h1 : (c == 1) = false := by simp; omega
    have h2 : (c == 2) = false := by simp; omega
    have h3 : (c == 3) = false := by simp; omega
    have HS := Lib.hid (HN.out h)
    generalize spanN c = s at *
    clear h HN
    go_enter Tryz.func78, Tryz.ntmps78
    go_wp2
    go_ret
    exact ⟨int_eq (by rw [HS.out]; rfl), rfl⟩
  · have h4 : c = 0 ∨ c = 1 ∨ c = 2 ∨ c = 3 := by omega
    clear h HN
    rcases h4 with rfl | rfl | rfl | rfl
    all_goals
      go_enter Tryz.func78, Tryz.ntmps78
      go_wp2
      go_ret
      exact ⟨rfl, rfl⟩
set_option maxHeartbeats 400000 in
theorem cap_any (c : Int) (w : World) : Calls Tryz.prog 187 #[.int .i64 c] w fun e w' => e = .returned (.int .i64 (capN c)) ∧ w = w' := by
  have HC := Lib.hid (capN_span c)
  have HS := Lib.hid (span_any c w)
  have hs := spanN_cases c
  generalize capN c = r at *
  generalize spanN c = s at *
  have hs8 : s ≤ 8 := by omega
  rcases Classical.em (s = 0) with h | h
  · have h0 : ((s : Int) == 0) = true := by simp; omega
    have HR : Hid (r = 0) := by have := HC.out; rw [if_pos h] at this; exact this
    clear h HC hs
    go_enter Tryz.func187, Tryz.ntmps187
    go_wp2_with fail
    refine HS.out.mono ?_
    rintro e w' ⟨rfl, rfl⟩
    go_wp2
    go_ret
    exact ⟨int_eq HR.out.symm, rfl⟩
  · have h0 : ((s : Int) == 0) = false := by simp; omega
    have HR : Hid (r = 28 + ((s : Int) - 1) * 63) := by have := HC.out; rw [if_neg h] at this; exact this
    have h1 : 1 ≤ s := by omega
    clear h HC hs
    go_enter Tryz.func187, Tryz.ntmps187
    go_wp2_with fail
    refine HS.out.mono ?_
    rintro e w' ⟨rfl, rfl⟩
    go_wp2
    go_ret
    exact ⟨int_eq (by have := HR.out; omega), rfl⟩
set_option maxHeartbeats 800000 in
theorem need_any (n : Int) (w : World) : Calls Tryz.prog 150 #[.int .i64 n] w fun e w' => e = .returned (.int .i64 (needN n)) ∧ w = w' := by
  rcases Classical.em (n < 0) with h | h
  · have HR := Lib.hid (needN_none n (.inl h))
    generalize needN n = r at *
    go_enter Tryz.func150, Tryz.ntmps150
    go_wp2
    go_ret
    exact ⟨int_eq HR.out.symm, rfl⟩
  · have HC := Lib.hid (fun c => cap_any c w)
    have HY := Lib.hid (fun i hi h2 hj => needN_at n i (by omega) hi h2 hj)
    have HN := Lib.hid (needN_none n)
    have h0 : 0 ≤ n := by omega
    generalize needN n = r at *
    go_enter Tryz.func150, Tryz.ntmps150
    go_wp2
    go_loopg [6] 4 (fun gk s6 wx => ∃ i : Nat, i + gk = 4 ∧ s6 = .int .i64 i ∧ w = wx ∧ Hid (∀ j : Nat, j < i → capN j < n))
    case atStart => exact ⟨0, by omega, rfl, rfl, fun j hj => by omega⟩
    case round =>
      obtain ⟨i, hig, rfl, rfl, HJ⟩ := hrel
      cases gk with
      | zero =>
        have hi : ¬ (i : Int) < 4 := by omega
        go_wp2
        go_ret
        exact ⟨int_eq (HN.out (.inr (HJ.out 3 (by omega)))).symm, rfl⟩
      | succ gk =>
        have hi : (i : Int) < 4 := by omega
        have HK := Lib.hid (HC.out i)
        obtain ⟨q, hq⟩ : ∃ q, capN i = q := ⟨_, rfl⟩
        rw [hq] at HK
        have HQ := Lib.hid hq
        clear hq
        rcases Classical.em (n ≤ q) with h2 | h2
        · go_wp2_with fail
          refine HK.out.mono ?_
          rintro e w' ⟨rfl, rfl⟩
          go_wp2
          go_ret
          exact ⟨int_eq (HY.out i (by omega) (by rw [HQ.out]; exact h2) HJ.out).symm, rfl⟩
        · go_wp2_with fail
          refine HK.out.mono ?_
          rintro e w' ⟨rfl, rfl⟩
          go_wp2
          go_roundg gk
          case measure => omega
          case rel =>
            refine ⟨i + 1, by omega, by go_num, rfl, fun j hj => ?_⟩
            rcases Nat.lt_or_ge j i with h3 | h3
            · exact HJ.out j h3
            · obtain rfl : j = i := by omega
              rw [HQ.out]; omega
set_option maxHeartbeats 800000 in
theorem home_any (x c : Int) (w : World) : Calls Tryz.prog 145 #[.int .i64 x, .int .i64 c] w fun e w' => e = .returned (.bool (homeN x c)) ∧ w = w' := by
  have H1 := Lib.hid (slabof_any x w)
  have H2 := Lib.hid (span_any c w)
  have H3 := Lib.hid (slab_any (slabOfN x) w)
  rcases Classical.em (slabOfN x < 0) with h | h
  · have HR := Lib.hid (homeN_no (x := x) (c := c) (.inl h))
    generalize homeN x c = r at *
    generalize slabOfN x = k at *
    generalize spanN c = s at *
    go_enter Tryz.func145, Tryz.ntmps145
    go_wp2_with fail
    refine H1.out.mono ?_
    rintro e w' ⟨rfl, rfl⟩
    go_wp2_with fail
    refine H2.out.mono ?_
    rintro e w' ⟨rfl, rfl⟩
    go_wp2
    go_ret
    exact ⟨bool_eq HR.out.symm, rfl⟩
  · rcases Classical.em (spanN c = 0) with h2 | h2
    · have HR := Lib.hid (homeN_no (x := x) (c := c) (.inr h2))
      have h3 : ((spanN c : Int) == 0) = true := by simp; omega
      generalize homeN x c = r at *
      generalize slabOfN x = k at *
      generalize spanN c = s at *
      clear h2
      go_enter Tryz.func145, Tryz.ntmps145
      go_wp2_with fail
      refine H1.out.mono ?_
      rintro e w' ⟨rfl, rfl⟩
      go_wp2_with fail
      refine H2.out.mono ?_
      rintro e w' ⟨rfl, rfl⟩
      go_wp2
      go_ret
      exact ⟨bool_eq HR.out.symm, rfl⟩
    · have HR := Lib.hid (homeN_yes (x := x) (c := c) h h2)
      obtain ⟨h5, h6, h7⟩ := slabOfN_in h
      have hsl : slabN (slabOfN x) = 2 + 8 * slabOfN x := by unfold slabN; rw [if_pos (by omega)]
      have hsc := spanN_cases c
      have h8 : 8 * slabOfN x ≤ x - 2 := by omega
      rw [hsl] at H3
      have h3 : ((spanN c : Int) == 0) = false := by simp; omega
      generalize homeN x c = r at *
      generalize slabOfN x = k at *
      generalize spanN c = s at *
      have h9 : 1 ≤ s := by omega
      have h10 : s ≤ 8 := by omega
      have h11 : k ≤ 31 := by omega
      have h12 : 0 ≤ k := by omega
      clear h2 hsl h7 hsc
      go_enter Tryz.func145, Tryz.ntmps145
      go_wp2_with fail
      refine H1.out.mono ?_
      rintro e w' ⟨rfl, rfl⟩
      go_wp2_with fail
      refine H2.out.mono ?_
      rintro e w' ⟨rfl, rfl⟩
      go_wp2_with fail
      refine H3.out.mono ?_
      rintro e w' ⟨rfl, rfl⟩
      go_wp2
      go_ret
      exact ⟨bool_eq (by rw [HR.out]; rfl), rfl⟩
end Go.Proofs.YtlghphccmgmomaaGreat

/-
    Proved here: plain facts on blocks of chapter 6: which may be, their lines, that these read back, that one byte turned leaves none.
  Conditions: none.
-/
namespace Go.Proofs.YtlghphccmgmomaaGreat
open Go Go.RowKit
set_option maxRecDepth 100000

/-- A block, as it is handed in. -/
structure BV where
  cl : Int
  kd : Int
  id : Nat
  ver : Nat
  ep : Nat
  key : ByteArray
  val : ByteArray
def BV.K (b : BV) : List UInt8 := b.key.data.toList
def BV.V (b : BV) : List UInt8 := b.val.data.toList
/-- Its numbers are such as a machine has. -/
structure BV.ok (b : BV) : Prop where
  id : b.id < 18446744073709551616
  ver : b.ver < 18446744073709551616
  ep : b.ep < 18446744073709551616
/-- May the number v stand in a head that is no draft's? -/
def numB (v : Nat) : Bool := decide (1 ≤ v) && decide (v ≤ 2305843009213693952)
/-- Has a block the numbers of one that is no draft, a value that is short enough, and the class that its data need? -/
def fillsB (b : BV) : Bool := numB b.id && numB b.ver && numB b.ep && decide (b.val.size ≤ 400) && decide (b.cl = needN ((b.key.size + b.val.size : Nat) : Int))
def isDraftB (b : BV) : Bool := decide (b.id = 0) && decide (b.ver = 0) && decide (b.ep = 0) && decide (b.key.size = 0) && decide (b.val.size = 0)
/-- Which blocks may be (P6.1). -/
def mayB (b : BV) : Bool :=
  if 0 ≤ b.cl ∧ b.cl ≤ 3 then
    if b.kd = 0 then isDraftB b
    else if b.kd = 1 then decide (b.key.size ≠ 0) && decide (b.key.size ≤ 16) && fillsB b
    else if b.kd = 2 then decide (b.key.size = 0) && fillsB b
    else if b.kd = 3 then decide (b.val.size = 0) && decide (b.key.size = 0) && fillsB b
    else false
  else false

theorem needN_cap {n : Int} (h : 0 ≤ needN n) : n ≤ capN (needN n) ∧ 0 ≤ n ∧ needN n ≤ 3 := by
  unfold needN at h ⊢
  (repeat' split at h) <;> (repeat' split) <;> simp_all [capN]
theorem mayB_cl {b : BV} (h : mayB b = true) : 0 ≤ b.cl ∧ b.cl ≤ 3 := by
  unfold mayB at h
  split at h
  · assumption
  · cases h
theorem fillsB_nums {b : BV} (h : fillsB b = true) : b.val.size ≤ 400 ∧ b.cl = needN ((b.key.size + b.val.size : Nat) : Int) := by
  simp only [fillsB, Bool.and_eq_true, decide_eq_true_eq] at h
  exact ⟨h.1.2, h.2⟩
theorem mayB_kd {b : BV} (h : mayB b = true) : 0 ≤ b.kd ∧ b.kd ≤ 3 := by
  unfold mayB at h
  (repeat' split at h) <;> first | omega | cases h
theorem mayB_sizes {b : BV} (h : mayB b = true) : b.key.size ≤ 16 ∧ b.val.size ≤ 400 ∧ ((b.key.size + b.val.size : Nat) : Int) ≤ capN b.cl := by
  have hc := mayB_cl h
  have hcap : 0 ≤ capN b.cl := by unfold capN; (repeat' split) <;> omega
  unfold mayB at h
  rw [if_pos hc] at h
  split at h
  · simp only [isDraftB, Bool.and_eq_true, decide_eq_true_eq] at h
    omega
  · have hf : fillsB b = true ∧ b.key.size ≤ 16 := by
      split at h
      · simp only [Bool.and_eq_true, decide_eq_true_eq] at h
        exact ⟨h.2, h.1.2⟩
      · split at h
        · simp only [Bool.and_eq_true, decide_eq_true_eq] at h
          exact ⟨h.2, by omega⟩
        · split at h
          · simp only [Bool.and_eq_true, decide_eq_true_eq] at h
            exact ⟨h.2, by omega⟩
          · cases h
    obtain ⟨h1, h2⟩ := fillsB_nums hf.1
    have := needN_cap (n := ((b.key.size + b.val.size : Nat) : Int)) (by omega)
    rw [← h2] at this
    exact ⟨hf.2, h1, this.1⟩

/-- How many lines a block of class c has behind its first one. -/
def restN (c : Int) : Nat := spanN c - 1
theorem spanN_rest {c : Int} (h : 0 ≤ c ∧ c ≤ 3) : spanN c = restN c + 1 := by
  have := spanN_some (c := c) (by omega)
  unfold restN
  omega
theorem restN_le (c : Int) : restN c ≤ 7 := by have := spanN_cases c; unfold restN; omega
theorem capN_rest {c : Int} (h : 0 ≤ c ∧ c ≤ 3) : capN c = ((28 + 63 * restN c : Nat) : Int) := by
  rw [capN_span, if_neg (by have := spanN_rest h; omega), spanN_rest h]
  omega
/-- Lines of 63 bytes each, a tag ahead of each. -/
def tags : Nat → List UInt8 → List UInt8
  | 0, _ => []
  | n + 1, r => 2 :: (r.take 63 ++ tags n (r.drop 63))
/-- The bytes of so many lines without their first ones. -/
def untags : Nat → List UInt8 → List UInt8
  | 0, _ => []
  | n + 1, l => (l.drop 1).take 63 ++ untags n (l.drop 64)
theorem tags_len (n : Nat) (r : List UInt8) (h : r.length = 63 * n) : (tags n r).length = 64 * n := by
  induction n generalizing r with
  | zero => rfl
  | succ n ih =>
    have := ih (r.drop 63) (by rw [List.length_drop]; omega)
    simp only [tags, List.length_cons, List.length_append, List.length_take, this]
    omega
theorem untags_len (n : Nat) (l : List UInt8) (h : l.length = 64 * n) : (untags n l).length = 63 * n := by
  induction n generalizing l with
  | zero => rfl
  | succ n ih =>
    have := ih (l.drop 64) (by rw [List.length_drop]; omega)
    simp only [untags, List.length_append, List.length_take, List.length_drop, this]
    omega
theorem untags_tags (n : Nat) (r : List UInt8) (h : r.length = 63 * n) : untags n (tags n r) = r := by
  induction n generalizing r with
  | zero => exact (List.eq_nil_of_length_eq_zero (by omega)).symm
  | succ n ih =>
    have h1 : (r.take 63).length = 63 := by simp; omega
    have := ih (r.drop 63) (by rw [List.length_drop]; omega)
    simp only [tags, untags, List.drop_succ_cons, List.drop_zero]
    rw [List.take_append_of_le_length (by omega), List.take_of_length_le (by omega), List.drop_append, List.drop_of_length_le (by omega), List.nil_append, h1]
    simp only [Nat.sub_self, List.drop_zero, this, List.take_append_drop]
theorem tags_snoc (n : Nat) (r : List UInt8) (h : 63 * n ≤ r.length) : tags (n + 1) r = tags n r ++ 2 :: ((r.drop (63 * n)).take 63) := by
  induction n generalizing r with
  | zero => simp [tags]
  | succ n ih =>
    have := ih (r.drop 63) (by rw [List.length_drop]; omega)
    rw [tags, this]
    simp only [tags, List.drop_drop, List.cons_append, List.append_assoc]
    rw [show 63 + 63 * n = 63 * (n + 1) by omega]
theorem untags_snoc (n : Nat) (l : List UInt8) : untags (n + 1) l = untags n l ++ (l.drop (64 * n + 1)).take 63 := by
  induction n generalizing l with
  | zero => simp [untags]
  | succ n ih =>
    rw [untags, ih (l.drop 64)]
    simp only [untags, List.drop_drop, List.append_assoc]
    rw [show 64 + (64 * n + 1) = 64 * (n + 1) + 1 by omega]

/-- The lines that the bytes P of head and data make: the checksum behind 32 bytes, tags ahead of the lines behind the first one. -/
def frame (n : Nat) (P : List UInt8) : List UInt8 := P.take 32 ++ (lay 4 (addS 0 P) ++ ((P.drop 32).take 28 ++ tags n (P.drop 60)))
def unframe (n : Nat) (l : List UInt8) : List UInt8 := l.take 32 ++ ((l.drop 36).take 28 ++ untags n (l.drop 64))
theorem frame_len {n : Nat} {P : List UInt8} (h : P.length = 60 + 63 * n) : (frame n P).length = 64 * (n + 1) := by
  have := tags_len n (P.drop 60) (by rw [List.length_drop]; omega)
  simp only [frame, List.length_append, List.length_take, List.length_drop, lay_len, this]
  omega
theorem frame_take {n : Nat} {P : List UInt8} (h : P.length = 60 + 63 * n) : (frame n P).take 32 = P.take 32 := by
  have h1 : (P.take 32).length = 32 := by simp; omega
  rw [frame, List.take_append_of_le_length (by omega), List.take_of_length_le (by omega)]
theorem frame_drop32 {n : Nat} {P : List UInt8} (h : P.length = 60 + 63 * n) : (frame n P).drop 32 = lay 4 (addS 0 P) ++ ((P.drop 32).take 28 ++ tags n (P.drop 60)) := by
  have h1 : (P.take 32).length = 32 := by simp; omega
  rw [frame, List.drop_append, List.drop_of_length_le (by omega), h1]
  simp
theorem frame_drop36 {n : Nat} {P : List UInt8} (h : P.length = 60 + 63 * n) : (frame n P).drop 36 = (P.drop 32).take 28 ++ tags n (P.drop 60) := by
  rw [show (36 : Nat) = 32 + 4 from rfl, ← List.drop_drop, frame_drop32 h, List.drop_append, List.drop_of_length_le (by rw [lay_len]; omega), lay_len]
  simp
theorem frame_drop64 {n : Nat} {P : List UInt8} (h : P.length = 60 + 63 * n) : (frame n P).drop 64 = tags n (P.drop 60) := by
  have h1 : ((P.drop 32).take 28).length = 28 := by simp; omega
  rw [show (64 : Nat) = 36 + 28 from rfl, ← List.drop_drop, frame_drop36 h, List.drop_append, List.drop_of_length_le (by omega), h1]
  simp
theorem unframe_frame {n : Nat} {P : List UInt8} (h : P.length = 60 + 63 * n) : unframe n (frame n P) = P := by
  have h1 : ((P.drop 32).take 28).length = 28 := by simp; omega
  rw [unframe, frame_take h, frame_drop36 h, frame_drop64 h, List.take_append_of_le_length (by omega), List.take_of_length_le (Nat.le_of_eq h1), untags_tags n _ (by rw [List.length_drop]; omega), show P.drop 60 = (P.drop 32).drop 28 by rw [List.drop_drop], List.take_append_drop, List.take_append_drop]
/-- The 32 bytes of a head. -/
def headL (b : BV) : List UInt8 := [1, UInt8.ofNat b.cl.toNat, UInt8.ofNat b.kd.toNat, UInt8.ofNat b.K.length] ++ (lay 2 b.V.length ++ ([0, 0] ++ (lay 8 b.id ++ (lay 8 b.ver ++ lay 8 b.ep))))
theorem headL_len (b : BV) : (headL b).length = 32 := by simp [headL, lay_len]
def dataL (b : BV) : List UInt8 := b.K ++ b.V
/-- The data and the noughts behind them. -/
def roomL (b : BV) : List UInt8 := dataL b ++ List.replicate (28 + 63 * restN b.cl - (dataL b).length) 0
theorem K_len (b : BV) : b.K.length = b.key.size := rfl
theorem V_len (b : BV) : b.V.length = b.val.size := rfl
theorem dataL_len (b : BV) : (dataL b).length = b.key.size + b.val.size := by rw [dataL, List.length_append, K_len, V_len]
theorem data_le {b : BV} (h : mayB b = true) : (dataL b).length ≤ 28 + 63 * restN b.cl := by
  have h1 := (mayB_sizes h).2.2
  rw [capN_rest (mayB_cl h)] at h1
  rw [dataL_len]
  omega
theorem roomL_len {b : BV} (h : mayB b = true) : (roomL b).length = 28 + 63 * restN b.cl := by
  have := data_le h
  rw [roomL, List.length_append, List.length_replicate]
  omega
def payL (b : BV) : List UInt8 := headL b ++ roomL b
theorem payL_len {b : BV} (h : mayB b = true) : (payL b).length = 60 + 63 * restN b.cl := by
  rw [payL, List.length_append, headL_len, roomL_len h]
  omega
/-- The lines of a block (P6.1). -/
def linesL (b : BV) : List UInt8 := frame (restN b.cl) (payL b)
theorem linesL_len {b : BV} (h : mayB b = true) : (linesL b).length = 64 * spanN b.cl := by
  rw [linesL, frame_len (payL_len h), spanN_rest (mayB_cl h)]
theorem linesL_eq (b : BV) : linesL b = headL b ++ (lay 4 (addS 0 (headL b ++ roomL b)) ++ ((roomL b).take 28 ++ tags (restN b.cl) ((roomL b).drop 28))) := by
  have hh := headL_len b
  have e1 : (headL b ++ roomL b).take 32 = headL b := by rw [← hh, List.take_left]
  have e2 : (headL b ++ roomL b).drop 32 = roomL b := by rw [← hh, List.drop_left]
  have e3 : (headL b ++ roomL b).drop 60 = (roomL b).drop 28 := by rw [show (60 : Nat) = 32 + 28 from rfl, ← List.drop_drop, e2]
  rw [linesL, frame, payL, e1, e2, e3]

/-- What lines hold of data. -/
def dataOfL (n : Nat) (l : List UInt8) : List UInt8 := (l.drop 36).take 28 ++ untags n (l.drop 64)
theorem dataOfL_len {n : Nat} {l : List UInt8} (h : l.length = 64 * (n + 1)) : (dataOfL n l).length = 28 + 63 * n := by
  have := untags_len n (l.drop 64) (by rw [List.length_drop]; omega)
  simp only [dataOfL, List.length_append, List.length_take, List.length_drop, this]
  omega
def clOf (l : List UInt8) : Nat := (l.getD 1 0).toNat
def kdOf (l : List UInt8) : Nat := (l.getD 2 0).toNat
def klOf (l : List UInt8) : Nat := (l.getD 3 0).toNat
def vlOf (l : List UInt8) : Nat := le ((l.drop 4).take 2)
/-- The block that lines speak of. -/
def readL (l : List UInt8) : BV :=
  ⟨clOf l, kdOf l, le ((l.drop 8).take 8), le ((l.drop 16).take 8), le ((l.drop 24).take 8),
   ⟨((dataOfL (restN (clOf l)) l).take (klOf l)).toArray⟩, ⟨(((dataOfL (restN (clOf l)) l).drop (klOf l)).take (vlOf l)).toArray⟩⟩
theorem le_lt8 (l : List UInt8) : le (l.take 8) < 18446744073709551616 := by
  have h := le_lt (l.take 8)
  have hp : 256 ^ (l.take 8).length ≤ 256 ^ 8 := Nat.pow_le_pow_right (by omega) (by simp; omega)
  rw [pow8_eight] at hp
  omega
theorem readL_ok (l : List UInt8) : (readL l).ok := ⟨le_lt8 _, le_lt8 _, le_lt8 _⟩

theorem head_cut (b : BV) (a k : Nat) (hk : a + k ≤ 32) : ((linesL b).drop a).take k = ((headL b).drop a).take k := by
  rw [linesL_eq b, List.drop_append_of_le_length (by rw [headL_len]; omega), List.take_append_of_le_length (by rw [List.length_drop, headL_len]; omega)]
theorem head_at (b : BV) (k : Nat) (hk : k < 32) : (linesL b).getD k 0 = (headL b).getD k 0 := by
  rw [linesL_eq b, List.getD, List.getD, List.getElem?_append_left (by rw [headL_len]; exact hk)]
theorem lines_tag (b : BV) : (linesL b).getD 0 0 = 1 := by rw [head_at b 0 (by omega)]; rfl
theorem byte_toNat {n : Nat} (h : n < 256) : (UInt8.ofNat n).toNat = n := by rw [UInt8.toNat_ofNat']; omega
theorem lines_cl {b : BV} (h : mayB b = true) : ((clOf (linesL b) : Nat) : Int) = b.cl := by
  have := mayB_cl h
  rw [clOf, head_at b 1 (by omega), show (headL b).getD 1 0 = UInt8.ofNat b.cl.toNat from rfl, byte_toNat (by omega)]
  omega
theorem lines_kd {b : BV} (h : mayB b = true) : ((kdOf (linesL b) : Nat) : Int) = b.kd := by
  have := mayB_kd h
  rw [kdOf, head_at b 2 (by omega), show (headL b).getD 2 0 = UInt8.ofNat b.kd.toNat from rfl, byte_toNat (by omega)]
  omega
theorem lines_kl {b : BV} (h : mayB b = true) : klOf (linesL b) = b.key.size := by
  have := mayB_sizes h
  rw [klOf, head_at b 3 (by omega), show (headL b).getD 3 0 = UInt8.ofNat b.K.length from rfl, K_len, byte_toNat (by omega)]
theorem lines_vl {b : BV} (h : mayB b = true) : vlOf (linesL b) = b.val.size := by
  have := mayB_sizes h
  rw [vlOf, head_cut b 4 2 (by omega), show ((headL b).drop 4).take 2 = lay 2 b.V.length by simp [headL, lay, List.drop, List.take], V_len]
  exact le_lay_of (by simp; omega)
theorem lines_id {b : BV} (ho : b.ok) : le (((linesL b).drop 8).take 8) = b.id := by
  rw [head_cut b 8 8 (by omega), show ((headL b).drop 8).take 8 = lay 8 b.id by simp [headL, lay, List.drop, List.take]]
  exact le_lay_of (by rw [pow8_eight]; exact ho.id)
theorem lines_ver {b : BV} (ho : b.ok) : le (((linesL b).drop 16).take 8) = b.ver := by
  rw [head_cut b 16 8 (by omega), show ((headL b).drop 16).take 8 = lay 8 b.ver by simp [headL, lay, List.drop, List.take]]
  exact le_lay_of (by rw [pow8_eight]; exact ho.ver)
theorem lines_ep {b : BV} (ho : b.ok) : le (((linesL b).drop 24).take 8) = b.ep := by
  rw [head_cut b 24 8 (by omega), show ((headL b).drop 24).take 8 = lay 8 b.ep by simp [headL, lay, List.drop, List.take]]
  exact le_lay_of (by rw [pow8_eight]; exact ho.ep)
theorem lines_data {b : BV} (h : mayB b = true) : dataOfL (restN b.cl) (linesL b) = roomL b := by
  have h1 := payL_len h
  have hu : unframe (restN b.cl) (linesL b) = payL b := unframe_frame h1
  have h32 : ((linesL b).take 32).length = 32 := by rw [List.length_take, linesL_len h, spanN_rest (mayB_cl h)]; omega
  have e : (unframe (restN b.cl) (linesL b)).drop 32 = dataOfL (restN b.cl) (linesL b) := by
    rw [unframe, List.drop_append, List.drop_of_length_le (by omega), h32]
    simp [dataOfL]
  rw [← e, hu, payL, List.drop_append, List.drop_of_length_le (by rw [headL_len]; omega), headL_len]
  simp
/-- What was laid is read again. -/
theorem read_lines {b : BV} (h : mayB b = true) (ho : b.ok) : readL (linesL b) = b := by
  have hc := lines_cl h
  unfold readL
  rw [hc, lines_data h, lines_kd h, lines_kl h, lines_vl h, lines_id ho, lines_ver ho, lines_ep ho]
  have e1 : (roomL b).take b.key.size = b.K := by
    rw [roomL, dataL, List.append_assoc, List.take_append_of_le_length (by rw [K_len]; omega), List.take_of_length_le (by rw [K_len]; omega)]
  have e2 : ((roomL b).drop b.key.size).take b.val.size = b.V := by
    rw [roomL, dataL, List.append_assoc, List.drop_append, List.drop_of_length_le (by rw [K_len]; omega), K_len, Nat.sub_self, List.drop_zero, List.nil_append, List.take_append_of_le_length (by rw [V_len]; omega), List.take_of_length_le (by rw [V_len]; omega)]
  rw [e1, e2]
  rcases b with ⟨_, _, _, _, _, ⟨⟨k⟩⟩, ⟨⟨v⟩⟩⟩
  rfl
/-- Are bytes the lines of a block? -/
def isLines (l : List UInt8) : Prop := ∃ b : BV, b.ok ∧ mayB b = true ∧ linesL b = l
end Go.Proofs.YtlghphccmgmomaaGreat
