/-
  Proved here: where a key is among links by rising keys; the levels.
  Conditions: none.
-/
import Derived.Test.YtfdifimakaiccaaTableMath
import Derived.Test.YtfdifimakaiccaaSumMath
import Derived.Test.YtfdifimakaiccaaPlace11
namespace Go.Proofs.Ytfdifimakaiccaa
open Go Go.RowKit
set_option maxRecDepth 100000

/-! ### Links kept by their keys -/
def keepT (q : Ky → Bool) (L : List Ln) : List Ln := L.filter fun x => q x.k
theorem mem_keepT {q : Ky → Bool} {L : List Ln} {x : Ln} : x ∈ keepT q L ↔ x ∈ L ∧ q x.k = true := by simp [keepT]
theorem risesK_keep {L : List Ln} (h : RisesK L) (q : Ky → Bool) : RisesK (keepT q L) := List.Pairwise.filter _ h
theorem keepT_set {L : List Ln} (h : RisesK L) (q : Ky → Bool) (x : Ln) : keepT q (setT L x) = if q x.k = true then setT (keepT q L) x else keepT q L := by
  split
  · rename_i e
    refine risesK_ext (risesK_keep (risesK_set h x) q) (risesK_set (risesK_keep h q) x) fun y => ?_
    rw [mem_keepT, mem_setT, mem_setT, mem_keepT]
    constructor
    · rintro ⟨rfl | ⟨h1, h2⟩, h3⟩
      · exact .inl rfl
      · exact .inr ⟨⟨h1, h3⟩, h2⟩
    · rintro (rfl | ⟨⟨h1, h3⟩, h2⟩)
      · exact ⟨.inl rfl, e⟩
      · exact ⟨.inr ⟨h1, h2⟩, h3⟩
  · rename_i e
    refine risesK_ext (risesK_keep (risesK_set h x) q) (risesK_keep h q) fun y => ?_
    rw [mem_keepT, mem_setT, mem_keepT]
    constructor
    · rintro ⟨rfl | ⟨h1, _⟩, h3⟩
      · exact absurd h3 e
      · exact ⟨h1, h3⟩
    · rintro ⟨h1, h3⟩
      exact ⟨.inr ⟨h1, fun e2 => e (by rw [← e2]; exact h3)⟩, h3⟩
theorem keepT_drop {L : List Ln} (h : RisesK L) (q : Ky → Bool) (k : Ky) : keepT q (dropT L k) = if q k = true then dropT (keepT q L) k else keepT q L := by
  split
  · refine risesK_ext (risesK_keep (risesK_drop h k) q) (risesK_drop (risesK_keep h q) k) fun y => ?_
    rw [mem_keepT, mem_dropT, mem_dropT, mem_keepT]
    exact ⟨fun ⟨⟨a, b⟩, c⟩ => ⟨⟨a, c⟩, b⟩, fun ⟨⟨a, c⟩, b⟩ => ⟨⟨a, b⟩, c⟩⟩
  · rename_i e
    refine risesK_ext (risesK_keep (risesK_drop h k) q) (risesK_keep h q) fun y => ?_
    rw [mem_keepT, mem_dropT, mem_keepT]
    exact ⟨fun ⟨⟨a, _⟩, c⟩ => ⟨a, c⟩, fun ⟨a, c⟩ => ⟨⟨a, fun e2 => e (by rw [← e2]; exact c)⟩, c⟩⟩
theorem keepT_get {L : List Ln} (h : RisesK L) (q : Ky → Bool) {k : Ky} (hk : q k = true) : getT (keepT q L) k = getT L k := by
  cases e : getT L k with
  | none => exact getT_none.2 fun y hy => getT_none.1 e y (mem_keepT.1 hy).1
  | some y =>
    obtain ⟨h1, h2⟩ := (getT_some h).1 e
    exact (getT_some (risesK_keep h q)).2 ⟨mem_keepT.2 ⟨h1, by rw [h2]; exact hk⟩, h2⟩
theorem keepT_has {L : List Ln} (h : RisesK L) (q : Ky → Bool) {k : Ky} (hk : q k = true) : hasT (keepT q L) k = hasT L k := by rw [hasT, keepT_get h q hk]; rfl
theorem keepT_len (q : Ky → Bool) (L : List Ln) : (keepT q L).length ≤ L.length := List.length_filter_le _ _
theorem keepT_all {q : Ky → Bool} {L : List Ln} (h : ∀ x ∈ L, q x.k = true) : keepT q L = L := List.filter_eq_self.2 h
/-! ### Where a key is -/
def posT (M : List Ln) (k : Ky) : Nat := M.countP fun x => Op.bytesLess x.k k
theorem posT_le (M : List Ln) (k : Ky) : posT M k ≤ M.length := List.countP_le_length
theorem posT_nil (k : Ky) : posT [] k = 0 := rfl
theorem posT_cons {a : Ln} {M : List Ln} (k : Ky) : posT (a :: M) k = if Op.bytesLess a.k k = true then posT M k + 1 else posT M k := by
  unfold posT
  rw [List.countP_cons]
  split <;> rfl
/-- Behind a key that is no less there is none less. -/
theorem posT_zero {a : Ln} {M : List Ln} (h : RisesK (a :: M)) {k : Ky} (hk : Op.bytesLess a.k k = false) : posT M k = 0 := by
  obtain ⟨h1, _⟩ := List.pairwise_cons.1 h
  unfold posT
  rw [List.countP_eq_zero]
  intro x hx e
  have := lessK_trans (h1 x hx) e
  rw [hk] at this
  cases this
theorem pos_yes {M : List Ln} (h : RisesK M) {k : Ky} (hk : hasT M k = true) : ∃ y, M[posT M k]? = some y ∧ y.k = k := by
  induction M with
  | nil => cases hk
  | cons a M ih =>
    obtain ⟨h1, h2⟩ := List.pairwise_cons.1 h
    rw [posT_cons]
    rcases Classical.em (a.k = k) with e | e
    · have hl : Op.bytesLess a.k k = false := by rw [e]; exact lessK_irrefl _
      rw [hl, posT_zero h hl]
      exact ⟨a, rfl, e⟩
    · have hh : hasT M k = true := by simpa [hasT, getT, e] using hk
      obtain ⟨y, hy, hyk⟩ := ih h2 hh
      have hl : Op.bytesLess a.k k = true := by rw [← hyk]; exact h1 y (List.mem_of_getElem? hy)
      rw [hl]
      exact ⟨y, by simpa using hy, hyk⟩
theorem pos_no {M : List Ln} (h : RisesK M) {k : Ky} (hk : hasT M k = false) {y : Ln} (hy : M[posT M k]? = some y) : Op.bytesLess k y.k = true := by
  induction M with
  | nil => cases hy
  | cons a M ih =>
    obtain ⟨h1, h2⟩ := List.pairwise_cons.1 h
    have hne : a.k ≠ k := fun e => by simp [hasT, getT, e] at hk
    have hh : hasT M k = false := by
      have : (a.k == k) = false := by simpa using hne
      simpa [hasT, getT, this] using hk
    rw [posT_cons] at hy
    rcases lessK_tri a.k k with hl | hl | hl
    · rw [hl] at hy
      exact ih h2 hh (by simpa using hy)
    · exact absurd hl hne
    · rw [lessK_asym hl, posT_zero h (lessK_asym hl)] at hy
      simp at hy
      rw [← hy]
      exact hl
theorem drop_pos {M : List Ln} (h : RisesK M) {k : Ky} (hk : hasT M k = true) : M.take (posT M k) ++ M.drop (posT M k + 1) = dropT M k := by
  induction M with
  | nil => cases hk
  | cons a M ih =>
    obtain ⟨h1, h2⟩ := List.pairwise_cons.1 h
    rw [posT_cons]
    rcases Classical.em (a.k = k) with e | e
    · have hl : Op.bytesLess a.k k = false := by rw [e]; exact lessK_irrefl _
      rw [hl, posT_zero h hl]
      have hn : dropT M k = M := dropT_none fun x hx => by rw [← e]; exact fun e2 => lessK_ne (h1 x hx) e2.symm
      have : dropT (a :: M) k = dropT M k := by simp [dropT, e]
      rw [this, hn]
      rfl
    · have hh : hasT M k = true := by simpa [hasT, getT, e] using hk
      obtain ⟨y, hy, hyk⟩ := pos_yes h2 hh
      have hl : Op.bytesLess a.k k = true := by rw [← hyk]; exact h1 y (List.mem_of_getElem? hy)
      have : dropT (a :: M) k = a :: dropT M k := by simp [dropT, e]
      rw [hl, this, ← ih h2 hh]
      rfl
theorem put_pos {M : List Ln} (h : RisesK M) (x : Ln) (hx : ∀ a ∈ M, a.k ≠ x.k) : putT M x = M.take (posT M x.k) ++ x :: M.drop (posT M x.k) := by
  induction M with
  | nil => rfl
  | cons a M ih =>
    obtain ⟨h1, h2⟩ := List.pairwise_cons.1 h
    rw [posT_cons]
    unfold putT
    rcases lessK_tri a.k x.k with hl | hl | hl
    · rw [hl, lessK_asym hl, ih h2 fun b hb => hx b (List.mem_cons_of_mem _ hb)]
      rfl
    · exact absurd hl (hx a (by simp))
    · rw [hl, lessK_asym hl, posT_zero h (lessK_asym hl)]
      rfl
theorem hasT_no {M : List Ln} {k : Ky} (hk : hasT M k = false) : ∀ a ∈ M, a.k ≠ k := getT_none.1 (by
  cases e : getT M k with
  | none => rfl
  | some y => rw [hasT, e] at hk; cases hk)
theorem set_pos_no {M : List Ln} (h : RisesK M) (x : Ln) (hk : hasT M x.k = false) : setT M x = M.take (posT M x.k) ++ x :: M.drop (posT M x.k) := by
  have hx := hasT_no hk
  unfold setT
  rw [dropT_none hx, put_pos h x hx]
theorem set_pos_yes {M : List Ln} (h : RisesK M) (x : Ln) (hk : hasT M x.k = true) : setT M x = M.set (posT M x.k) x := by
  induction M with
  | nil => cases hk
  | cons a M ih =>
    obtain ⟨h1, h2⟩ := List.pairwise_cons.1 h
    rw [posT_cons]
    rcases Classical.em (a.k = x.k) with e | e
    · have hl : Op.bytesLess a.k x.k = false := by rw [e]; exact lessK_irrefl _
      rw [hl, posT_zero h hl]
      have hne : ∀ b ∈ M, b.k ≠ x.k := fun b hb => by rw [← e]; exact fun e2 => lessK_ne (h1 b hb) e2.symm
      have : setT (a :: M) x = putT M x := by
        unfold setT
        rw [show dropT (a :: M) x.k = dropT M x.k by simp [dropT, e], dropT_none hne]
      rw [this]
      cases M with
      | nil => rfl
      | cons b M =>
        have := h1 b (by simp)
        rw [e] at this
        simp [putT, this]
    · have hh : hasT M x.k = true := by simpa [hasT, getT, e] using hk
      obtain ⟨y, hy, hyk⟩ := pos_yes h2 hh
      have hl : Op.bytesLess a.k x.k = true := by rw [← hyk]; exact h1 y (List.mem_of_getElem? hy)
      have : setT (a :: M) x = a :: setT M x := by
        unfold setT
        rw [show dropT (a :: M) x.k = a :: dropT M x.k by simp [dropT, e]]
        simp [putT, lessK_asym hl]
      rw [hl, this, ih h2 hh]
      rfl
/-- What is not skipped comes first behind what is. -/
theorem find_count {α : Type} (p : α → Bool) (M : List α) (h : M.Pairwise fun a b => p b = true → p a = true) : M[M.countP p]? = M.find? fun x => !p x := by
  induction M with
  | nil => rfl
  | cons a M ih =>
    obtain ⟨h1, h2⟩ := List.pairwise_cons.1 h
    cases ha : p a with
    | true =>
      rw [List.countP_cons_of_pos ha]
      simp [ha, ih h2]
    | false =>
      have h0 : M.countP p = 0 := List.countP_eq_zero.2 fun x hx e => by rw [h1 x hx e] at ha; cases ha
      rw [List.countP_cons_of_neg (by simp [ha]), h0]
      simp [ha]
/-! ### The levels -/
def hgt (k : Ky) : Nat := lvl (addS 0 k)
theorem hgt_bounds (k : Ky) : 1 ≤ hgt k ∧ hgt k ≤ 4 := lvl_bounds _
def lev (i : Nat) (L : List Ln) : List Ln := keepT (fun k => decide (i < hgt k)) L
theorem lev_zero (L : List Ln) : lev 0 L = L := keepT_all fun x _ => by have := hgt_bounds x.k; simp; omega
theorem lev_rises {L : List Ln} (h : RisesK L) (i : Nat) : RisesK (lev i L) := risesK_keep h _
theorem lev_len (i : Nat) (L : List Ln) : (lev i L).length ≤ L.length := keepT_len _ _
theorem lev_set {L : List Ln} (h : RisesK L) (x : Ln) {i : Nat} (hi : i < hgt x.k) : lev i (setT L x) = setT (lev i L) x := by rw [lev, keepT_set h, if_pos (by simpa using hi)]; rfl
theorem lev_set_no {L : List Ln} (h : RisesK L) (x : Ln) {i : Nat} (hi : hgt x.k ≤ i) : lev i (setT L x) = lev i L := by rw [lev, keepT_set h, if_neg (by simpa using hi)]; rfl
theorem lev_drop {L : List Ln} (h : RisesK L) (k : Ky) {i : Nat} (hi : i < hgt k) : lev i (dropT L k) = dropT (lev i L) k := by rw [lev, keepT_drop h, if_pos (by simpa using hi)]; rfl
theorem lev_drop_no {L : List Ln} (h : RisesK L) (k : Ky) {i : Nat} (hi : hgt k ≤ i) : lev i (dropT L k) = lev i L := by rw [lev, keepT_drop h, if_neg (by simpa using hi)]; rfl
theorem lev_has {L : List Ln} (h : RisesK L) (k : Ky) {i : Nat} (hi : i < hgt k) : hasT (lev i L) k = hasT L k := keepT_has h _ (by simpa using hi)
theorem mem_lev {i : Nat} {L : List Ln} {x : Ln} : x ∈ lev i L ↔ x ∈ L ∧ i < hgt x.k := by rw [lev, mem_keepT]; simp
/-- What is right of a place on a level (levels from 1). -/
def rightT (L : List Ln) (lv : Int) (pos : Ky) (past : Bool) : Option Ln := nextT (fun k => decide (1 ≤ lv) && decide (lv ≤ (hgt k : Int))) L pos past
/-- Which links are passed over. -/
def skipB (pos : Ky) (past : Bool) (k : Ky) : Bool := past && !Op.bytesLess pos k
theorem right_lev (L : List Ln) (i : Nat) (pos : Ky) (past : Bool) : rightT L ((i : Int) + 1) pos past = (lev i L).find? fun x => !skipB pos past x.k := by
  unfold rightT nextT lev keepT
  rw [List.find?_filter]
  congr 1
  funext x
  have h1 : decide ((1 : Int) ≤ (i : Int) + 1) = true := decide_eq_true (by omega)
  have h2 : decide ((i : Int) + 1 ≤ (hgt x.k : Int)) = decide (i < hgt x.k) := by
    rw [decide_eq_decide]
    omega
  show (decide ((1 : Int) ≤ (i : Int) + 1) && decide ((i : Int) + 1 ≤ (hgt x.k : Int)) && (!past || Op.bytesLess pos x.k)) = decide (decide (i < hgt x.k) = true ∧ (!skipB pos past x.k) = true)
  rw [h1, h2]
  unfold skipB
  cases past <;> cases decide (i < hgt x.k) <;> cases Op.bytesLess pos x.k <;> rfl
theorem skip_mono {M : List Ln} (h : RisesK M) (pos : Ky) (past : Bool) : M.Pairwise fun a b => skipB pos past b.k = true → skipB pos past a.k = true := by
  refine h.imp fun {a b} hab => ?_
  unfold skipB
  intro e
  simp only [Bool.and_eq_true, Bool.not_eq_true'] at e ⊢
  refine ⟨e.1, ?_⟩
  cases e2 : Op.bytesLess pos a.k with
  | false => rfl
  | true => rw [lessK_trans e2 hab] at e; exact absurd e.2 (by simp)
theorem right_at {L : List Ln} (h : RisesK L) (i : Nat) (pos : Ky) (past : Bool) : (lev i L)[(lev i L).countP fun x => skipB pos past x.k]? = rightT L ((i : Int) + 1) pos past := by
  rw [right_lev, ← find_count _ _ (skip_mono (lev_rises h i) pos past)]
theorem right_none (L : List Ln) (lv : Int) (pos : Ky) (past : Bool) (h : lv < 1 ∨ 4 < lv) : rightT L lv pos past = none := by
  unfold rightT
  rw [nextT_none]
  rintro y _ ⟨h1, _⟩
  simp only [Bool.and_eq_true, decide_eq_true_eq] at h1
  have := hgt_bounds y.k
  omega

end Go.Proofs.Ytfdifimakaiccaa
