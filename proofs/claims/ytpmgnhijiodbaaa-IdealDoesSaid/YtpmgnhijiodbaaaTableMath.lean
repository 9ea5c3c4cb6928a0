/-
  Proved here: links by rising keys, as lists: set, drop, get, next, buckets.
  Conditions: none.
-/
import Derived.Test.YtpmgnhijiodbaaaArrs
namespace Go.Proofs.Ytpmgnhijiodbaaa
open Go Go.RowKit
set_option maxRecDepth 100000

/-! ### Keys, in the order of their bytes -/
abbrev Ky := List UInt8
theorem lessK_irrefl (a : Ky) : Op.bytesLess a a = false := by
  induction a with
  | nil => rfl
  | cons x a ih => simp [Op.bytesLess, ih]
theorem lessK_trans {a b c : Ky} (h1 : Op.bytesLess a b = true) (h2 : Op.bytesLess b c = true) : Op.bytesLess a c = true := by
  induction a generalizing b c with
  | nil =>
    cases b with
    | nil => cases h1
    | cons y b =>
      cases c with
      | nil => simp [Op.bytesLess] at h2
      | cons z c => rfl
  | cons x a ih =>
    cases b with
    | nil => simp [Op.bytesLess] at h1
    | cons y b =>
      cases c with
      | nil => simp [Op.bytesLess] at h2
      | cons z c =>
        simp only [Op.bytesLess, Bool.or_eq_true, decide_eq_true_eq, Bool.and_eq_true, beq_iff_eq] at h1 h2 ⊢
        rcases h1 with h1 | ⟨rfl, h1⟩
        · rcases h2 with h2 | ⟨rfl, _⟩
          · exact .inl (UInt8.lt_trans h1 h2)
          · exact .inl h1
        · rcases h2 with h2 | ⟨rfl, h2⟩
          · exact .inl h2
          · exact .inr ⟨rfl, ih h1 h2⟩
theorem lessK_tri (a b : Ky) : Op.bytesLess a b = true ∨ a = b ∨ Op.bytesLess b a = true := by
  induction a generalizing b with
  | nil =>
    cases b with
    | nil => exact .inr (.inl rfl)
    | cons y b => exact .inl rfl
  | cons x a ih =>
    cases b with
    | nil => exact .inr (.inr rfl)
    | cons y b =>
      simp only [Op.bytesLess, Bool.or_eq_true, decide_eq_true_eq, Bool.and_eq_true, beq_iff_eq]
      rcases Nat.lt_trichotomy x.toNat y.toNat with h | h | h
      · exact .inl (.inl (UInt8.lt_iff_toNat_lt.2 h))
      · obtain rfl : x = y := UInt8.toNat_inj.1 h
        rcases ih b with h1 | rfl | h1
        · exact .inl (.inr ⟨rfl, h1⟩)
        · exact .inr (.inl rfl)
        · exact .inr (.inr (.inr ⟨rfl, h1⟩))
      · exact .inr (.inr (.inl (UInt8.lt_iff_toNat_lt.2 h)))
theorem lessK_asym {a b : Ky} (h : Op.bytesLess a b = true) : Op.bytesLess b a = false := by
  cases h2 : Op.bytesLess b a with
  | false => rfl
  | true =>
    have := lessK_trans h h2
    rw [lessK_irrefl] at this
    cases this
theorem lessK_ne {a b : Ky} (h : Op.bytesLess a b = true) : a ≠ b := fun e => by
  rw [e, lessK_irrefl] at h
  cases h
/-- 'greater', as the walk spells it. -/
theorem gtrK (a b : Ky) : (!(Op.bytesLess a b || a == b)) = Op.bytesLess b a := by
  rcases lessK_tri a b with h | h | h
  · rw [h, lessK_asym h]; rfl
  · rw [h, lessK_irrefl]; simp
  · rw [lessK_asym h, h]
    have := lessK_ne h
    simp
    exact fun e => this e.symm

/-! ### Links by rising keys -/
structure Ln where
  k : Ky
  id : Nat
  ver : Nat
  line : Int
  cl : Int
/-- The key as a text. -/
def Ln.str (x : Ln) : ByteArray := ⟨x.k.toArray⟩
def Ln.cells (x : Ln) : List Value := [.string x.str, .int .u64 (x.id : Nat), .int .u64 (x.ver : Nat), .int .i64 x.line, .int .i64 x.cl]
def Ln.agg (x : Ln) : Value := .agg #[.string x.str, .int .u64 (x.id : Nat), .int .u64 (x.ver : Nat), .int .i64 x.line, .int .i64 x.cl]
def Ln.zero : Ln := ⟨[], 0, 0, 0, 0⟩
instance : Inhabited Ln := ⟨Ln.zero⟩
theorem Ln.agg_cells (x : Ln) : x.agg = .agg x.cells.toArray := rfl
theorem Ln.agg_inj {x y : Ln} (h : x.agg = y.agg) : x = y := by
  cases x
  cases y
  simp [Ln.agg, Ln.str] at h
  obtain ⟨h1, h2, h3, h4, h5⟩ := h
  simp [h1, h4, h5, Int.ofNat_inj.1 h2, Int.ofNat_inj.1 h3]
def RisesK (L : List Ln) : Prop := L.Pairwise fun a b => Op.bytesLess a.k b.k = true
theorem risesK_nil : RisesK [] := List.Pairwise.nil
theorem risesK_one {L : List Ln} (h : RisesK L) {a b : Ln} (ha : a ∈ L) (hb : b ∈ L) (e : a.k = b.k) : a = b := by
  induction L with
  | nil => cases ha
  | cons x L ih =>
    obtain ⟨h1, h2⟩ := List.pairwise_cons.1 h
    rcases List.mem_cons.1 ha with e1 | ha'
    · rcases List.mem_cons.1 hb with e2 | hb'
      · rw [e1, e2]
      · exact absurd e (by rw [e1]; exact lessK_ne (h1 b hb'))
    · rcases List.mem_cons.1 hb with e2 | hb'
      · exact absurd e.symm (by rw [e2]; exact lessK_ne (h1 a ha'))
      · exact ih h2 ha' hb'
/-- Rising lists with the same links are the same. -/
theorem risesK_ext {L M : List Ln} (h1 : RisesK L) (h2 : RisesK M) (h : ∀ x, x ∈ L ↔ x ∈ M) : L = M := by
  induction L generalizing M with
  | nil =>
    cases M with
    | nil => rfl
    | cons y M => have := (h y).2 (by simp); cases this
  | cons x L ih =>
    cases M with
    | nil => have := (h x).1 (by simp); cases this
    | cons y M =>
      obtain ⟨a1, a2⟩ := List.pairwise_cons.1 h1
      obtain ⟨b1, b2⟩ := List.pairwise_cons.1 h2
      have hxy : x = y := by
        rcases List.mem_cons.1 ((h x).1 (by simp)) with e | hx
        · exact e
        · rcases List.mem_cons.1 ((h y).2 (by simp)) with e | hy
          · exact e.symm
          · have := lessK_asym (b1 x hx)
            rw [a1 y hy] at this
            cases this
      subst hxy
      congr 1
      refine ih a2 b2 fun z => ⟨fun hz => ?_, fun hz => ?_⟩
      · rcases List.mem_cons.1 ((h z).1 (List.mem_cons_of_mem _ hz)) with rfl | h3
        · have := a1 z hz
          rw [lessK_irrefl] at this
          cases this
        · exact h3
      · rcases List.mem_cons.1 ((h z).2 (List.mem_cons_of_mem _ hz)) with rfl | h3
        · have := b1 z hz
          rw [lessK_irrefl] at this
          cases this
        · exact h3
/-- The link of a key. -/
def getT (L : List Ln) (k : Ky) : Option Ln := L.find? fun x => x.k == k
def hasT (L : List Ln) (k : Ky) : Bool := (getT L k).isSome
def linkT (L : List Ln) (k : Ky) : Ln := (getT L k).getD Ln.zero
def dropT (L : List Ln) (k : Ky) : List Ln := L.filter fun x => !(x.k == k)
/-- A link put where its key belongs, among links of other keys. -/
def putT : List Ln → Ln → List Ln
  | [], x => [x]
  | a :: L, x => if Op.bytesLess x.k a.k then x :: a :: L else a :: putT L x
def setT (L : List Ln) (x : Ln) : List Ln := putT (dropT L x.k) x
theorem getT_some {L : List Ln} (h : RisesK L) {k : Ky} {x : Ln} : getT L k = some x ↔ x ∈ L ∧ x.k = k := by
  constructor
  · intro e
    exact ⟨List.mem_of_find?_eq_some e, by simpa using List.find?_some e⟩
  · rintro ⟨h1, h2⟩
    cases e : getT L k with
    | none =>
      have := List.find?_eq_none.1 e x h1
      simp [h2] at this
    | some y =>
      have h3 := List.mem_of_find?_eq_some e
      have h4 : y.k = k := by simpa using List.find?_some e
      rw [risesK_one h h3 h1 (h4.trans h2.symm)]
theorem getT_none {L : List Ln} {k : Ky} : getT L k = none ↔ ∀ x ∈ L, x.k ≠ k := by
  unfold getT
  rw [List.find?_eq_none]
  simp
theorem mem_dropT {L : List Ln} {k : Ky} {x : Ln} : x ∈ dropT L k ↔ x ∈ L ∧ x.k ≠ k := by simp [dropT]
theorem risesK_drop {L : List Ln} (h : RisesK L) (k : Ky) : RisesK (dropT L k) := List.Pairwise.filter _ h
theorem dropT_none {L : List Ln} {k : Ky} (h : ∀ x ∈ L, x.k ≠ k) : dropT L k = L := by
  unfold dropT
  rw [List.filter_eq_self]
  intro x hx
  simp [h x hx]
theorem mem_putT {L : List Ln} {x y : Ln} : y ∈ putT L x ↔ y = x ∨ y ∈ L := by
  induction L with
  | nil => simp [putT]
  | cons a L ih =>
    unfold putT
    split
    · simp
    · rw [List.mem_cons, ih, List.mem_cons]
      constructor
      · rintro (h | h | h)
        · exact .inr (.inl h)
        · exact .inl h
        · exact .inr (.inr h)
      · rintro (h | h | h)
        · exact .inr (.inl h)
        · exact .inl h
        · exact .inr (.inr h)
theorem putT_len (L : List Ln) (x : Ln) : (putT L x).length = L.length + 1 := by
  induction L with
  | nil => rfl
  | cons a L ih =>
    unfold putT
    split
    · rfl
    · rw [List.length_cons, List.length_cons, ih]
theorem risesK_put {L : List Ln} (h : RisesK L) {x : Ln} (hx : ∀ a ∈ L, a.k ≠ x.k) : RisesK (putT L x) := by
  induction L with
  | nil => exact List.pairwise_singleton _ _
  | cons a L ih =>
    obtain ⟨h1, h2⟩ := List.pairwise_cons.1 h
    unfold putT
    split
    · rename_i hl
      refine List.pairwise_cons.2 ⟨fun b hb => ?_, h⟩
      rcases List.mem_cons.1 hb with rfl | hb
      · exact hl
      · exact lessK_trans hl (h1 b hb)
    · rename_i hl
      refine List.pairwise_cons.2 ⟨fun b hb => ?_, ih h2 (fun b hb => hx b (List.mem_cons_of_mem _ hb))⟩
      rcases mem_putT.1 hb with rfl | hb
      · rcases lessK_tri a.k b.k with h3 | h3 | h3
        · exact h3
        · exact absurd h3 (hx a (by simp))
        · exact absurd h3 hl
      · exact h1 b hb
theorem risesK_set {L : List Ln} (h : RisesK L) (x : Ln) : RisesK (setT L x) := risesK_put (risesK_drop h _) fun _ ha => (mem_dropT.1 ha).2
theorem mem_setT {L : List Ln} {x y : Ln} : y ∈ setT L x ↔ y = x ∨ y ∈ L ∧ y.k ≠ x.k := by
  unfold setT
  rw [mem_putT, mem_dropT]
theorem getT_set {L : List Ln} (h : RisesK L) (x : Ln) (k : Ky) : getT (setT L x) k = if x.k = k then some x else getT L k := by
  split
  · rename_i e
    exact (getT_some (risesK_set h x)).2 ⟨mem_setT.2 (.inl rfl), e⟩
  · rename_i e
    cases e2 : getT L k with
    | none =>
      refine getT_none.2 fun y hy => ?_
      rcases mem_setT.1 hy with rfl | ⟨hy, _⟩
      · exact e
      · exact getT_none.1 e2 y hy
    | some y =>
      obtain ⟨h1, h2⟩ := (getT_some h).1 e2
      exact (getT_some (risesK_set h x)).2 ⟨mem_setT.2 (.inr ⟨h1, fun e3 => e (e3.symm.trans h2)⟩), h2⟩
theorem getT_drop {L : List Ln} (h : RisesK L) (k j : Ky) : getT (dropT L k) j = if j = k then none else getT L j := by
  split
  · rename_i e
    exact getT_none.2 fun y hy => by rw [e]; exact (mem_dropT.1 hy).2
  · rename_i e
    cases e2 : getT L j with
    | none => exact getT_none.2 fun y hy => getT_none.1 e2 y (mem_dropT.1 hy).1
    | some y =>
      obtain ⟨h1, h2⟩ := (getT_some h).1 e2
      exact (getT_some (risesK_drop h k)).2 ⟨mem_dropT.2 ⟨h1, fun e3 => e (h2.symm.trans e3)⟩, h2⟩
theorem dropT_len {L : List Ln} (h : RisesK L) (k : Ky) : (dropT L k).length = if hasT L k then L.length - 1 else L.length := by
  induction L with
  | nil => rfl
  | cons a L ih =>
    obtain ⟨h1, h2⟩ := List.pairwise_cons.1 h
    rcases Classical.em (a.k = k) with e | e
    · have hn : dropT L k = L := dropT_none fun x hx => by rw [← e]; exact fun e2 => lessK_ne (h1 x hx) e2.symm
      have hh : hasT (a :: L) k = true := by simp [hasT, getT, e]
      rw [hh]
      have : dropT (a :: L) k = dropT L k := by simp [dropT, e]
      rw [this, hn]
      simp
    · have hh : hasT (a :: L) k = hasT L k := by simp [hasT, getT, e]
      have : dropT (a :: L) k = a :: dropT L k := by simp [dropT, e]
      rw [hh, this, List.length_cons, ih h2]
      split
      · rename_i h3
        have : 0 < L.length := by
          cases L with
          | nil => simp [hasT, getT] at h3
          | cons b L => simp
        simp
        omega
      · rfl
/-- The first link of a bucket past a place. q: which keys the bucket has. -/
def nextT (q : Ky → Bool) (L : List Ln) (pos : Ky) (past : Bool) : Option Ln := L.find? fun x => q x.k && (!past || Op.bytesLess pos x.k)
theorem nextT_some {q : Ky → Bool} {L : List Ln} (h : RisesK L) {pos : Ky} {past : Bool} {x : Ln} : nextT q L pos past = some x ↔
    x ∈ L ∧ q x.k = true ∧ (past = true → Op.bytesLess pos x.k = true) ∧ ∀ y ∈ L, q y.k = true → (past = true → Op.bytesLess pos y.k = true) → y = x ∨ Op.bytesLess x.k y.k = true := by
  induction L with
  | nil => simp [nextT]
  | cons a L ih =>
    obtain ⟨h1, h2⟩ := List.pairwise_cons.1 h
    have hp : ∀ z : Ln, (q z.k && (!past || Op.bytesLess pos z.k)) = true ↔ q z.k = true ∧ (past = true → Op.bytesLess pos z.k = true) := fun z => by cases past <;> simp
    unfold nextT
    rw [List.find?_cons]
    split
    · rename_i ha
      obtain ⟨p1, p2⟩ := (hp a).1 ha
      constructor
      · intro e
        obtain rfl : a = x := by simpa using e
        refine ⟨by simp, p1, p2, fun y hy _ _ => ?_⟩
        rcases List.mem_cons.1 hy with rfl | hy
        · exact .inl rfl
        · exact .inr (h1 y hy)
      · rintro ⟨hx, _, _, hm⟩
        rcases hm a (by simp) p1 p2 with e | e
        · rw [e]
        · rcases List.mem_cons.1 hx with rfl | hx
          · rfl
          · have := lessK_asym (h1 x hx)
            rw [e] at this
            cases this
    · rename_i ha
      have hna : ¬ (q a.k = true ∧ (past = true → Op.bytesLess pos a.k = true)) := fun hh => by rw [(hp a).2 hh] at ha; cases ha
      have := ih h2
      unfold nextT at this
      rw [this]
      constructor
      · rintro ⟨hx, p1, p2, hm⟩
        refine ⟨List.mem_cons_of_mem _ hx, p1, p2, fun y hy q1 q2 => ?_⟩
        rcases List.mem_cons.1 hy with rfl | hy
        · exact absurd ⟨q1, q2⟩ hna
        · exact hm y hy q1 q2
      · rintro ⟨hx, p1, p2, hm⟩
        rcases List.mem_cons.1 hx with rfl | hx
        · exact absurd ⟨p1, p2⟩ hna
        · exact ⟨hx, p1, p2, fun y hy => hm y (List.mem_cons_of_mem _ hy)⟩
theorem nextT_none {q : Ky → Bool} {L : List Ln} {pos : Ky} {past : Bool} : nextT q L pos past = none ↔ ∀ y ∈ L, ¬ (q y.k = true ∧ (past = true → Op.bytesLess pos y.k = true)) := by
  unfold nextT
  rw [List.find?_eq_none]
  constructor
  · rintro h y hy ⟨p1, p2⟩
    have h3 := h y hy
    cases past with
    | true =>
      have h4 := p2 rfl
      simp [p1, h4] at h3
    | false => simp [p1] at h3
  · intro h y hy h3
    simp only [Bool.and_eq_true, Bool.or_eq_true, Bool.not_eq_true'] at h3
    refine h y hy ⟨h3.1, fun e => ?_⟩
    rcases h3.2 with h4 | h4
    · rw [e] at h4; cases h4
    · exact h4
/-! ### Buckets -/
/-- The links of one bucket. bk: the bucket of a key. -/
def partT (bk : Ky → Nat) (L : List Ln) (b : Nat) : List Ln := L.filter fun x => bk x.k == b
theorem mem_partT {bk : Ky → Nat} {L : List Ln} {b : Nat} {x : Ln} : x ∈ partT bk L b ↔ x ∈ L ∧ bk x.k = b := by simp [partT]
theorem risesK_part {L : List Ln} (h : RisesK L) (bk : Ky → Nat) (b : Nat) : RisesK (partT bk L b) := List.Pairwise.filter _ h
theorem partT_set {L : List Ln} (h : RisesK L) (bk : Ky → Nat) (x : Ln) (b : Nat) : partT bk (setT L x) b = if bk x.k = b then setT (partT bk L b) x else partT bk L b := by
  split
  · rename_i e
    refine risesK_ext (risesK_part (risesK_set h x) bk b) (risesK_set (risesK_part h bk b) x) fun y => ?_
    rw [mem_partT, mem_setT, mem_setT, mem_partT]
    constructor
    · rintro ⟨rfl | ⟨h1, h2⟩, h3⟩
      · exact .inl rfl
      · exact .inr ⟨⟨h1, h3⟩, h2⟩
    · rintro (rfl | ⟨⟨h1, h3⟩, h2⟩)
      · exact ⟨.inl rfl, e⟩
      · exact ⟨.inr ⟨h1, h2⟩, h3⟩
  · rename_i e
    refine risesK_ext (risesK_part (risesK_set h x) bk b) (risesK_part h bk b) fun y => ?_
    rw [mem_partT, mem_setT, mem_partT]
    constructor
    · rintro ⟨rfl | ⟨h1, _⟩, h3⟩
      · exact absurd h3 e
      · exact ⟨h1, h3⟩
    · rintro ⟨h1, h3⟩
      exact ⟨.inr ⟨h1, fun e2 => e (by rw [← e2]; exact h3)⟩, h3⟩
theorem partT_drop {L : List Ln} (h : RisesK L) (bk : Ky → Nat) (k : Ky) (b : Nat) : partT bk (dropT L k) b = if bk k = b then dropT (partT bk L b) k else partT bk L b := by
  split
  · refine risesK_ext (risesK_part (risesK_drop h k) bk b) (risesK_drop (risesK_part h bk b) k) fun y => ?_
    rw [mem_partT, mem_dropT, mem_dropT, mem_partT]
    constructor
    · rintro ⟨⟨h1, h2⟩, h3⟩; exact ⟨⟨h1, h3⟩, h2⟩
    · rintro ⟨⟨h1, h3⟩, h2⟩; exact ⟨⟨h1, h2⟩, h3⟩
  · rename_i e
    refine risesK_ext (risesK_part (risesK_drop h k) bk b) (risesK_part h bk b) fun y => ?_
    rw [mem_partT, mem_dropT, mem_partT]
    constructor
    · rintro ⟨⟨h1, _⟩, h3⟩; exact ⟨h1, h3⟩
    · rintro ⟨h1, h3⟩; exact ⟨⟨h1, fun e2 => e (by rw [← e2]; exact h3)⟩, h3⟩
theorem getT_part {L : List Ln} (h : RisesK L) (bk : Ky → Nat) (k : Ky) : getT (partT bk L (bk k)) k = getT L k := by
  cases e : getT L k with
  | none => exact getT_none.2 fun y hy => getT_none.1 e y (mem_partT.1 hy).1
  | some y =>
    obtain ⟨h1, h2⟩ := (getT_some h).1 e
    exact (getT_some (risesK_part h bk _)).2 ⟨mem_partT.2 ⟨h1, by rw [h2]⟩, h2⟩
theorem nextT_part {L : List Ln} (h : RisesK L) (bk : Ky → Nat) (b : Nat) (pos : Ky) (past : Bool) : nextT (fun k => bk k == b) L pos past = nextT (fun _ => true) (partT bk L b) pos past := by
  cases e : nextT (fun k => bk k == b) L pos past with
  | none =>
    symm
    refine nextT_none.2 fun y hy hh => ?_
    obtain ⟨h1, h2⟩ := mem_partT.1 hy
    exact nextT_none.1 e y h1 ⟨by simpa using h2, hh.2⟩
  | some x =>
    obtain ⟨h1, h2, h3, h4⟩ := (nextT_some h).1 e
    symm
    refine (nextT_some (risesK_part h bk b)).2 ⟨mem_partT.2 ⟨h1, by simpa using h2⟩, rfl, h3, fun y hy _ hp => ?_⟩
    obtain ⟨g1, g2⟩ := mem_partT.1 hy
    exact h4 y g1 (by simpa using g2) hp
theorem sum_noughts (l : List Nat) : (l.map fun _ => 0).sum = 0 := by
  induction l with
  | nil => rfl
  | cons x l ih => simp only [List.map_cons, List.sum_cons, ih]
theorem sum_ind (n j : Nat) (h : j < n) : ((List.range n).map fun b => if j = b then 1 else 0).sum = 1 := by
  induction n with
  | zero => omega
  | succ n ih =>
    rw [List.range_succ, List.map_append, List.sum_append]
    rcases Nat.lt_or_ge j n with h1 | h1
    · rw [ih h1]
      have : j ≠ n := by omega
      simp [this]
    · obtain rfl : j = n := by omega
      have : ((List.range j).map fun b => if j = b then 1 else 0) = (List.range j).map fun _ => 0 := List.map_congr_left fun b hb => by
        rw [if_neg]
        have := List.mem_range.1 hb
        omega
      rw [this, sum_noughts]
      simp
/-- All buckets together have all links. -/
theorem partT_len (bk : Ky → Nat) (n : Nat) (L : List Ln) (h : ∀ x ∈ L, bk x.k < n) : ((List.range n).map fun b => (partT bk L b).length).sum = L.length := by
  induction L with
  | nil => exact sum_noughts _
  | cons a L ih =>
    have h1 := ih (fun x hx => h x (List.mem_cons_of_mem _ hx))
    have h2 := sum_ind n (bk a.k) (h a (by simp))
    have e : ((List.range n).map fun b => (partT bk (a :: L) b).length) = (List.range n).map fun b => (if bk a.k = b then 1 else 0) + (partT bk L b).length := List.map_congr_left fun b _ => by
      unfold partT
      rw [List.filter_cons]
      split
      · rename_i e2
        rw [if_pos (by simpa using e2), List.length_cons]
        omega
      · rename_i e2
        rw [if_neg (by simpa using e2)]
        omega
    rw [e, List.length_cons, ← h1]
    have hs : ∀ (l : List Nat) (f g : Nat → Nat), (l.map fun b => f b + g b).sum = (l.map f).sum + (l.map g).sum := fun l f g => by
      induction l with
      | nil => rfl
      | cons x l ih2 =>
        simp only [List.map_cons, List.sum_cons, ih2]
        omega
    rw [hs, h2]
    omega

end Go.Proofs.Ytpmgnhijiodbaaa
