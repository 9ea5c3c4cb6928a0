/-
  Proved here, joined: BagMath, BagMem, BagA, StepApp
  Conditions: as each part says.
-/
import Derived.Test.YtlghphccmgmomaaGreatJN2
import Derived.Test.YtlghphccmgmomaaGreatJN1
import Derived.Test.YtlghphccmgmomaaGreatJN15
import Derived.Maps.AppendAt
import Derived.Laws.OwnMore
import Derived.Test.YtlghphccmgmomaaGreatJN16
import Derived.Deep.QuietTactic
import Derived.BigQuiet
import Derived.IntWalk
import Derived.WalkSmall
import Derived.ChangeKeysEq
import Derived.StillTailTactics
import Derived.Lib.SliceRun
import Derived.Deep.RegionLaw

/-
  Proved here: what a bag of entries is, as a list: what may be put in, the first ready one, what is left behind it, that rising epochs go out in order.
  Conditions: none.
-/
namespace Go.Proofs.YtlghphccmgmomaaGreat
open Go Go.RowKit
set_option maxRecDepth 100000

/-! ### Entries and bags -/
/-- An entry: its line, its class, both epochs of its unlinking, its anti. -/
structure En where
  line : Int
  cl : Int
  r : Nat
  d : Nat
  anti : Int
def En.cells (e : En) : List Value := [.int .i64 e.line, .int .i64 e.cl, .int .u64 (e.r : Nat), .int .u64 (e.d : Nat), .int .i64 e.anti]
def En.zero : En := ⟨0, 0, 0, 0, 0⟩
def En.bad (e : En) : Prop := e.line < 2 ∨ 258 ≤ e.line ∨ e.cl < 0 ∨ 3 < e.cl ∨ e.anti < -1 ∨ 258 ≤ e.anti
instance (e : En) : Decidable e.bad := inferInstanceAs (Decidable (_ ∨ _))
/-- Entries one behind the other, as cells. -/
def encE (L : List En) : List Value := L.flatMap En.cells
theorem encE_len (L : List En) : (encE L).length = L.length * 5 := by
  induction L with
  | nil => rfl
  | cons e L ih => simp only [encE, List.flatMap_cons, List.length_append, List.length_cons] at ih ⊢; rw [ih]; simp [En.cells]; omega
theorem encE_append (a b : List En) : encE a ++ encE b = encE (a ++ b) := by simp [encE]
theorem encE_at (L : List En) (rest : List Value) {i : Nat} {e : En} (h : L[i]? = some e) (j : Nat) (hj : j < 5) : (encE L ++ rest)[i * 5 + j]? = e.cells[j]? := by
  induction L generalizing i with
  | nil => cases h
  | cons a L ih =>
    simp only [encE, List.flatMap_cons, List.append_assoc]
    have ha : a.cells.length = 5 := rfl
    cases i with
    | zero =>
      obtain rfl : a = e := by simpa using h
      rw [Nat.zero_mul, Nat.zero_add, List.getElem?_append_left (by omega)]
    | succ i =>
      rw [List.getElem?_append_right (by omega), ha, show (i + 1) * 5 + j - 5 = i * 5 + j by omega]
      exact ih (by simpa using h)
theorem encE_one {L : List En} : ∀ u ∈ encE L, u.oneCell' = true := by
  intro u hu
  simp only [encE, List.mem_flatMap] at hu
  obtain ⟨e, _, h⟩ := hu
  simp only [En.cells, List.mem_cons, List.not_mem_nil, or_false] at h
  rcases h with rfl | rfl | rfl | rfl | rfl <;> rfl
def putE (L : List En) (e : En) : Int := if e.bad then 1 else if 258 ≤ L.length then 11 else 0
def putB (L : List En) (e : En) : List En := if putE L e = 0 then L ++ [e] else L
theorem putE_ok {L : List En} {e : En} : putE L e = 0 ↔ ¬ e.bad ∧ L.length < 258 := by
  unfold putE
  rcases Classical.em e.bad with h | h
  · rw [if_pos h]; simp [h]
  · rw [if_neg h]
    rcases Nat.lt_or_ge L.length 258 with h1 | h1
    · rw [if_neg (by omega)]; simp [h, h1]
    · rw [if_pos h1]; simp; omega
end Go.Proofs.YtlghphccmgmomaaGreat

/-
  Proved here: how entries and a bag of them lie in memory; entries put behind a row.
  Conditions: rows of at most 2^20 entries.
-/
namespace Go.Proofs.YtlghphccmgmomaaGreat
open Go Go.RowKit
set_option maxRecDepth 100000

/-! ### Entries in memory -/
def En.agg (e : En) : Value := .agg e.cells.toArray
theorem entry_info : (Tryz.prog.info? 34).map (fun i => (i.zero, i.size, i.bytes)) = some (some (.agg #[.int .i64 0, .int .i64 0, .int .u64 0, .int .u64 0, .int .i64 0]), 5, 40) := by kernel_rfl
theorem entry_info' : ∃ i, Tryz.prog.info? 34 = some i ∧ i.zero = some (.agg #[.int .i64 0, .int .i64 0, .int .u64 0, .int .u64 0, .int .i64 0]) ∧ i.size = 5 ∧ i.bytes = 40 := by
  obtain ⟨i, h1, h2⟩ := Option.map_eq_some_iff.1 entry_info
  simp only [Prod.mk.injEq] at h2
  exact ⟨i, h1, h2.1, h2.2.1, h2.2.2⟩
theorem size_entry : (Tryz.prog.info? 34).map (·.size) = some 5 := by
  obtain ⟨i, h1, h2⟩ := Option.map_eq_some_iff.1 entry_info
  simp only [Prod.mk.injEq] at h2
  rw [h1]
  simp [h2.2.1]
/-- The slice at A holds the entries l. -/
def RowE (w : World) (A : Option Addr) (l : List En) : Prop :=
  l.length ≤ 1048576 ∧ (0 < l.length → ∃ b off, A = some ⟨b, off, none⟩ ∧ b < w.heap.size ∧ ∀ i e, l[i]? = some e → ∀ j u, e.cells[j]? = some u → w.cell? ⟨b, off + i * 5 + j, none⟩ = some u)
theorem rowE_nil (w : World) (A : Option Addr) : RowE w A [] := ⟨by simp, fun h => by simp at h⟩
theorem RowE.below {w w' : World} {A : Option Addr} {l : List En} (h : RowE w A l) (hb : Below w.heap.size w w') : RowE w' A l :=
  ⟨h.1, fun hl => by
    obtain ⟨b, off, e, hlt, hc⟩ := h.2 hl
    exact ⟨b, off, e, Nat.lt_of_lt_of_le hlt hb.size, fun i t ht j u hu => (hb.cell (p := ⟨b, off + i * 5 + j, none⟩) hlt).trans (hc i t ht j u hu)⟩⟩
theorem RowE.same {w w' : World} {A : Option Addr} {l : List En} (h : RowE w A l) (hs : w.heap.size ≤ w'.heap.size) (hb : ∀ x, A = some x → w'.heap[x.block]? = w.heap[x.block]?) : RowE w' A l :=
  ⟨h.1, fun hl => by
    obtain ⟨b, off, e, hlt, hc⟩ := h.2 hl
    have hbl := hb ⟨b, off, none⟩ e
    exact ⟨b, off, e, Nat.lt_of_lt_of_le hlt hs, fun i t ht j u hu => (World.cell?_of_block (w := w) (a := ⟨b, off + i * 5 + j, none⟩) hbl).trans (hc i t ht j u hu)⟩⟩
/-- The five cells of one entry. -/
theorem RowE.at_ {w : World} {A : Option Addr} {l : List En} (h : RowE w A l) {i : Nat} {e : En} (hi : l[i]? = some e) : ∃ b off, A = some ⟨b, off, none⟩ ∧ b < w.heap.size ∧
    w.cell? ⟨b, off + i * 5, none⟩ = some (.int .i64 e.line) ∧ w.cell? ⟨b, off + i * 5 + 1, none⟩ = some (.int .i64 e.cl) ∧ w.cell? ⟨b, off + i * 5 + 2, none⟩ = some (.int .u64 (e.r : Nat)) ∧
    w.cell? ⟨b, off + i * 5 + 3, none⟩ = some (.int .u64 (e.d : Nat)) ∧ w.cell? ⟨b, off + i * 5 + 4, none⟩ = some (.int .i64 e.anti) := by
  obtain ⟨b, off, e1, hlt, hc⟩ := h.2 (by have := (List.getElem?_eq_some_iff.1 hi).1; omega)
  exact ⟨b, off, e1, hlt, hc i e hi 0 _ rfl, hc i e hi 1 _ rfl, hc i e hi 2 _ rfl, hc i e hi 3 _ rfl, hc i e hi 4 _ rfl⟩
theorem RowE.cells_at {w : World} {b off : Nat} {l : List En} (h : RowE w (some ⟨b, off, none⟩) l) : ∀ j u, (encE l)[j]? = some u → w.cell? ⟨b, off + j, none⟩ = some u := by
  intro j u hu
  have hj : j < l.length * 5 := by rw [← encE_len]; exact (List.getElem?_eq_some_iff.1 hu).1
  obtain ⟨b2, off2, e1, _, hc⟩ := h.2 (by omega)
  cases e1
  have hi : j / 5 < l.length := by omega
  have h1 := encE_at l [] (List.getElem?_eq_getElem hi) (j % 5) (by omega)
  rw [List.append_nil, show j / 5 * 5 + j % 5 = j by omega, hu] at h1
  have := hc (j / 5) _ (List.getElem?_eq_getElem hi) (j % 5) u h1.symm
  rwa [show off + j / 5 * 5 + j % 5 = off + j by omega] at this
theorem RowE.drop {w : World} {b off : Nat} {l : List En} (h : RowE w (some ⟨b, off, none⟩) l) (k : Nat) : RowE w (some ⟨b, off + k * 5, none⟩) (l.drop k) :=
  ⟨by rw [List.length_drop]; have := h.1; omega, fun hl => by
    rw [List.length_drop] at hl
    obtain ⟨b2, off2, e1, hlt, hc⟩ := h.2 (by omega)
    cases e1
    refine ⟨b, off + k * 5, rfl, hlt, fun i e hi j u hu => ?_⟩
    rw [List.getElem?_drop] at hi
    have := hc (k + i) e hi j u hu
    rwa [show off + k * 5 + i * 5 + j = off + (k + i) * 5 + j by omega]⟩
theorem RowE.take {w : World} {A : Option Addr} {l : List En} (h : RowE w A l) (k : Nat) : RowE w A (l.take k) :=
  ⟨by rw [List.length_take]; have := h.1; omega, fun hl => by
    rw [List.length_take] at hl
    obtain ⟨b, off, e1, hlt, hc⟩ := h.2 (by omega)
    refine ⟨b, off, e1, hlt, fun i e hi => hc i e ?_⟩
    rw [List.getElem?_take] at hi
    split at hi
    · exact hi
    · cases hi⟩
theorem rowE_of_own {w : World} {base n : Nat} {v : Value} {l : List En} (h : w.ownsRow base 34 5 v n (encE l)) (hl : l.length ≤ 1048576) : l.length = n ∧ ∃ A cap, v = .slice A n cap ∧ n ≤ cap ∧ RowE w A l ∧ (A = none → n = 0 ∧ cap = 0) ∧ ∀ x, A = some x → base ≤ x.block ∧ x = ⟨x.block, 0, none⟩ ∧ v.ownBlock = some x.block := by
  have hn : l.length = n := by have := h.1; rw [encE_len] at this; omega
  refine ⟨hn, ?_⟩
  rcases h.2 with ⟨e, e0⟩ | ⟨g, cap, cur, e, hge, hh, hc, _⟩
  · have h0 : l = [] := List.eq_nil_of_length_eq_zero (by omega)
    subst h0
    exact ⟨none, 0, by rw [e, e0], by omega, rowE_nil _ _, fun _ => ⟨e0, rfl⟩, fun x hx => by cases hx⟩
  · refine ⟨_, _, e, hc, ⟨hl, fun hpos => ⟨g, 0, rfl, lt_of_heap hh, fun i t ht j u hu => ?_⟩⟩, (fun h => by cases h), (fun x hx => by cases hx; exact ⟨hge, rfl, by rw [e]; rfl⟩)⟩
    have hj5 : j < 5 := (List.getElem?_eq_some_iff.1 hu).1
    have h1 := encE_at l [] ht j hj5
    rw [List.append_nil, hu] at h1
    have h2 := h.cells (g := g) (by rw [e]; rfl) (i * 5 + j) u h1
    rw [add_plain] at h2
    rwa [Nat.zero_add] at h2 ⊢
/-- Entries put behind a row that is owned; where there are none nothing turns. -/
theorem run_appE (w : World) (base : Nat) (v : Value) (l : List En) (hown : w.ownsRow base 34 5 v l.length (encE l)) (A : Option Addr) (m c : Nat) (l' : List En) (hm : l'.length = m) (hr : RowE w A l') (hA : A = none → m = 0 ∧ c = 0) (hl : l.length + m ≤ 1048576) (hbase : base ≤ w.heap.size) :
    ∃ v' w', (Builtin.append_ #[143, 143] 143 #[v, .slice A m c]).run Tryz.prog w = .ok v' w' ∧ w'.ownsRow base 34 5 v' (l ++ l').length (encE (l ++ l')) ∧ w.grownBy w' v.ownBlock ∧ (v'.ownBlock = v.ownBlock ∨ v'.ownBlock = some w.heap.size) := by
  obtain ⟨i, hi, hz, hs, hy⟩ := entry_info'
  cases A with
  | none =>
    obtain ⟨rfl, rfl⟩ := hA rfl
    have h0 : l' = [] := List.eq_nil_of_length_eq_zero hm
    subst h0
    refine ⟨v, w, run_append_owned_none (P := Tryz.prog) w base 143 143 34 i 5 Tryz.underlying143 hi v l.length (encE l) hown, by rw [List.append_nil]; exact hown, ⟨rfl, rfl, rfl, Nat.le_refl _, fun _ _ _ => rfl⟩, .inl rfl⟩
  | some a =>
    have hnews : ∀ j u, (encE l')[j]? = some u → w.cell? (a.add j) = some u := fun j u hu => by
      have hj : j < l'.length * 5 := by rw [← encE_len]; exact (List.getElem?_eq_some_iff.1 hu).1
      obtain ⟨b, off, e1, _, _⟩ := hr.2 (by omega)
      cases e1
      rw [add_plain]
      exact hr.cells_at j u hu
    obtain ⟨v', w', h1, h2, h3, _, h4⟩ := run_append_own_at (P := Tryz.prog) w base 143 143 34 i _ 5 40 Tryz.underlying143 hi hz hs hy rfl (by omega) v l.length (encE l) hown a m c (encE l') (by rw [encE_len, hm]) hnews encE_one (by unfold maxLen; omega) (by omega) hbase
    exact ⟨v', w', h1, by rw [← encE_append, List.length_append, hm]; exact h2, h3, h4⟩
/-- One entry put behind a row that is owned. -/
theorem run_appE_one (w : World) (base : Nat) (v : Value) (l : List En) (e : En) (hown : w.ownsRow base 34 5 v l.length (encE l)) (hl : l.length < 1048576) (hbase : base ≤ w.heap.size) :
    ∃ v' w', (Builtin.append_ #[143, 143] 143 #[v, .slice (some ⟨w.heap.size, 0, none⟩) 1 1]).run Tryz.prog (w.alloc (.cells #[.int .i64 e.line, .int .i64 e.cl, .int .u64 (e.r : Nat), .int .u64 (e.d : Nat), .int .i64 e.anti] 34)) = .ok v' w' ∧ w'.ownsRow base 34 5 v' (l ++ [e]).length (encE (l ++ [e])) ∧ w.grownBy w' v.ownBlock ∧ (v'.ownBlock = v.ownBlock ∨ v'.ownBlock = some (w.heap.size + 1)) := by
  have hr : RowE (w.alloc (.cells #[.int .i64 e.line, .int .i64 e.cl, .int .u64 (e.r : Nat), .int .u64 (e.d : Nat), .int .i64 e.anti] 34)) (some ⟨w.heap.size, 0, none⟩) [e] :=
    ⟨by simp, fun _ => ⟨w.heap.size, 0, rfl, by simp, fun i a hi j u hu => by
      obtain rfl : i = 0 := by have := (List.getElem?_eq_some_iff.1 hi).1; simp at this; omega
      obtain rfl : e = a := by simpa using hi
      rw [show 0 + 0 * 5 + j = j by omega]
      match j, hu with
      | 0, hu => replace hu : some (Value.int .i64 e.line) = some u := hu; rw [← hu]; simp
      | 1, hu => replace hu : some (Value.int .i64 e.cl) = some u := hu; rw [← hu]; simp
      | 2, hu => replace hu : some (Value.int .u64 (e.r : Nat)) = some u := hu; rw [← hu]; simp
      | 3, hu => replace hu : some (Value.int .u64 (e.d : Nat)) = some u := hu; rw [← hu]; simp
      | 4, hu => replace hu : some (Value.int .i64 e.anti) = some u := hu; rw [← hu]; simp
      | j + 5, hu => simp [En.cells] at hu⟩⟩
  obtain ⟨v', w', h1, h2, h3, h4⟩ := run_appE _ base v l (own_alloc hown _) (some ⟨w.heap.size, 0, none⟩) 1 1 [e] rfl hr (fun h => by cases h) (by omega) (by simp; omega)
  exact ⟨v', w', h1, h2, (World.grownBy_alloc w _ _).trans h3, by simpa using h4⟩

/-! ### A bag in memory -/
/-- The bag at p, whose entries lie in a row of its own, at or beyond lo, in block q (p where there is none). D: the bag's type. -/
structure Bg (D : TypeId) (w : World) (p lo q : Nat) (L : List En) : Prop where
  most : L.length ≤ 258
  mem : ∃ v, w.heap[p]? = some (.cells #[v] D (0, 0)) ∧ w.ownsRow lo 34 5 v L.length (encE L) ∧ v.ownBlock ≠ some p ∧ v.ownBlock.getD p = q
theorem grown_below {w w' : World} {row : Option Nat} (h : Below w.heap.size w w') : w.grownBy w' row := ⟨h.os, h.tape, h.output, h.size, fun k hk _ => h.block k hk⟩
section
variable {D : TypeId} {w w' w1 : World} {p lo q : Nat} {L L' : List En}
theorem Bg.lt_p (h : Bg D w p lo q L) : p < w.heap.size := by
  obtain ⟨v, hm, _⟩ := h.mem
  exact lt_of_heap hm
theorem Bg.lt_q (h : Bg D w p lo q L) : q < w.heap.size := by
  obtain ⟨v, hm, ho, _, rfl⟩ := h.mem
  cases hv : v.ownBlock with
  | none => exact lt_of_heap hm
  | some k => exact (ho.lt k hv).2
theorem Bg.same (h : Bg D w p lo q L) (hp : w'.heap[p]? = w.heap[p]?) (hq : w'.heap[q]? = w.heap[q]?) : Bg D w' p lo q L := by
  obtain ⟨v, hm, ho, hne, rfl⟩ := h.mem
  refine ⟨h.most, v, hp.trans hm, ⟨ho.1, ho.2.imp id ?_⟩, hne, rfl⟩
  rintro ⟨g, cap, cur, rfl, h2, h3, h4⟩
  exact ⟨g, cap, cur, rfl, h2, Eq.trans hq h3, h4⟩
theorem Bg.below (h : Bg D w p lo q L) (hb : Below w.heap.size w w') : Bg D w' p lo q L := h.same (hb.block p h.lt_p) (hb.block q h.lt_q)
theorem Bg.turns {p' q' : Nat} (h : Bg D w p lo q L) (ht : Turns p' q' w w') (h1 : p ≠ p') (h2 : p ≠ q') (h3 : q ≠ p') (h4 : q ≠ q') : Bg D w' p lo q L := h.same (ht.block p h1 h2 h.lt_p) (ht.block q h3 h4 h.lt_q)
theorem Bg.drewN (h : Bg D w p lo q L) (k : Nat) : Bg D (w.drewN k) p lo q L := h.same rfl rfl
theorem Bg.frozen (h : Bg D w p lo q L) : w.frozen? ⟨p, 0, none⟩ = false := by
  obtain ⟨v, hm, _⟩ := h.mem
  simp [World.frozen?, hm]
theorem Bg.reads (h : Bg D w p lo q L) : ∃ A cap, L.length ≤ cap ∧ (A = none → L.length = 0 ∧ cap = 0) ∧ ∀ wx, Below w.heap.size w wx → wx.cell? ⟨p, 0, none⟩ = some (.slice A L.length cap) ∧ RowE wx A L := by
  obtain ⟨v, hm, ho, hne, _⟩ := h.mem
  obtain ⟨_, A, cap, rfl, h1, h2, h3, _⟩ := rowE_of_own ho (by have := h.most; omega)
  exact ⟨A, cap, h1, h3, fun wx hb => ⟨(hb.cell (p := ⟨p, 0, none⟩) h.lt_p).trans (by simp [World.cell?, hm]), h2.below hb⟩⟩
/-- A bag's row changed, then the bag told of it. -/
theorem Bg.step {v v' : Value} (hm : w.heap[p]? = some (.cells #[v] D (0, 0))) (hne : v.ownBlock ≠ some p) (hg : w.grownBy w1 v.ownBlock) (ho : w1.ownsRow lo 34 5 v' L'.length (encE L')) (hob : v'.ownBlock = v.ownBlock ∨ ∃ k, v'.ownBlock = some k ∧ w.heap.size ≤ k)
    (hl : L'.length ≤ 258) : ∃ q', Bg D (w1.setCell ⟨p, 0, none⟩ v') p lo q' L' ∧ Turns p (v.ownBlock.getD p) w (w1.setCell ⟨p, 0, none⟩ v') ∧ (q' = v.ownBlock.getD p ∨ w.heap.size ≤ q') := by
  have hp : p < w.heap.size := lt_of_heap hm
  have hm1 : w1.heap[p]? = some (.cells #[v] D (0, 0)) := (hg.block p hp (fun e => hne e.symm)).trans hm
  have hne' : v'.ownBlock ≠ some p := by
    rcases hob with e | ⟨k, e, hk⟩
    · rw [e]; exact hne
    · rw [e]; simp; omega
  refine ⟨v'.ownBlock.getD p, ⟨hl, v', ?_, ?_, hne', rfl⟩, ?_, ?_⟩
  · rw [heap_setCell_same w1 p 0 _ D _ hm1]
    simp
  · refine ⟨ho.1, ho.2.imp id ?_⟩
    rintro ⟨g, cap, cur, e, h2, h3, h4⟩
    refine ⟨g, cap, cur, e, h2, ?_, h4⟩
    rw [Below.heap_setCell _ _ _ _ (by intro e2; exact hne' (by rw [e]; simp only [Value.ownBlock]; rw [e2]))]
    exact h3
  · refine ⟨hg.os, hg.tape, hg.output, by simpa [World.setCell] using hg.size, fun k h1 h2 h3 => ?_⟩
    rw [Below.heap_setCell _ _ _ _ (by simpa using h1)]
    refine hg.block k h3 fun e => h2 ?_
    rw [← e]
    rfl
  · rcases hob with e | ⟨k, e, hk⟩
    · left; rw [e]
    · right; rw [e]; exact hk
end

end Go.Proofs.YtlghphccmgmomaaGreat

/-
  Proved here: what package limbo's New, Len, All, isEntry and isReady answer and leave.
  Conditions: none.
-/
namespace Go.Proofs.YtlghphccmgmomaaGreat
open Go Go.RowKit
set_option maxRecDepth 100000

abbrev BgP (w : World) (p lo q : Nat) (L : List En) : Prop := Bg 146 w p lo q L
set_option maxHeartbeats 400000 in
theorem bgnew_any (w : World) : Calls Tryz.prog 136 #[] w fun e w' => e = .returned (.pointer (some ⟨w.heap.size, 0, none⟩)) ∧ BgP w' w.heap.size w.heap.size w.heap.size [] ∧ Below w.heap.size w w' := by
  have hA : (w.alloc (.cells #[.slice none 0 0] 146)).heap[w.heap.size]? = some (.cells #[.slice none 0 0] 146 (0, 0)) := heap_alloc_new w _
  have HR : Hid (BgP (w.alloc (.cells #[.slice none 0 0] 146)) w.heap.size w.heap.size w.heap.size []) := ⟨by simp, _, hA, World.ownsRow_nil _ _ _ _, by simp [Value.ownBlock], rfl⟩
  clear hA
  go_enter Tryz.func136, Tryz.ntmps136
  go_wp2
  go_ret
  exact ⟨rfl, HR.out, (Below.refl _ _).alloc (Nat.le_refl _) _⟩
/-- What Clone leaves. -/
def RowToE (w : World) (l : List En) (e : Ending) (w' : World) : Prop := ∃ v, e = .returned v ∧ w'.ownsRow w.heap.size 34 5 v l.length (encE l) ∧ Below w.heap.size w w'
set_option maxHeartbeats 400000 in
set_option maxRecDepth 100000 in
theorem cloneE_any {w : World} {A : Option Addr} {l : List En} (n cap : Nat) (hn : l.length = n) (hr : RowE w A l) (hA : A = none → n = 0 ∧ cap = 0) : Calls Tryz.prog 130 #[.slice A n cap] w (RowToE w l) := by
  have HRU : Hid (∀ v w', w'.ownsRow w.heap.size 34 5 v l.length (encE l) → Below w.heap.size w w' → RowToE w l (.returned v) w') := fun v w' a b => ⟨v, rfl, a, b⟩
  cases A with
  | none =>
    obtain ⟨rfl, rfl⟩ := hA rfl
    have h0 : l = [] := List.eq_nil_of_length_eq_zero hn
    subst h0
    have HE := Lib.hid (HRU.out (.slice none 0 0) w (World.ownsRow_nil _ _ _ _) (Below.refl _ _))
    obtain ⟨R, hR⟩ : ∃ R, RowToE w [] = R := ⟨_, rfl⟩
    rw [hR] at HE ⊢
    clear HRU hr hA hn hR
    have hnil : (binOp .eql 143 (.slice none 0 0) (.slice none 0 0)).run Tryz.prog w = .ok (.bool true) w := Lib.run_eql_slice_nil w 143 34 none 0 0 0 0 Tryz.underlying143
    go_enter Tryz.func130, Tryz.ntmps130
    go_wp2
    exact HE.out
  | some a =>
    obtain ⟨w1, hw1⟩ : ∃ w1, w.alloc (.cells #[] 34) = w1 := ⟨_, rfl⟩
    have hb1 : Below w.heap.size w w1 := by rw [← hw1]; exact (Below.refl _ _).alloc (Nat.le_refl _) _
    have ho1 : w1.ownsRow w.heap.size 34 5 (.slice (some ⟨w.heap.size, 0, none⟩) 0 0) ([] : List En).length (encE []) := by
      rw [← hw1]
      exact World.ownsRow_made w #[] 0 (Nat.le_refl _) (by simp) (by simp)
    obtain ⟨v', w', hrun, ho, hg, _⟩ := run_appE w1 w.heap.size _ [] ho1 (some a) n cap l hn (hr.below hb1) (fun h => by cases h) (by have := hr.1; simp; omega) hb1.size
    rw [List.nil_append] at ho
    have hb2 : Below w.heap.size w w' := hb1.trans (((Below.refl _ w1)).grown hg hb1.size (fun k e => by cases e; exact Nat.le_refl _))
    have HE := Lib.hid (HRU.out v' w' ho hb2)
    have HRUN := Lib.hid hrun
    obtain ⟨R, hR⟩ : ∃ R, RowToE w l = R := ⟨_, rfl⟩
    rw [hR] at HE ⊢
    obtain ⟨_, A', cap', rfl, _⟩ := rowE_of_own ho hr.1
    have hnil : (binOp .eql 143 (.slice (some a) n cap) (.slice none 0 0)).run Tryz.prog w = .ok (.bool false) w := Lib.run_eql_slice_nil w 143 34 (some a) n cap 0 0 Tryz.underlying143
    clear HRU hr hA hn hR hb1 ho1 hrun ho hg hb2
    go_enter Tryz.func130, Tryz.ntmps130
    go_wp2_with (first
      | (at_builtin; refine wpList_app rfl (.tmp 5) (.tmp 6) 143 rfl rfl rfl HRUN.out ?_))
    exact HE.out
set_option maxHeartbeats 400000 in
theorem bgall_any {w : World} {p lo q : Nat} {L : List En} (h : BgP w p lo q L) : Calls Tryz.prog 89 #[.pointer (some ⟨p, 0, none⟩)] w (RowToE w L) := by
  obtain ⟨A, cap, _, hA, hrd⟩ := h.reads
  obtain ⟨hc, hr⟩ := hrd w (Below.refl _ _)
  have H := Lib.hid (cloneE_any L.length cap rfl hr hA)
  have HX : Hid (∀ e w', RowToE w L e w' → ∃ v, e = .returned v ∧ RowToE w L (.returned v) w') := fun e w' ⟨v, he, h1, h2⟩ => ⟨v, he, v, rfl, h1, h2⟩
  obtain ⟨R, hR⟩ : ∃ R, RowToE w L = R := ⟨_, rfl⟩
  rw [hR] at H HX ⊢
  generalize L.length = n at *
  clear h hrd hA hr hR
  go_enter Tryz.func89, Tryz.ntmps89
  go_wp2_with fail
  refine H.out.mono ?_
  rintro e w1 hh
  obtain ⟨v, rfl, hh⟩ := HX.out _ _ hh
  go_wp2
  exact hh
theorem En.ok_dec (e : En) : (!decide e.bad) = (decide (2 ≤ e.line) && decide (e.line < 258) && decide (0 ≤ e.cl) && decide (e.cl < 4) && decide (-1 ≤ e.anti) && decide (e.anti < 258)) := by
  rw [Bool.eq_iff_iff]
  simp only [Bool.not_eq_true', decide_eq_false_iff_not, Bool.and_eq_true, decide_eq_true_eq]
  unfold En.bad
  omega
set_option maxHeartbeats 800000 in
theorem isentry_any (e : En) (w : World) : Calls Tryz.prog 119 #[.agg #[.int .i64 e.line, .int .i64 e.cl, .int .u64 (e.r : Nat), .int .u64 (e.d : Nat), .int .i64 e.anti]] w fun x w' => x = .returned (.bool (!decide e.bad)) ∧ Below w.heap.size w w' := by
  rw [e.ok_dec]
  have HB : Hid (Below w.heap.size w (w.alloc (.cells #[.int .i64 e.line, .int .i64 e.cl, .int .u64 (e.r : Nat), .int .u64 (e.d : Nat), .int .i64 e.anti] 34))) := (Below.refl _ _).alloc (Nat.le_refl _) _
  generalize e.line = a at *
  generalize e.cl = b at *
  generalize e.anti = c at *
  generalize (e.r : Int) = d at *
  generalize (e.d : Int) = f at *
  clear e
  cases h0 : decide (2 ≤ a) with
  | false =>
    go_enter Tryz.func119, Tryz.ntmps119
    go_wp2
    go_ret
    exact ⟨by simp, HB.out⟩
  | true =>
    cases h1 : decide (a < 258) with
    | false =>
      go_enter Tryz.func119, Tryz.ntmps119
      go_wp2
      go_ret
      exact ⟨by simp, HB.out⟩
    | true =>
      cases h2 : decide (0 ≤ b) with
      | false =>
        go_enter Tryz.func119, Tryz.ntmps119
        go_wp2
        go_ret
        exact ⟨by simp, HB.out⟩
      | true =>
        cases h3 : decide (b < 4) with
        | false =>
          go_enter Tryz.func119, Tryz.ntmps119
          go_wp2
          go_ret
          exact ⟨by simp, HB.out⟩
        | true =>
          cases h4 : decide (-1 ≤ c) with
          | false =>
            go_enter Tryz.func119, Tryz.ntmps119
            go_wp2
            go_ret
            exact ⟨by simp, HB.out⟩
          | true =>
            cases h5 : decide (c < 258) with
            | false =>
              go_enter Tryz.func119, Tryz.ntmps119
              go_wp2
              go_ret
              exact ⟨by simp, HB.out⟩
            | true =>
              go_enter Tryz.func119, Tryz.ntmps119
              go_wp2
              go_ret
              exact ⟨by simp, HB.out⟩
end Go.Proofs.YtlghphccmgmomaaGreat

/-
  Proved here: an append whose run is known, at a step of a region that draws its order.
  Conditions: none.
-/
namespace Go.Proofs.YtlghphccmgmomaaGreat
open Go Go.RowKit
set_option maxRecDepth 100000

/-- At a step of a region that draws its order: an append whose run is known. -/
theorem step_app9 {P : Program} {ops : Array Oper} {o : Oper} {a : Act} {K : Act → World → Prop} {Q : Exit → Act → World → Prop} {E : Prop} (hgd : o.guard = none) (s x : Operand) (t : TypeId)
    (ho : o.op = .call { callee := .builtin .append, args := #[s, x], argTypes := #[t, t] }) {w w' : World} {v V v' : Value} (hs : a.eval s = v) (hx : a.eval x = V)
    (hrun : (Builtin.append_ #[t, t] o.type #[v, V]).run P w = .ok v' w') (h : K (a.put o.dst v') w') : if Region.wanted o (yielded ops a.tmps) = true then Oper.wp P o a w K Q else E := by
  have hw : Region.wanted o (yielded ops a.tmps) = true := by simp [Region.wanted, hgd]
  rw [if_pos hw]
  unfold Oper.wp execOp
  simp only [ho, resolve, invoke, builtin, Sem.run_bind, Sem.run_pure, Result.andThen_ok, List.map_toArray, List.map_cons, List.map_nil, hs, hx, hrun]
  exact h
/-- At a step of a region that draws its order: an operation that is not wanted. -/
theorem step_skip {P : Program} {ops : Array Oper} {o : Oper} {a : Act} {K : Act → World → Prop} {Q : Exit → Act → World → Prop} {w : World} (hw : Region.wanted o (yielded ops a.tmps) = false) (h : K (a.put o.dst undef) w) : if Region.wanted o (yielded ops a.tmps) = true then Oper.wp P o a w K Q else K (a.put o.dst undef) w := by
  rw [if_neg (by rw [hw]; decide)]
  exact h

end Go.Proofs.YtlghphccmgmomaaGreat
