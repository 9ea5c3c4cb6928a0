/-
  Proved here: elements of a slice that lie as cells, whatever their type: rows that are read, rows of the call's own, append, copy, clear.
  Conditions: rows of at most 2^20 elements.
-/
import Derived.Test.YtpmgnhijiodbaaaSetCells
import Derived.Test.YtpmgnhijiodbaaaLent
namespace Go.Proofs.Ytpmgnhijiodbaaa
open Go Go.RowKit
set_option maxRecDepth 100000

/-- How the elements of a slice lie as cells: the element's type, the slice's, the cells of one, its zero value. -/
structure Rec (α : Type) where
  tE : TypeId
  tS : TypeId
  k : Nat
  by_ : Nat
  zv : Value
  cells : α → List Value
  hk : 0 < k
  klen : ∀ x, (cells x).length = k
  one : ∀ x, ∀ u ∈ cells x, u.oneCell' = true
  und : Try.prog.underlying tS = some (.slice tE)
  info : ∃ i, Try.prog.info? tE = some i ∧ i.zero = some zv ∧ i.size = k ∧ i.bytes = by_
  zk : zv.cells.size = k
  small : by_ ≤ 4096
namespace Rec
variable {α : Type} (R : Rec α)
/-- Elements one behind the other, as cells. -/
def enc (L : List α) : List Value := L.flatMap R.cells
theorem enc_nil : R.enc [] = [] := rfl
theorem enc_cons (x : α) (L : List α) : R.enc (x :: L) = R.cells x ++ R.enc L := rfl
theorem enc_len (L : List α) : (R.enc L).length = L.length * R.k := by
  induction L with
  | nil => simp [enc]
  | cons e L ih => rw [enc_cons, List.length_append, ih, R.klen, List.length_cons, Nat.add_mul]; omega
theorem enc_append (a b : List α) : R.enc a ++ R.enc b = R.enc (a ++ b) := by simp [enc]
theorem enc_one {L : List α} : ∀ u ∈ R.enc L, u.oneCell' = true := by
  intro u hu
  simp only [enc, List.mem_flatMap] at hu
  obtain ⟨e, _, h⟩ := hu
  exact R.one e u h
theorem enc_at (L : List α) (rest : List Value) {i : Nat} {e : α} (h : L[i]? = some e) (j : Nat) (hj : j < R.k) : (R.enc L ++ rest)[i * R.k + j]? = (R.cells e)[j]? := by
  induction L generalizing i with
  | nil => cases h
  | cons a L ih =>
    rw [enc_cons, List.append_assoc]
    have ha : (R.cells a).length = R.k := R.klen a
    cases i with
    | zero =>
      obtain rfl : a = e := by simpa using h
      rw [Nat.zero_mul, Nat.zero_add, List.getElem?_append_left (by omega)]
    | succ i =>
      rw [List.getElem?_append_right (by rw [Nat.add_mul]; omega), ha, show (i + 1) * R.k + j - R.k = i * R.k + j by rw [Nat.add_mul]; omega]
      exact ih (by simpa using h)
theorem enc_take (l : List α) (i : Nat) : (R.enc l).take (i * R.k) = R.enc (l.take i) := by
  induction l generalizing i with
  | nil => simp [enc]
  | cons a l ih =>
    cases i with
    | zero => simp [enc]
    | succ i =>
      have ha := R.klen a
      rw [List.take_succ_cons, enc_cons, enc_cons, show (i + 1) * R.k = (R.cells a).length + i * R.k by rw [Nat.add_mul, ha]; omega, List.take_length_add_append, ih]
theorem enc_drop (l : List α) (i : Nat) : (R.enc l).drop (i * R.k) = R.enc (l.drop i) := by
  induction l generalizing i with
  | nil => simp [enc]
  | cons a l ih =>
    cases i with
    | zero => simp
    | succ i =>
      have ha := R.klen a
      rw [List.drop_succ_cons, enc_cons, show (i + 1) * R.k = (R.cells a).length + i * R.k by rw [Nat.add_mul, ha]; omega, List.drop_length_add_append, ih]
theorem take_enc (l : List α) (r : List Value) : (R.enc l ++ r).take (l.length * R.k) = R.enc l := by
  rw [← R.enc_len l]
  exact List.take_left
/-- The slice at A holds the elements l. -/
def Row (w : World) (A : Option Addr) (l : List α) : Prop :=
  l.length ≤ 1048576 ∧ (0 < l.length → ∃ b off, A = some ⟨b, off, none⟩ ∧ b < w.heap.size ∧ ∀ i e, l[i]? = some e → ∀ j u, (R.cells e)[j]? = some u → w.cell? ⟨b, off + i * R.k + j, none⟩ = some u)
theorem row_nil (w : World) (A : Option Addr) : R.Row w A [] := ⟨by simp, fun h => by simp at h⟩
variable {R}
theorem Row.below {w w' : World} {A : Option Addr} {l : List α} (h : R.Row w A l) (hb : Below w.heap.size w w') : R.Row w' A l :=
  ⟨h.1, fun hl => by
    obtain ⟨b, off, e, hlt, hc⟩ := h.2 hl
    exact ⟨b, off, e, Nat.lt_of_lt_of_le hlt hb.size, fun i t ht j u hu => (hb.cell (p := ⟨b, off + i * R.k + j, none⟩) hlt).trans (hc i t ht j u hu)⟩⟩
theorem Row.belowB {w w' : World} {A : Option Addr} {l : List α} {B : Nat} (h : R.Row w A l) (hb : Below B w w') (hA : ∀ x, 0 < l.length → A = some x → x.block < B) : R.Row w' A l :=
  ⟨h.1, fun hl => by
    obtain ⟨b, off, e, hlt, hc⟩ := h.2 hl
    have hB : b < B := hA _ hl e
    exact ⟨b, off, e, Nat.lt_of_lt_of_le hlt hb.size, fun i t ht j u hu => (hb.cell (p := ⟨b, off + i * R.k + j, none⟩) hB).trans (hc i t ht j u hu)⟩⟩
theorem Row.same {w w' : World} {A : Option Addr} {l : List α} (h : R.Row w A l) (hs : w.heap.size ≤ w'.heap.size) (hb : ∀ x, A = some x → x.block < w.heap.size → w'.heap[x.block]? = w.heap[x.block]?) : R.Row w' A l :=
  ⟨h.1, fun hl => by
    obtain ⟨b, off, e, hlt, hc⟩ := h.2 hl
    have hbl := hb ⟨b, off, none⟩ e hlt
    exact ⟨b, off, e, Nat.lt_of_lt_of_le hlt hs, fun i t ht j u hu => (World.cell?_of_block (w := w) (a := ⟨b, off + i * R.k + j, none⟩) hbl).trans (hc i t ht j u hu)⟩⟩
theorem Row.cells_at {w : World} {b off : Nat} {l : List α} (h : R.Row w (some ⟨b, off, none⟩) l) : ∀ j u, (R.enc l)[j]? = some u → w.cell? ⟨b, off + j, none⟩ = some u := by
  intro j u hu
  have hk := R.hk
  have hj : j < l.length * R.k := by rw [← R.enc_len]; exact (List.getElem?_eq_some_iff.1 hu).1
  have hl0 : 0 < l.length := by
    rcases Nat.eq_zero_or_pos l.length with h0 | h0
    · rw [h0, Nat.zero_mul] at hj; omega
    · exact h0
  obtain ⟨b2, off2, e1, _, hc⟩ := h.2 hl0
  cases e1
  have hi : j / R.k < l.length := (Nat.div_lt_iff_lt_mul hk).2 hj
  have hm : j % R.k < R.k := Nat.mod_lt _ hk
  have hdm : j / R.k * R.k + j % R.k = j := by rw [Nat.mul_comm]; exact Nat.div_add_mod j R.k
  have h1 := R.enc_at l [] (List.getElem?_eq_getElem hi) (j % R.k) hm
  rw [List.append_nil, hdm, hu] at h1
  have := hc (j / R.k) _ (List.getElem?_eq_getElem hi) (j % R.k) u h1.symm
  rwa [Nat.add_assoc, hdm] at this
theorem Row.drop {w : World} {b off : Nat} {l : List α} (h : R.Row w (some ⟨b, off, none⟩) l) (k : Nat) : R.Row w (some ⟨b, off + k * R.k, none⟩) (l.drop k) :=
  ⟨by rw [List.length_drop]; have := h.1; omega, fun hl => by
    rw [List.length_drop] at hl
    obtain ⟨b2, off2, e1, hlt, hc⟩ := h.2 (by omega)
    cases e1
    refine ⟨b, off + k * R.k, rfl, hlt, fun i e hi j u hu => ?_⟩
    rw [List.getElem?_drop] at hi
    have := hc (k + i) e hi j u hu
    rwa [show off + k * R.k + i * R.k + j = off + (k + i) * R.k + j by rw [Nat.add_mul]; omega]⟩
theorem Row.take {w : World} {A : Option Addr} {l : List α} (h : R.Row w A l) (k : Nat) : R.Row w A (l.take k) :=
  ⟨by rw [List.length_take]; have := h.1; omega, fun hl => by
    rw [List.length_take] at hl
    obtain ⟨b, off, e1, hlt, hc⟩ := h.2 (by omega)
    refine ⟨b, off, e1, hlt, fun i e hi => hc i e ?_⟩
    rw [List.getElem?_take] at hi
    split at hi
    · exact hi
    · cases hi⟩
/-- A row of the call's own, at its form. -/
theorem row_of_own {w : World} {base n : Nat} {v : Value} {l : List α} (h : w.ownsRow base R.tE R.k v n (R.enc l)) (hl : l.length ≤ 1048576) : l.length = n ∧ ∃ A cap, v = .slice A n cap ∧ n ≤ cap ∧ cap ≤ maxLen ∧ R.Row w A l ∧ (A = none → n = 0 ∧ cap = 0) ∧ ∀ x, A = some x → base ≤ x.block ∧ x.block < w.heap.size ∧ x = ⟨x.block, 0, none⟩ ∧ v.ownBlock = some x.block := by
  have hn : l.length = n := by have := h.1; rw [enc_len] at this; exact Nat.eq_of_mul_eq_mul_right R.hk this
  refine ⟨hn, ?_⟩
  rcases h.2 with ⟨e, e0⟩ | ⟨g, cap, cur, e, hge, hh, hc, hm, _⟩
  · have h0 : l = [] := List.eq_nil_of_length_eq_zero (by omega)
    subst h0
    exact ⟨none, 0, by rw [e, e0], by omega, by unfold maxLen; omega, R.row_nil _ _, fun _ => ⟨e0, rfl⟩, fun x hx => by cases hx⟩
  · refine ⟨_, _, e, hc, hm, ⟨hl, fun hpos => ⟨g, 0, rfl, lt_of_heap hh, fun i t ht j u hu => ?_⟩⟩, (fun h => by cases h), (fun x hx => by cases hx; exact ⟨hge, lt_of_heap hh, rfl, by rw [e]; rfl⟩)⟩
    have hj : j < R.k := by rw [← R.klen t]; exact (List.getElem?_eq_some_iff.1 hu).1
    have h1 := R.enc_at l [] ht j hj
    rw [List.append_nil, hu] at h1
    have h2 := h.cells (g := g) (by rw [e]; rfl) (i * R.k + j) u h1
    rw [add_plain] at h2
    rwa [Nat.zero_add] at h2 ⊢
variable (R)
theorem fits {n : Nat} (h : n ≤ 1048576) : n * R.by_ ≤ 140737488355328 :=
  Nat.le_trans (Nat.mul_le_mul h R.small) (by omega)
/-- Elements put behind a row that is owned; where there are none nothing turns. -/
theorem run_app (w : World) (base n : Nat) (v : Value) (l : List α) (hown : w.ownsRow base R.tE R.k v n (R.enc l)) (A : Option Addr) (m c : Nat) (l' : List α) (hm : l'.length = m) (hr : R.Row w A l') (hA : A = none → c = 0) (hl : n + m ≤ 1048576) (hbase : base ≤ w.heap.size) (ty : TypeId) :
    ∃ v' w', (Builtin.append_ #[R.tS, R.tS] ty #[v, .slice A m c]).run Try.prog w = .ok v' w' ∧ w'.ownsRow base R.tE R.k v' (n + m) (R.enc (l ++ l')) ∧ w.grownBy w' v.ownBlock ∧ (v'.ownBlock = v.ownBlock ∨ v'.ownBlock = some w.heap.size) ∧ (v' = .slice none 0 0 ↔ v = .slice none 0 0 ∧ m = 0) := by
  obtain ⟨i, hi, hz, hs, hy⟩ := R.info
  cases A with
  | none =>
    obtain rfl := hA rfl
    have h0 : l' = [] := by
      rcases Nat.eq_zero_or_pos l'.length with h | h
      · exact List.eq_nil_of_length_eq_zero h
      · obtain ⟨_, _, e, _⟩ := hr.2 h
        cases e
    subst h0
    obtain rfl : m = 0 := by simpa using hm.symm
    refine ⟨v, w, run_append_owned_none (P := Try.prog) w base R.tS ty R.tE i R.k R.und hi v n (R.enc l) hown, by rw [List.append_nil]; exact hown, ⟨rfl, rfl, rfl, Nat.le_refl _, fun _ _ _ => rfl⟩, .inl rfl, by simp⟩
  | some a =>
    have hnews : ∀ j u, (R.enc l')[j]? = some u → w.cell? (a.add j) = some u := fun j u hu => by
      have hj : j < l'.length * R.k := by rw [← R.enc_len]; exact (List.getElem?_eq_some_iff.1 hu).1
      have hl0 : 0 < l'.length := by
        rcases Nat.eq_zero_or_pos l'.length with h0 | h0
        · rw [h0, Nat.zero_mul] at hj; omega
        · exact h0
      obtain ⟨b, off, e1, _, _⟩ := hr.2 hl0
      cases e1
      rw [add_plain]
      exact hr.cells_at j u hu
    obtain ⟨v', w', h1, h2, h3, h5, h4⟩ := run_append_own_at (P := Try.prog) w base R.tS ty R.tE i _ R.k R.by_ R.und hi hz hs hy R.zk R.hk v n (R.enc l) hown a m c (R.enc l') (by rw [R.enc_len, hm]) hnews R.enc_one (by unfold maxLen; omega) (R.fits hl) hbase
    exact ⟨v', w', h1, by rw [← R.enc_append]; exact h2, h3, h4, h5⟩
/-- An element that has just been laid: a row of one. -/
theorem row_one {w : World} {b : Nat} {x : α} (h : w.heap[b]? = some (.cells (R.cells x).toArray R.tE (0, 0))) : R.Row w (some ⟨b, 0, none⟩) [x] :=
  ⟨by simp, fun _ => ⟨b, 0, rfl, lt_of_heap h, fun i e hi j u hu => by
    obtain rfl : i = 0 := by have := (List.getElem?_eq_some_iff.1 hi).1; simp at this; omega
    obtain rfl : x = e := by simpa using hi
    rw [Nat.zero_mul, Nat.zero_add]
    simp [World.cell?, h, hu]⟩⟩
/-- One element put behind a row that is owned. -/
theorem run_app_one (w : World) (base n : Nat) (v : Value) (l : List α) (x : α) (hown : w.ownsRow base R.tE R.k v n (R.enc l)) (hl : n < 1048576) (hbase : base ≤ w.heap.size) (ty : TypeId) :
    ∃ v' w', (Builtin.append_ #[R.tS, R.tS] ty #[v, .slice (some ⟨w.heap.size, 0, none⟩) 1 1]).run Try.prog (w.alloc (.cells (R.cells x).toArray R.tE)) = .ok v' w' ∧ w'.ownsRow base R.tE R.k v' (n + 1) (R.enc (l ++ [x])) ∧ w.grownBy w' v.ownBlock ∧ (v'.ownBlock = v.ownBlock ∨ v'.ownBlock = some (w.heap.size + 1)) ∧ v' ≠ .slice none 0 0 := by
  obtain ⟨v', w', h1, h2, h3, h4, h5⟩ := R.run_app (w.alloc (.cells (R.cells x).toArray R.tE)) base n v l (own_alloc hown _) (some ⟨w.heap.size, 0, none⟩) 1 1 [x] rfl (R.row_one (heap_alloc_new w _)) (fun h => by cases h) (by omega) (by simp; omega) ty
  exact ⟨v', w', h1, h2, (World.grownBy_alloc w _ _).trans h3, by simpa using h4, fun e => by have := (h5.1 e).2; omega⟩
variable {R}
/-- A row is what its block holds. -/
theorem own_block {w : World} {g n cap B : Nat} {l : List α} (h : w.ownsRow B R.tE R.k (.slice (some ⟨g, 0, none⟩) n cap) n (R.enc l)) : ∃ cur, w.heap[g]? = some (.cells cur R.tE (0, 0)) ∧ n ≤ cap ∧ cap ≤ maxLen ∧ cur.size = cap * R.k ∧ cur.toList.take (n * R.k) = R.enc l ∧ B ≤ g := by
  rcases h.2 with ⟨e, _⟩ | ⟨g2, c2, cur, e, hb, h1, h2, h3, h4, h5⟩
  · cases e
  · cases e
    exact ⟨cur, h1, h2, h3, h4, h5, hb⟩
theorem block_own {w : World} {g n cap B : Nat} {l : List α} {cur : Array Value} (hb : w.heap[g]? = some (.cells cur R.tE (0, 0))) (h1 : n ≤ cap) (h2 : cap ≤ maxLen) (h3 : cur.size = cap * R.k) (h4 : cur.toList.take (n * R.k) = R.enc l) (hB : B ≤ g) : w.ownsRow B R.tE R.k (.slice (some ⟨g, 0, none⟩) n cap) n (R.enc l) := by
  refine ⟨?_, .inr ⟨g, cap, cur, rfl, hB, hb, h1, h2, h3, h4⟩⟩
  rw [← h4, List.length_take]
  have : cur.toList.length = cap * R.k := by rw [Array.length_toList, h3]
  have : n * R.k ≤ cap * R.k := Nat.mul_le_mul_right _ h1
  omega
/-- What is written behind a row turns none of it. -/
theorem own_behind {w : World} {g n cap o B : Nat} {l : List α} (h : w.ownsRow B R.tE R.k (.slice (some ⟨g, 0, none⟩) n cap) n (R.enc l)) (vs : List Value) (ho : n * R.k ≤ o) (hv : o + vs.length ≤ cap * R.k) : (w.setCells g o vs).ownsRow B R.tE R.k (.slice (some ⟨g, 0, none⟩) n cap) n (R.enc l) := by
  obtain ⟨cur, h1, h2, h3, h4, h5, hB⟩ := own_block h
  obtain ⟨cur', e1, e2, e3⟩ := heap_setCells _ g vs o w cur h1 (by omega)
  refine block_own e1 h2 h3 (e3.trans h4) ?_ hB
  rw [e2, List.append_assoc, List.take_append_of_le_length (by rw [List.length_take, Array.length_toList]; omega), List.take_take, Nat.min_eq_left ho, h5]
theorem own_take {w : World} {g n cap B : Nat} {l : List α} (h : w.ownsRow B R.tE R.k (.slice (some ⟨g, 0, none⟩) n cap) n (R.enc l)) {i : Nat} (hi : i ≤ n) : w.ownsRow B R.tE R.k (.slice (some ⟨g, 0, none⟩) i cap) i (R.enc (l.take i)) := by
  obtain ⟨cur, h1, h2, h3, h4, h5, hB⟩ := own_block h
  refine block_own h1 (Nat.le_trans hi h2) h3 h4 ?_ hB
  rw [← R.enc_take, ← h5, List.take_take, Nat.min_eq_left (Nat.mul_le_mul_right _ hi)]
/-- One element of an owned row written over, cell by cell or whole. -/
theorem own_set {w : World} {g n cap B i : Nat} {l : List α} (h : w.ownsRow B R.tE R.k (.slice (some ⟨g, 0, none⟩) n cap) n (R.enc l)) (hn : l.length = n) (hi : i < n) (x : α) : (w.setCells g (i * R.k) (R.cells x)).ownsRow B R.tE R.k (.slice (some ⟨g, 0, none⟩) n cap) n (R.enc (l.set i x)) := by
  obtain ⟨cur, h1, h2, h3, h4, h5, hB⟩ := own_block h
  have hk := R.klen x
  have hik : i * R.k + R.k ≤ n * R.k := by rw [← Nat.succ_mul]; exact Nat.mul_le_mul_right _ hi
  have hnc : n * R.k ≤ cap * R.k := Nat.mul_le_mul_right _ h2
  obtain ⟨cur', e1, e2, e3⟩ := heap_setCells _ g (R.cells x) (i * R.k) w cur h1 (by omega)
  refine block_own e1 h2 h3 (e3.trans h4) ?_ hB
  have hcl : cur.toList.length = cap * R.k := by rw [Array.length_toList]; exact h4
  have ht : cur.toList.take (i * R.k) = R.enc (l.take i) := by rw [← R.enc_take, ← h5, List.take_take, Nat.min_eq_left (by omega)]
  have hd : (cur.toList.take (n * R.k)).drop ((i + 1) * R.k) = R.enc (l.drop (i + 1)) := by rw [h5, R.enc_drop]
  have hs : l.set i x = l.take i ++ x :: l.drop (i + 1) := by rw [List.set_eq_take_append_cons_drop, if_pos (by omega)]
  rw [e2, hs, ← R.enc_append, R.enc_cons, ht, ← hd, hk]
  rw [show (i + 1) * R.k = i * R.k + R.k by rw [Nat.add_mul]; omega]
  rw [← List.append_assoc, List.take_append, List.take_of_length_le (by rw [List.length_append, R.enc_len, List.length_take, hk, Nat.min_eq_left (by omega)]; omega)]
  congr 1
  rw [List.length_append, R.enc_len, List.length_take, hk, Nat.min_eq_left (by omega), List.take_drop]
  congr 2
  omega
/-- A copy into a row. -/
theorem run_copy (R : Rec α) (w : World) (ty : TypeId) (g o dLen dCap : Nat) (a : Addr) (sLen sCap : Nat) (cs : List Value) (cur : Array Value) (h : w.heap[g]? = some (.cells cur R.tE (0, 0)))
    (hn : cs.length = Nat.min sLen dLen * R.k) (hsrc : ∀ j v, cs[j]? = some v → w.cell? (a.add j) = some v) (ho : o + cs.length ≤ cur.size) (h1 : ∀ v ∈ cs, v.oneCell' = true) :
    (Builtin.copy_ #[R.tS, R.tS] ty #[.slice (some ⟨g, o, none⟩) dLen dCap, .slice (some a) sLen sCap]).run Try.prog w = .ok (goInt (Nat.min sLen dLen : Nat)) (w.setCells g o cs) := by
  obtain ⟨i, hi, _, hs, _⟩ := R.info
  have hu : Try.prog.underlying R.tS = some (.slice R.tE) := R.und
  have hl := run_loadCells_list (P := Try.prog) w a cs hsrc
  have hst := run_storeCells_cells (P := Try.prog) g o cs 0 w (by intro j hj; simpa using cell_some h (j := o + j) (by omega)) (by intro j hj; simp [World.frozen?, h]) h1
  rw [hn] at hl
  simp [Builtin.copy_, run_underlying hu, Builtin.lenOf, Builtin.firstCells, sizeOf, typeInfo, hi, hs, hl, hst]
/-- The last places of a row cleared: m of them. -/
theorem run_clear (R : Rec α) (hz0 : ∀ w, (zeroValue R.tE).run Try.prog w = .ok R.zv w) (hz1 : ∀ u ∈ R.zv.cells.toList, u.oneCell' = true) (w : World) (ty : TypeId) (g o m c : Nat) (cur : Array Value) (h : w.heap[g]? = some (.cells cur R.tE (0, 0))) (ho : o + m * R.k ≤ cur.size) :
    ∃ vs : List Value, vs.length = m * R.k ∧ (Builtin.clear_ #[R.tS] ty #[.slice (some ⟨g, o, none⟩) m c]).run Try.prog w = .ok (.tuple #[]) (w.setCells g o vs) := by
  have hu : Try.prog.underlying R.tS = some (.slice R.tE) := R.und
  rcases m with _ | m
  · exact ⟨[], by simp, by simp [Builtin.clear_, run_underlying hu, World.setCells]⟩
  obtain ⟨vs, hvs⟩ : ∃ vs, (Builtin.zeroCells R.zv.cells (m + 1)).toList = vs := ⟨_, rfl⟩
  have hl : vs.length = (m + 1) * R.k := by rw [← hvs, Array.length_toList, size_zeroCells, R.zk]
  have h1 : ∀ v ∈ vs, v.oneCell' = true := by
    intro v hv
    rw [← hvs] at hv
    simp only [Builtin.zeroCells, Array.toList_map, List.mem_map] at hv
    obtain ⟨i, _, rfl⟩ := hv
    have hlt : i % R.zv.cells.size < R.zv.cells.size := Nat.mod_lt _ (by rw [R.zk]; exact R.hk)
    rw [getElem!_pos R.zv.cells _ hlt]
    exact hz1 _ (by simp)
  have hst := run_storeCells_cells (P := Try.prog) g o vs 0 w (by intro j hj; simpa using cell_some h (j := o + j) (by omega)) (by intro j hj; simp [World.frozen?, h]) h1
  simp only [Nat.add_zero] at hst
  exact ⟨vs, hl, by simp [Builtin.clear_, run_underlying hu, hz0, hvs, hst]⟩
end Rec

end Go.Proofs.Ytpmgnhijiodbaaa
