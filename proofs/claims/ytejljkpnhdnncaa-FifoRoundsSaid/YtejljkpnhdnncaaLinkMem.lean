/-
  Proved here: links as elements of a map and as cells of a row, in memory; links put behind a row.
  Conditions: rows of at most 2^20 links.
-/
import Derived.Test.YtejljkpnhdnncaaTableMath
import Derived.Test.YtejljkpnhdnncaaOwn
import Derived.Test.YtejljkpnhdnncaaLent
import Derived.Maps.RangeWalk
import Derived.Sort.KeysCollected
import Derived.Maps.AppendAt
import Derived.Laws.OwnMore
namespace Go.Proofs.Ytejljkpnhdnncaa
open Go Go.RowKit
set_option maxRecDepth 100000

/-! ### How a link reads as an element of a map -/
def Ln.dat (x : Ln) : DataW Unit := .agg [.lit (.string x.k), .lit (.int .u64 (x.id : Nat)), .lit (.int .u64 (x.ver : Nat)), .lit (.int .i64 x.line), .lit (.int .i64 x.cl)]
def linkE : Value → Option (DataW Unit × List MemPlace)
  | .agg ⟨[.string s, .int .u64 (.ofNat a), .int .u64 (.ofNat b), .int .i64 c, .int .i64 d]⟩ => some (.agg [.lit (.string s.data.toList), .lit (.int .u64 (.ofNat a)), .lit (.int .u64 (.ofNat b)), .lit (.int .i64 c), .lit (.int .i64 d)], [])
  | _ => none
theorem linkE_mk (x : Ln) : linkE x.agg = some (x.dat, []) := rfl
theorem linkE_inv {v : Value} {y : DataW Unit × List MemPlace} (h : linkE v = some y) : ∃ x : Ln, v = x.agg ∧ y = (x.dat, []) := by
  unfold linkE at h
  split at h
  · rename_i s a b c d
    cases h
    exact ⟨⟨s.data.toList, a, b, c, d⟩, rfl, rfl⟩
  · cases h
theorem dat_inj {x y : Ln} (h : x.dat = y.dat) : x = y := by
  cases x
  cases y
  simp [Ln.dat] at h
  obtain ⟨h1, h2, h3, h4, h5⟩ := h
  simp [h1, h4, h5, Int.ofNat_inj.1 h2, Int.ofNat_inj.1 h3]
/-- Links as the datum of a map. -/
def Md (L : List Ln) : DataW Unit := .map (L.map fun x => (.string x.k, x.dat))
theorem before_str (a b : Ky) : Lit.before (.string a) (.string b) = Op.bytesLess a b := by
  show bytesBefore a b = _
  induction a generalizing b with
  | nil => cases b <;> rfl
  | cons x a ih =>
    cases b with
    | nil => rfl
    | cons y b =>
      show (decide (x < y) || (x == y && bytesBefore a b)) = (decide (x < y) || (x == y && Op.bytesLess a b))
      rw [ih]
theorem md_size (L : List Ln) : Maps.size (Md L) = L.length := by simp [Maps.size, Md]
theorem md_at (L : List Ln) (k : Ky) (z : DataW Unit) : (Md L).atKey (.string k) z = ((getT L k).map Ln.dat).getD z := by
  unfold Md getT DataW.atKey
  induction L with
  | nil => rfl
  | cons a L ih =>
    simp only [List.map_cons, List.find?_cons, Lit.sameKey]
    cases a.k == k with
    | true => rfl
    | false => exact ih
theorem md_has (L : List Ln) (k : Ky) : Maps.has (Md L) (.string k) = hasT L k := by
  show (L.map fun x => (Lit.string x.k, x.dat)).any (fun p => p.1.sameKey (.string k)) = (L.find? fun x => x.k == k).isSome
  rw [List.any_map, List.isSome_find?]
  rfl
theorem md_del (L : List Ln) (k : Ky) : (Md L).del (.string k) = Md (dropT L k) := by
  unfold Md DataW.del dropT
  simp only [List.filter_map]
  rfl
theorem md_insert (L : List Ln) (x : Ln) : DataW.insert (.string x.k, x.dat) (L.map fun x => (.string x.k, x.dat)) = (putT L x).map fun x => (.string x.k, x.dat) := by
  induction L with
  | nil => rfl
  | cons a L ih =>
    unfold putT
    simp only [List.map_cons, DataW.insert]
    rw [before_str]
    split
    · rfl
    · rw [ih]; rfl
theorem md_put (L : List Ln) (x : Ln) : (Md L).put (.string x.k) x.dat = Md (setT L x) := by
  have h := md_del L x.k
  unfold Md DataW.del at h
  unfold Md DataW.put setT
  simp only [DataW.map.injEq] at h ⊢
  rw [h, md_insert]
theorem md_keys (L : List Ln) : strKeys (Md L) = L.map Ln.k := by simp [strKeys, Md, strOf]
theorem setT_len {L : List Ln} (h : RisesK L) (x : Ln) : (setT L x).length = if hasT L x.k then L.length else L.length + 1 := by
  unfold setT
  rw [putT_len, dropT_len h]
  split
  · rename_i h1
    have : 0 < L.length := by
      cases L with
      | nil => simp [hasT, getT] at h1
      | cons b L => simp
    omega
  · rfl

/-! ### A map of links in memory -/
theorem str_law : Maps.Keyed Try.prog 9 := Maps.string_keyed Try.underlying9
/-- Block b is a map that holds the links L. -/
def MapL (w : World) (b : Nat) (L : List Ln) : Prop := w.ownsMap Try.prog 9 linkE b L.length (Md L)
theorem own_tight {w : World} {b n : Nat} {L : List Ln} (h : w.ownsMap Try.prog 9 linkE b n (Md L)) : MapL w b L := by
  obtain ⟨es, clock, hb, F, hs, hD⟩ := h
  refine ⟨es, clock, hb, F, ?_, hD⟩
  have h1 := md_size L
  rw [hD] at h1
  simp only [Maps.size] at h1
  rw [length_sorted] at h1
  simp at h1
  omega
theorem MapL.stay {w w' : World} {b : Nat} {L : List Ln} (h : MapL w b L) (hb : w'.heap[b]? = w.heap[b]?) : MapL w' b L := by
  obtain ⟨es, clock, h1, h2⟩ := h
  exact ⟨es, clock, hb.trans h1, h2⟩
theorem MapL.lt {w : World} {b : Nat} {L : List Ln} (h : MapL w b L) : b < w.heap.size := World.ownsMap.lt h
theorem mapL_new (w : World) : MapL (w.alloc (.map #[] 0)) w.heap.size [] := World.ownsMap_made _ _ _ _
theorem key_of (k : Ky) (h : k.length ≤ 1073741824) : keyOf Try.prog 9 (.string ⟨k.toArray⟩) = some (.string k) := by
  have := WideMaps.keyOf_string_mk (P := Try.prog) Try.underlying9 (s := ⟨k.toArray⟩) (by show k.toArray.size ≤ _; simp; unfold maxLen; omega)
  exact this
/-- Links one behind the other, as cells. -/
def encL (L : List Ln) : List Value := L.flatMap Ln.cells
theorem encL_len (L : List Ln) : (encL L).length = L.length * 5 := by
  induction L with
  | nil => rfl
  | cons e L ih => simp only [encL, List.flatMap_cons, List.length_append, List.length_cons] at ih ⊢; rw [ih]; simp [Ln.cells]; omega
theorem encL_append (a b : List Ln) : encL a ++ encL b = encL (a ++ b) := by simp [encL]
theorem encL_at (L : List Ln) (rest : List Value) {i : Nat} {e : Ln} (h : L[i]? = some e) (j : Nat) (hj : j < 5) : (encL L ++ rest)[i * 5 + j]? = e.cells[j]? := by
  induction L generalizing i with
  | nil => cases h
  | cons a L ih =>
    simp only [encL, List.flatMap_cons, List.append_assoc]
    have ha : a.cells.length = 5 := rfl
    cases i with
    | zero =>
      obtain rfl : a = e := by simpa using h
      rw [Nat.zero_mul, Nat.zero_add, List.getElem?_append_left (by omega)]
    | succ i =>
      rw [List.getElem?_append_right (by omega), ha, show (i + 1) * 5 + j - 5 = i * 5 + j by omega]
      exact ih (by simpa using h)
theorem encL_one {L : List Ln} : ∀ u ∈ encL L, u.oneCell' = true := by
  intro u hu
  simp only [encL, List.mem_flatMap] at hu
  obtain ⟨e, _, h⟩ := hu
  simp only [Ln.cells, List.mem_cons, List.not_mem_nil, or_false] at h
  rcases h with rfl | rfl | rfl | rfl | rfl <;> rfl
/-! ### Links in memory -/
theorem link_info : (Try.prog.info? 29).map (fun i => (i.zero, i.size, i.bytes)) = some (some (.agg #[.string ⟨#[]⟩, .int .u64 0, .int .u64 0, .int .i64 0, .int .i64 0]), 5, 48) := by kernel_rfl
theorem link_info' : ∃ i, Try.prog.info? 29 = some i ∧ i.zero = some (.agg #[.string ⟨#[]⟩, .int .u64 0, .int .u64 0, .int .i64 0, .int .i64 0]) ∧ i.size = 5 ∧ i.bytes = 48 := by
  obtain ⟨i, h1, h2⟩ := Option.map_eq_some_iff.1 link_info
  simp only [Prod.mk.injEq] at h2
  exact ⟨i, h1, h2.1, h2.2.1, h2.2.2⟩
theorem size_link : (Try.prog.info? 29).map (·.size) = some 5 := by
  obtain ⟨i, h1, h2⟩ := Option.map_eq_some_iff.1 link_info
  simp only [Prod.mk.injEq] at h2
  rw [h1]
  simp [h2.2.1]
/-- The slice at A holds the links l. -/
def RowL (w : World) (A : Option Addr) (l : List Ln) : Prop :=
  l.length ≤ 1048576 ∧ (0 < l.length → ∃ b off, A = some ⟨b, off, none⟩ ∧ b < w.heap.size ∧ ∀ i e, l[i]? = some e → ∀ j u, e.cells[j]? = some u → w.cell? ⟨b, off + i * 5 + j, none⟩ = some u)
theorem rowL_nil (w : World) (A : Option Addr) : RowL w A [] := ⟨by simp, fun h => by simp at h⟩
theorem RowL.below {w w' : World} {A : Option Addr} {l : List Ln} (h : RowL w A l) (hb : Below w.heap.size w w') : RowL w' A l :=
  ⟨h.1, fun hl => by
    obtain ⟨b, off, e, hlt, hc⟩ := h.2 hl
    exact ⟨b, off, e, Nat.lt_of_lt_of_le hlt hb.size, fun i t ht j u hu => (hb.cell (p := ⟨b, off + i * 5 + j, none⟩) hlt).trans (hc i t ht j u hu)⟩⟩
theorem RowL.same {w w' : World} {A : Option Addr} {l : List Ln} (h : RowL w A l) (hs : w.heap.size ≤ w'.heap.size) (hb : ∀ x, A = some x → w'.heap[x.block]? = w.heap[x.block]?) : RowL w' A l :=
  ⟨h.1, fun hl => by
    obtain ⟨b, off, e, hlt, hc⟩ := h.2 hl
    have hbl := hb ⟨b, off, none⟩ e
    exact ⟨b, off, e, Nat.lt_of_lt_of_le hlt hs, fun i t ht j u hu => (World.cell?_of_block (w := w) (a := ⟨b, off + i * 5 + j, none⟩) hbl).trans (hc i t ht j u hu)⟩⟩
/-- The five cells of one link. -/
theorem RowL.at_ {w : World} {A : Option Addr} {l : List Ln} (h : RowL w A l) {i : Nat} {e : Ln} (hi : l[i]? = some e) : ∃ b off, A = some ⟨b, off, none⟩ ∧ b < w.heap.size ∧
    w.cell? ⟨b, off + i * 5, none⟩ = some (.string e.str) ∧ w.cell? ⟨b, off + i * 5 + 1, none⟩ = some (.int .u64 (e.id : Nat)) ∧ w.cell? ⟨b, off + i * 5 + 2, none⟩ = some (.int .u64 (e.ver : Nat)) ∧
    w.cell? ⟨b, off + i * 5 + 3, none⟩ = some (.int .i64 e.line) ∧ w.cell? ⟨b, off + i * 5 + 4, none⟩ = some (.int .i64 e.cl) := by
  obtain ⟨b, off, e1, hlt, hc⟩ := h.2 (by have := (List.getElem?_eq_some_iff.1 hi).1; omega)
  exact ⟨b, off, e1, hlt, hc i e hi 0 _ rfl, hc i e hi 1 _ rfl, hc i e hi 2 _ rfl, hc i e hi 3 _ rfl, hc i e hi 4 _ rfl⟩
theorem RowL.cells_at {w : World} {b off : Nat} {l : List Ln} (h : RowL w (some ⟨b, off, none⟩) l) : ∀ j u, (encL l)[j]? = some u → w.cell? ⟨b, off + j, none⟩ = some u := by
  intro j u hu
  have hj : j < l.length * 5 := by rw [← encL_len]; exact (List.getElem?_eq_some_iff.1 hu).1
  obtain ⟨b2, off2, e1, _, hc⟩ := h.2 (by omega)
  cases e1
  have hi : j / 5 < l.length := by omega
  have h1 := encL_at l [] (List.getElem?_eq_getElem hi) (j % 5) (by omega)
  rw [List.append_nil, show j / 5 * 5 + j % 5 = j by omega, hu] at h1
  have := hc (j / 5) _ (List.getElem?_eq_getElem hi) (j % 5) u h1.symm
  rwa [show off + j / 5 * 5 + j % 5 = off + j by omega] at this
theorem RowL.drop {w : World} {b off : Nat} {l : List Ln} (h : RowL w (some ⟨b, off, none⟩) l) (k : Nat) : RowL w (some ⟨b, off + k * 5, none⟩) (l.drop k) :=
  ⟨by rw [List.length_drop]; have := h.1; omega, fun hl => by
    rw [List.length_drop] at hl
    obtain ⟨b2, off2, e1, hlt, hc⟩ := h.2 (by omega)
    cases e1
    refine ⟨b, off + k * 5, rfl, hlt, fun i e hi j u hu => ?_⟩
    rw [List.getElem?_drop] at hi
    have := hc (k + i) e hi j u hu
    rwa [show off + k * 5 + i * 5 + j = off + (k + i) * 5 + j by omega]⟩
theorem RowL.take {w : World} {A : Option Addr} {l : List Ln} (h : RowL w A l) (k : Nat) : RowL w A (l.take k) :=
  ⟨by rw [List.length_take]; have := h.1; omega, fun hl => by
    rw [List.length_take] at hl
    obtain ⟨b, off, e1, hlt, hc⟩ := h.2 (by omega)
    refine ⟨b, off, e1, hlt, fun i e hi => hc i e ?_⟩
    rw [List.getElem?_take] at hi
    split at hi
    · exact hi
    · cases hi⟩
theorem rowL_of_own {w : World} {base n : Nat} {v : Value} {l : List Ln} (h : w.ownsRow base 29 5 v n (encL l)) (hl : l.length ≤ 1048576) : l.length = n ∧ ∃ A cap, v = .slice A n cap ∧ n ≤ cap ∧ RowL w A l ∧ (A = none → n = 0 ∧ cap = 0) ∧ ∀ x, A = some x → base ≤ x.block ∧ x = ⟨x.block, 0, none⟩ ∧ v.ownBlock = some x.block := by
  have hn : l.length = n := by have := h.1; rw [encL_len] at this; omega
  refine ⟨hn, ?_⟩
  rcases h.2 with ⟨e, e0⟩ | ⟨g, cap, cur, e, hge, hh, hc, _⟩
  · have h0 : l = [] := List.eq_nil_of_length_eq_zero (by omega)
    subst h0
    exact ⟨none, 0, by rw [e, e0], by omega, rowL_nil _ _, fun _ => ⟨e0, rfl⟩, fun x hx => by cases hx⟩
  · refine ⟨_, _, e, hc, ⟨hl, fun hpos => ⟨g, 0, rfl, lt_of_heap hh, fun i t ht j u hu => ?_⟩⟩, (fun h => by cases h), (fun x hx => by cases hx; exact ⟨hge, rfl, by rw [e]; rfl⟩)⟩
    have hj5 : j < 5 := (List.getElem?_eq_some_iff.1 hu).1
    have h1 := encL_at l [] ht j hj5
    rw [List.append_nil, hu] at h1
    have h2 := h.cells (g := g) (by rw [e]; rfl) (i * 5 + j) u h1
    rw [add_plain] at h2
    rwa [Nat.zero_add] at h2 ⊢
/-- Links put behind a row that is owned; where there are none nothing turns. -/
theorem run_appL (w : World) (base : Nat) (v : Value) (l : List Ln) (hown : w.ownsRow base 29 5 v l.length (encL l)) (A : Option Addr) (m c : Nat) (l' : List Ln) (hm : l'.length = m) (hr : RowL w A l') (hA : A = none → m = 0 ∧ c = 0) (hl : l.length + m ≤ 1048576) (hbase : base ≤ w.heap.size) :
    ∃ v' w', (Builtin.append_ #[22, 22] 22 #[v, .slice A m c]).run Try.prog w = .ok v' w' ∧ w'.ownsRow base 29 5 v' (l ++ l').length (encL (l ++ l')) ∧ w.grownBy w' v.ownBlock ∧ (v'.ownBlock = v.ownBlock ∨ v'.ownBlock = some w.heap.size) := by
  obtain ⟨i, hi, hz, hs, hy⟩ := link_info'
  cases A with
  | none =>
    obtain ⟨rfl, rfl⟩ := hA rfl
    have h0 : l' = [] := List.eq_nil_of_length_eq_zero hm
    subst h0
    refine ⟨v, w, run_append_owned_none (P := Try.prog) w base 22 22 29 i 5 Try.underlying22 hi v l.length (encL l) hown, by rw [List.append_nil]; exact hown, ⟨rfl, rfl, rfl, Nat.le_refl _, fun _ _ _ => rfl⟩, .inl rfl⟩
  | some a =>
    have hnews : ∀ j u, (encL l')[j]? = some u → w.cell? (a.add j) = some u := fun j u hu => by
      have hj : j < l'.length * 5 := by rw [← encL_len]; exact (List.getElem?_eq_some_iff.1 hu).1
      obtain ⟨b, off, e1, _, _⟩ := hr.2 (by omega)
      cases e1
      rw [add_plain]
      exact hr.cells_at j u hu
    obtain ⟨v', w', h1, h2, h3, _, h4⟩ := run_append_own_at (P := Try.prog) w base 22 22 29 i _ 5 48 Try.underlying22 hi hz hs hy rfl (by omega) v l.length (encL l) hown a m c (encL l') (by rw [encL_len, hm]) hnews encL_one (by unfold maxLen; omega) (by omega) hbase
    exact ⟨v', w', h1, by rw [← encL_append, List.length_append, hm]; exact h2, h3, h4⟩
/-- One link put behind a row that is owned. -/
theorem run_appL_one (w : World) (base : Nat) (v : Value) (l : List Ln) (e : Ln) (hown : w.ownsRow base 29 5 v l.length (encL l)) (hl : l.length < 1048576) (hbase : base ≤ w.heap.size) :
    ∃ v' w', (Builtin.append_ #[22, 22] 22 #[v, .slice (some ⟨w.heap.size, 0, none⟩) 1 1]).run Try.prog (w.alloc (.cells #[.string e.str, .int .u64 (e.id : Nat), .int .u64 (e.ver : Nat), .int .i64 e.line, .int .i64 e.cl] 29)) = .ok v' w' ∧ w'.ownsRow base 29 5 v' (l ++ [e]).length (encL (l ++ [e])) ∧ w.grownBy w' v.ownBlock ∧ (v'.ownBlock = v.ownBlock ∨ v'.ownBlock = some (w.heap.size + 1)) := by
  have hr : RowL (w.alloc (.cells #[.string e.str, .int .u64 (e.id : Nat), .int .u64 (e.ver : Nat), .int .i64 e.line, .int .i64 e.cl] 29)) (some ⟨w.heap.size, 0, none⟩) [e] :=
    ⟨by simp, fun _ => ⟨w.heap.size, 0, rfl, by simp, fun i a hi j u hu => by
      obtain rfl : i = 0 := by have := (List.getElem?_eq_some_iff.1 hi).1; simp at this; omega
      obtain rfl : e = a := by simpa using hi
      rw [show 0 + 0 * 5 + j = j by omega]
      match j, hu with
      | 0, hu => replace hu : some (Value.string e.str) = some u := hu; rw [← hu]; simp
      | 1, hu => replace hu : some (Value.int .u64 (e.id : Nat)) = some u := hu; rw [← hu]; simp
      | 2, hu => replace hu : some (Value.int .u64 (e.ver : Nat)) = some u := hu; rw [← hu]; simp
      | 3, hu => replace hu : some (Value.int .i64 e.line) = some u := hu; rw [← hu]; simp
      | 4, hu => replace hu : some (Value.int .i64 e.cl) = some u := hu; rw [← hu]; simp
      | j + 5, hu => simp [Ln.cells] at hu⟩⟩
  obtain ⟨v', w', h1, h2, h3, h4⟩ := run_appL _ base v l (own_alloc hown _) (some ⟨w.heap.size, 0, none⟩) 1 1 [e] rfl hr (fun h => by cases h) (by omega) (by simp; omega)
  exact ⟨v', w', h1, h2, (World.grownBy_alloc w _ _).trans h3, by simpa using h4⟩

theorem own_same {w w' : World} {base size n : Nat} {e : TypeId} {u : Value} {xs : List Value} (h : w.ownsRow base e size u n xs) (hs : ∀ k, u.ownBlock = some k → w'.heap[k]? = w.heap[k]?) : w'.ownsRow base e size u n xs := by
  refine ⟨h.1, h.2.imp id ?_⟩
  rintro ⟨g, cap, cur, rfl, h2, h3, h4⟩
  exact ⟨g, cap, cur, rfl, h2, (hs g rfl).trans h3, h4⟩
/-- What All leaves. -/
def AllTo (L : List Ln) (w : World) (e : Ending) (w' : World) : Prop := ∃ g cap, e = .returned (.slice (some ⟨g, 0, none⟩) L.length cap) ∧ w'.ownsRow w.heap.size 29 5 (.slice (some ⟨g, 0, none⟩) L.length cap) L.length (encL L) ∧ Below w.heap.size w w'

end Go.Proofs.Ytejljkpnhdnncaa
