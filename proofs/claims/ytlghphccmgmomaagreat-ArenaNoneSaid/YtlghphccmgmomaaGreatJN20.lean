/-
  Proved here, joined: LinkMem, SumText, Place11, Stay, TabMem
  Conditions: as each part says.
-/
import Derived.Test.YtlghphccmgmomaaGreatJN19
import Derived.Test.YtlghphccmgmomaaGreatJN1
import Derived.Maps.RangeWalk
import Derived.Sort.KeysCollected
import Derived.Maps.AppendAt
import Derived.Laws.OwnMore
import Derived.Test.YtlghphccmgmomaaGreatJN5
import Derived.Deep.QuietTactic
import Derived.BigQuiet
import Derived.IntWalk
import Derived.WalkSmall
import Derived.Test.YtlghphccmgmomaaGreatJN2

/-
  Proved here: links as elements of a map and as cells of a row, in memory; links put behind a row.
  Conditions: rows of at most 2^20 links.
-/
namespace Go.Proofs.YtlghphccmgmomaaGreat
open Go Go.RowKit
set_option maxRecDepth 100000

/-! ### How a link reads as an element of a map -/
def Ln.dat (x : Ln) : DataW Unit := .agg [.lit (.string x.k), .lit (.int .u64 (x.id : Nat)), .lit (.int .u64 (x.ver : Nat)), .lit (.int .i64 x.line), .lit (.int .i64 x.cl)]
def linkE : Value → Option (DataW Unit × List MemPlace)
  | .agg ⟨[.string s, .int .u64 (.ofNat a), .int .u64 (.ofNat b), .int .i64 c, .int .i64 d]⟩ => some (.agg [.lit (.string s.data.toList), .lit (.int .u64 (.ofNat a)), .lit (.int .u64 (.ofNat b)), .lit (.int .i64 c), .lit (.int .i64 d)], [])
  | _ => none
theorem linkE_mk (x : Ln) : linkE x.agg = some (x.dat, []) := rfl
theorem linkE_inv {v : Value} {y : DataW Unit × List MemPlace} (h : linkE v = some y) : ∃ x : Ln, v = x.agg ∧ y = (x.dat, []) := by
  unfold linkE at h
  split at h
  · rename_i s a b c d
    cases h
    exact ⟨⟨s.data.toList, a, b, c, d⟩, rfl, rfl⟩
  · cases h
theorem dat_inj {x y : Ln} (h : x.dat = y.dat) : x = y := by
  cases x
  cases y
  simp [Ln.dat] at h
  obtain ⟨h1, h2, h3, h4, h5⟩ := h
  simp [h1, h4, h5, Int.ofNat_inj.1 h2, Int.ofNat_inj.1 h3]
/-- Links as the datum of a map. -/
def Md (L : List Ln) : DataW Unit := .map (L.map fun x => (.string x.k, x.dat))
theorem before_str (a b : Ky) : Lit.before (.string a) (.string b) = Op.bytesLess a b := by
  show bytesBefore a b = _
  induction a generalizing b with
  | nil => cases b <;> rfl
  | cons x a ih =>
    cases b with
    | nil => rfl
    | cons y b =>
      show (decide (x < y) || (x == y && bytesBefore a b)) = (decide (x < y) || (x == y && Op.bytesLess a b))
      rw [ih]
theorem md_size (L : List Ln) : Maps.size (Md L) = L.length := by simp [Maps.size, Md]
theorem md_at (L : List Ln) (k : Ky) (z : DataW Unit) : (Md L).atKey (.string k) z = ((getT L k).map Ln.dat).getD z := by
  unfold Md getT DataW.atKey
  induction L with
  | nil => rfl
  | cons a L ih =>
    simp only [List.map_cons, List.find?_cons, Lit.sameKey]
    cases a.k == k with
    | true => rfl
    | false => exact ih
theorem md_has (L : List Ln) (k : Ky) : Maps.has (Md L) (.string k) = hasT L k := by
  show (L.map fun x => (Lit.string x.k, x.dat)).any (fun p => p.1.sameKey (.string k)) = (L.find? fun x => x.k == k).isSome
  rw [List.any_map, List.isSome_find?]
  rfl
theorem md_del (L : List Ln) (k : Ky) : (Md L).del (.string k) = Md (dropT L k) := by
  unfold Md DataW.del dropT
  simp only [List.filter_map]
  rfl
theorem md_insert (L : List Ln) (x : Ln) : DataW.insert (.string x.k, x.dat) (L.map fun x => (.string x.k, x.dat)) = (putT L x).map fun x => (.string x.k, x.dat) := by
  induction L with
  | nil => rfl
  | cons a L ih =>
    unfold putT
    simp only [List.map_cons, DataW.insert]
    rw [before_str]
    split
    · rfl
    · rw [ih]; rfl
theorem md_put (L : List Ln) (x : Ln) : (Md L).put (.string x.k) x.dat = Md (setT L x) := by
  have h := md_del L x.k
  unfold Md DataW.del at h
  unfold Md DataW.put setT
  simp only [DataW.map.injEq] at h ⊢
  rw [h, md_insert]
theorem md_keys (L : List Ln) : strKeys (Md L) = L.map Ln.k := by simp [strKeys, Md, strOf]
theorem setT_len {L : List Ln} (h : RisesK L) (x : Ln) : (setT L x).length = if hasT L x.k then L.length else L.length + 1 := by
  unfold setT
  rw [putT_len, dropT_len h]
  split
  · rename_i h1
    have : 0 < L.length := by
      cases L with
      | nil => simp [hasT, getT] at h1
      | cons b L => simp
    omega
  · rfl

/-! ### A map of links in memory -/
theorem str_law : Maps.Keyed Tryz.prog 9 := Maps.string_keyed Tryz.underlying9
/-- Block b is a map that holds the links L. -/
def MapL (w : World) (b : Nat) (L : List Ln) : Prop := w.ownsMap Tryz.prog 9 linkE b L.length (Md L)
theorem own_tight {w : World} {b n : Nat} {L : List Ln} (h : w.ownsMap Tryz.prog 9 linkE b n (Md L)) : MapL w b L := by
  obtain ⟨es, clock, hb, F, hs, hD⟩ := h
  refine ⟨es, clock, hb, F, ?_, hD⟩
  have h1 := md_size L
  rw [hD] at h1
  simp only [Maps.size] at h1
  rw [length_sorted] at h1
  simp at h1
  omega
theorem MapL.stay {w w' : World} {b : Nat} {L : List Ln} (h : MapL w b L) (hb : w'.heap[b]? = w.heap[b]?) : MapL w' b L := by
  obtain ⟨es, clock, h1, h2⟩ := h
  exact ⟨es, clock, hb.trans h1, h2⟩
theorem MapL.lt {w : World} {b : Nat} {L : List Ln} (h : MapL w b L) : b < w.heap.size := World.ownsMap.lt h
theorem mapL_new (w : World) : MapL (w.alloc (.map #[] 0)) w.heap.size [] := World.ownsMap_made _ _ _ _
theorem key_of (k : Ky) (h : k.length ≤ 1073741824) : keyOf Tryz.prog 9 (.string ⟨k.toArray⟩) = some (.string k) := by
  have := WideMaps.keyOf_string_mk (P := Tryz.prog) Tryz.underlying9 (s := ⟨k.toArray⟩) (by show k.toArray.size ≤ _; simp; unfold maxLen; omega)
  exact this
/-- Links one behind the other, as cells. -/
def encL (L : List Ln) : List Value := L.flatMap Ln.cells
theorem encL_len (L : List Ln) : (encL L).length = L.length * 5 := by
  induction L with
  | nil => rfl
  | cons e L ih => simp only [encL, List.flatMap_cons, List.length_append, List.length_cons] at ih ⊢; rw [ih]; simp [Ln.cells]; omega
theorem encL_append (a b : List Ln) : encL a ++ encL b = encL (a ++ b) := by simp [encL]
theorem encL_at (L : List Ln) (rest : List Value) {i : Nat} {e : Ln} (h : L[i]? = some e) (j : Nat) (hj : j < 5) : (encL L ++ rest)[i * 5 + j]? = e.cells[j]? := by
  induction L generalizing i with
  | nil => cases h
  | cons a L ih =>
    simp only [encL, List.flatMap_cons, List.append_assoc]
    have ha : a.cells.length = 5 := rfl
    cases i with
    | zero =>
      obtain rfl : a = e := by simpa using h
      rw [Nat.zero_mul, Nat.zero_add, List.getElem?_append_left (by omega)]
    | succ i =>
      rw [List.getElem?_append_right (by omega), ha, show (i + 1) * 5 + j - 5 = i * 5 + j by omega]
      exact ih (by simpa using h)
theorem encL_one {L : List Ln} : ∀ u ∈ encL L, u.oneCell' = true := by
  intro u hu
  simp only [encL, List.mem_flatMap] at hu
  obtain ⟨e, _, h⟩ := hu
  simp only [Ln.cells, List.mem_cons, List.not_mem_nil, or_false] at h
  rcases h with rfl | rfl | rfl | rfl | rfl <;> rfl
/-! ### Links in memory -/
theorem link_info : (Tryz.prog.info? 29).map (fun i => (i.zero, i.size, i.bytes)) = some (some (.agg #[.string ⟨#[]⟩, .int .u64 0, .int .u64 0, .int .i64 0, .int .i64 0]), 5, 48) := by kernel_rfl
theorem link_info' : ∃ i, Tryz.prog.info? 29 = some i ∧ i.zero = some (.agg #[.string ⟨#[]⟩, .int .u64 0, .int .u64 0, .int .i64 0, .int .i64 0]) ∧ i.size = 5 ∧ i.bytes = 48 := by
  obtain ⟨i, h1, h2⟩ := Option.map_eq_some_iff.1 link_info
  simp only [Prod.mk.injEq] at h2
  exact ⟨i, h1, h2.1, h2.2.1, h2.2.2⟩
theorem size_link : (Tryz.prog.info? 29).map (·.size) = some 5 := by
  obtain ⟨i, h1, h2⟩ := Option.map_eq_some_iff.1 link_info
  simp only [Prod.mk.injEq] at h2
  rw [h1]
  simp [h2.2.1]
/-- The slice at A holds the links l. -/
def RowL (w : World) (A : Option Addr) (l : List Ln) : Prop :=
  l.length ≤ 1048576 ∧ (0 < l.length → ∃ b off, A = some ⟨b, off, none⟩ ∧ b < w.heap.size ∧ ∀ i e, l[i]? = some e → ∀ j u, e.cells[j]? = some u → w.cell? ⟨b, off + i * 5 + j, none⟩ = some u)
theorem rowL_nil (w : World) (A : Option Addr) : RowL w A [] := ⟨by simp, fun h => by simp at h⟩
theorem RowL.below {w w' : World} {A : Option Addr} {l : List Ln} (h : RowL w A l) (hb : Below w.heap.size w w') : RowL w' A l :=
  ⟨h.1, fun hl => by
    obtain ⟨b, off, e, hlt, hc⟩ := h.2 hl
    exact ⟨b, off, e, Nat.lt_of_lt_of_le hlt hb.size, fun i t ht j u hu => (hb.cell (p := ⟨b, off + i * 5 + j, none⟩) hlt).trans (hc i t ht j u hu)⟩⟩
theorem RowL.same {w w' : World} {A : Option Addr} {l : List Ln} (h : RowL w A l) (hs : w.heap.size ≤ w'.heap.size) (hb : ∀ x, A = some x → w'.heap[x.block]? = w.heap[x.block]?) : RowL w' A l :=
  ⟨h.1, fun hl => by
    obtain ⟨b, off, e, hlt, hc⟩ := h.2 hl
    have hbl := hb ⟨b, off, none⟩ e
    exact ⟨b, off, e, Nat.lt_of_lt_of_le hlt hs, fun i t ht j u hu => (World.cell?_of_block (w := w) (a := ⟨b, off + i * 5 + j, none⟩) hbl).trans (hc i t ht j u hu)⟩⟩
/-- The five cells of one link. -/
theorem RowL.at_ {w : World} {A : Option Addr} {l : List Ln} (h : RowL w A l) {i : Nat} {e : Ln} (hi : l[i]? = some e) : ∃ b off, A = some ⟨b, off, none⟩ ∧ b < w.heap.size ∧
    w.cell? ⟨b, off + i * 5, none⟩ = some (.string e.str) ∧ w.cell? ⟨b, off + i * 5 + 1, none⟩ = some (.int .u64 (e.id : Nat)) ∧ w.cell? ⟨b, off + i * 5 + 2, none⟩ = some (.int .u64 (e.ver : Nat)) ∧
    w.cell? ⟨b, off + i * 5 + 3, none⟩ = some (.int .i64 e.line) ∧ w.cell? ⟨b, off + i * 5 + 4, none⟩ = some (.int .i64 e.cl) := by
  obtain ⟨b, off, e1, hlt, hc⟩ := h.2 (by have := (List.getElem?_eq_some_iff.1 hi).1; omega)
  exact ⟨b, off, e1, hlt, hc i e hi 0 _ rfl, hc i e hi 1 _ rfl, hc i e hi 2 _ rfl, hc i e hi 3 _ rfl, hc i e hi 4 _ rfl⟩
theorem RowL.cells_at {w : World} {b off : Nat} {l : List Ln} (h : RowL w (some ⟨b, off, none⟩) l) : ∀ j u, (encL l)[j]? = some u → w.cell? ⟨b, off + j, none⟩ = some u := by
  intro j u hu
  have hj : j < l.length * 5 := by rw [← encL_len]; exact (List.getElem?_eq_some_iff.1 hu).1
  obtain ⟨b2, off2, e1, _, hc⟩ := h.2 (by omega)
  cases e1
  have hi : j / 5 < l.length := by omega
  have h1 := encL_at l [] (List.getElem?_eq_getElem hi) (j % 5) (by omega)
  rw [List.append_nil, show j / 5 * 5 + j % 5 = j by omega, hu] at h1
  have := hc (j / 5) _ (List.getElem?_eq_getElem hi) (j % 5) u h1.symm
  rwa [show off + j / 5 * 5 + j % 5 = off + j by omega] at this
theorem RowL.drop {w : World} {b off : Nat} {l : List Ln} (h : RowL w (some ⟨b, off, none⟩) l) (k : Nat) : RowL w (some ⟨b, off + k * 5, none⟩) (l.drop k) :=
  ⟨by rw [List.length_drop]; have := h.1; omega, fun hl => by
    rw [List.length_drop] at hl
    obtain ⟨b2, off2, e1, hlt, hc⟩ := h.2 (by omega)
    cases e1
    refine ⟨b, off + k * 5, rfl, hlt, fun i e hi j u hu => ?_⟩
    rw [List.getElem?_drop] at hi
    have := hc (k + i) e hi j u hu
    rwa [show off + k * 5 + i * 5 + j = off + (k + i) * 5 + j by omega]⟩
theorem RowL.take {w : World} {A : Option Addr} {l : List Ln} (h : RowL w A l) (k : Nat) : RowL w A (l.take k) :=
  ⟨by rw [List.length_take]; have := h.1; omega, fun hl => by
    rw [List.length_take] at hl
    obtain ⟨b, off, e1, hlt, hc⟩ := h.2 (by omega)
    refine ⟨b, off, e1, hlt, fun i e hi => hc i e ?_⟩
    rw [List.getElem?_take] at hi
    split at hi
    · exact hi
    · cases hi⟩
theorem rowL_of_own {w : World} {base n : Nat} {v : Value} {l : List Ln} (h : w.ownsRow base 29 5 v n (encL l)) (hl : l.length ≤ 1048576) : l.length = n ∧ ∃ A cap, v = .slice A n cap ∧ n ≤ cap ∧ RowL w A l ∧ (A = none → n = 0 ∧ cap = 0) ∧ ∀ x, A = some x → base ≤ x.block ∧ x = ⟨x.block, 0, none⟩ ∧ v.ownBlock = some x.block := by
  have hn : l.length = n := by have := h.1; rw [encL_len] at this; omega
  refine ⟨hn, ?_⟩
  rcases h.2 with ⟨e, e0⟩ | ⟨g, cap, cur, e, hge, hh, hc, _⟩
  · have h0 : l = [] := List.eq_nil_of_length_eq_zero (by omega)
    subst h0
    exact ⟨none, 0, by rw [e, e0], by omega, rowL_nil _ _, fun _ => ⟨e0, rfl⟩, fun x hx => by cases hx⟩
  · refine ⟨_, _, e, hc, ⟨hl, fun hpos => ⟨g, 0, rfl, lt_of_heap hh, fun i t ht j u hu => ?_⟩⟩, (fun h => by cases h), (fun x hx => by cases hx; exact ⟨hge, rfl, by rw [e]; rfl⟩)⟩
    have hj5 : j < 5 := (List.getElem?_eq_some_iff.1 hu).1
    have h1 := encL_at l [] ht j hj5
    rw [List.append_nil, hu] at h1
    have h2 := h.cells (g := g) (by rw [e]; rfl) (i * 5 + j) u h1
    rw [add_plain] at h2
    rwa [Nat.zero_add] at h2 ⊢
/-- Links put behind a row that is owned; where there are none nothing turns. -/
theorem run_appL (w : World) (base : Nat) (v : Value) (l : List Ln) (hown : w.ownsRow base 29 5 v l.length (encL l)) (A : Option Addr) (m c : Nat) (l' : List Ln) (hm : l'.length = m) (hr : RowL w A l') (hA : A = none → m = 0 ∧ c = 0) (hl : l.length + m ≤ 1048576) (hbase : base ≤ w.heap.size) :
    ∃ v' w', (Builtin.append_ #[104, 104] 104 #[v, .slice A m c]).run Tryz.prog w = .ok v' w' ∧ w'.ownsRow base 29 5 v' (l ++ l').length (encL (l ++ l')) ∧ w.grownBy w' v.ownBlock ∧ (v'.ownBlock = v.ownBlock ∨ v'.ownBlock = some w.heap.size) := by
  obtain ⟨i, hi, hz, hs, hy⟩ := link_info'
  cases A with
  | none =>
    obtain ⟨rfl, rfl⟩ := hA rfl
    have h0 : l' = [] := List.eq_nil_of_length_eq_zero hm
    subst h0
    refine ⟨v, w, run_append_owned_none (P := Tryz.prog) w base 104 104 29 i 5 Tryz.underlying104 hi v l.length (encL l) hown, by rw [List.append_nil]; exact hown, ⟨rfl, rfl, rfl, Nat.le_refl _, fun _ _ _ => rfl⟩, .inl rfl⟩
  | some a =>
    have hnews : ∀ j u, (encL l')[j]? = some u → w.cell? (a.add j) = some u := fun j u hu => by
      have hj : j < l'.length * 5 := by rw [← encL_len]; exact (List.getElem?_eq_some_iff.1 hu).1
      obtain ⟨b, off, e1, _, _⟩ := hr.2 (by omega)
      cases e1
      rw [add_plain]
      exact hr.cells_at j u hu
    obtain ⟨v', w', h1, h2, h3, _, h4⟩ := run_append_own_at (P := Tryz.prog) w base 104 104 29 i _ 5 48 Tryz.underlying104 hi hz hs hy rfl (by omega) v l.length (encL l) hown a m c (encL l') (by rw [encL_len, hm]) hnews encL_one (by unfold maxLen; omega) (by omega) hbase
    exact ⟨v', w', h1, by rw [← encL_append, List.length_append, hm]; exact h2, h3, h4⟩
/-- One link put behind a row that is owned. -/
theorem run_appL_one (w : World) (base : Nat) (v : Value) (l : List Ln) (e : Ln) (hown : w.ownsRow base 29 5 v l.length (encL l)) (hl : l.length < 1048576) (hbase : base ≤ w.heap.size) :
    ∃ v' w', (Builtin.append_ #[104, 104] 104 #[v, .slice (some ⟨w.heap.size, 0, none⟩) 1 1]).run Tryz.prog (w.alloc (.cells #[.string e.str, .int .u64 (e.id : Nat), .int .u64 (e.ver : Nat), .int .i64 e.line, .int .i64 e.cl] 29)) = .ok v' w' ∧ w'.ownsRow base 29 5 v' (l ++ [e]).length (encL (l ++ [e])) ∧ w.grownBy w' v.ownBlock ∧ (v'.ownBlock = v.ownBlock ∨ v'.ownBlock = some (w.heap.size + 1)) := by
  have hr : RowL (w.alloc (.cells #[.string e.str, .int .u64 (e.id : Nat), .int .u64 (e.ver : Nat), .int .i64 e.line, .int .i64 e.cl] 29)) (some ⟨w.heap.size, 0, none⟩) [e] :=
    ⟨by simp, fun _ => ⟨w.heap.size, 0, rfl, by simp, fun i a hi j u hu => by
      obtain rfl : i = 0 := by have := (List.getElem?_eq_some_iff.1 hi).1; simp at this; omega
      obtain rfl : e = a := by simpa using hi
      rw [show 0 + 0 * 5 + j = j by omega]
      match j, hu with
      | 0, hu => replace hu : some (Value.string e.str) = some u := hu; rw [← hu]; simp
      | 1, hu => replace hu : some (Value.int .u64 (e.id : Nat)) = some u := hu; rw [← hu]; simp
      | 2, hu => replace hu : some (Value.int .u64 (e.ver : Nat)) = some u := hu; rw [← hu]; simp
      | 3, hu => replace hu : some (Value.int .i64 e.line) = some u := hu; rw [← hu]; simp
      | 4, hu => replace hu : some (Value.int .i64 e.cl) = some u := hu; rw [← hu]; simp
      | j + 5, hu => simp [Ln.cells] at hu⟩⟩
  obtain ⟨v', w', h1, h2, h3, h4⟩ := run_appL _ base v l (own_alloc hown _) (some ⟨w.heap.size, 0, none⟩) 1 1 [e] rfl hr (fun h => by cases h) (by omega) (by simp; omega)
  exact ⟨v', w', h1, h2, (World.grownBy_alloc w _ _).trans h3, by simpa using h4⟩

/-- What All leaves. -/
def AllTo (L : List Ln) (w : World) (e : Ending) (w' : World) : Prop := ∃ g cap, e = .returned (.slice (some ⟨g, 0, none⟩) L.length cap) ∧ w'.ownsRow w.heap.size 29 5 (.slice (some ⟨g, 0, none⟩) L.length cap) L.length (encL L) ∧ Below w.heap.size w w'

end Go.Proofs.YtlghphccmgmomaaGreat

/-
  Proved here: what package sum's Text answers.
  Conditions: texts of at most 2^30 bytes.
-/
namespace Go.Proofs.YtlghphccmgmomaaGreat
open Go.RowKit
set_option maxRecDepth 100000

set_option maxHeartbeats 400000 in
theorem text_any (s : ByteArray) (hs : s.size ≤ 1073741824) (w : World) :
    Calls Tryz.prog 147 #[.string s] w fun e w' => e = .returned (.int .u32 (addS 0 s.data.toList : Nat)) ∧ Below w.heap.size w w' := by
  have hconv := Lib.run_convert_string_bytes (P := Tryz.prog) w 9 148 5 s Tryz.underlying9 Tryz.underlying148 Tryz.underlying5
  have HH := Lib.hid (add_any 0 (by omega) (some ⟨w.heap.size, 0, none⟩) s.size (grownCap w s.size 0 5) s.data.toList rfl _ (row_bytes w s hs))
  obtain ⟨W, hW⟩ : ∃ W, Lib.bytesWorld w 5 s = W := ⟨_, rfl⟩
  have hb := below_bytes w s
  rw [hW] at hconv HH hb
  have HB := Lib.hid hb
  clear hW hb
  go_enter Tryz.func147, Tryz.ntmps147
  go_wp2_with (go_at_call 186; refine HH.out.mono ?_; rintro e w' ⟨rfl, rfl⟩)
  go_ret
  exact ⟨rfl, HB.out⟩

end Go.Proofs.YtlghphccmgmomaaGreat

/-
  Proved here: what package place and the chapter's own functions answer, by the checksum of a key; what the law's example answers.
  Conditions: keys of at most 2^30 bytes.
-/
namespace Go.Proofs.YtlghphccmgmomaaGreat
open Go Go.RowKit
set_option maxRecDepth 100000

/-- The level of a key by its checksum. -/
def lvl (c : Nat) : Nat := if c < 2147483648 then 1 else if c < 3221225472 then 2 else if c < 3758096384 then 3 else 4
theorem lvl_one {c : Nat} (h : c < 2147483648) : lvl c = 1 := by unfold lvl; rw [if_pos h]
theorem lvl_two {c : Nat} (h : ¬ c < 2147483648) (h2 : c < 3221225472) : lvl c = 2 := by unfold lvl; rw [if_neg h, if_pos h2]
theorem lvl_three {c : Nat} (h : ¬ c < 3221225472) (h2 : c < 3758096384) : lvl c = 3 := by unfold lvl; rw [if_neg (by omega), if_neg h, if_pos h2]
theorem lvl_four {c : Nat} (h : ¬ c < 3758096384) : lvl c = 4 := by unfold lvl; rw [if_neg (by omega), if_neg (by omega), if_neg h]
theorem lvl_bounds (c : Nat) : 1 ≤ lvl c ∧ lvl c ≤ 4 := by
  rcases Nat.lt_or_ge c 2147483648 with h | h
  · rw [lvl_one h]; omega
  rcases Nat.lt_or_ge c 3221225472 with h2 | h2
  · rw [lvl_two (by omega) h2]; omega
  rcases Nat.lt_or_ge c 3758096384 with h3 | h3
  · rw [lvl_three (by omega) h3]; omega
  · rw [lvl_four (by omega)]; omega

theorem high (c : Nat) (hc : c < 4294967296) : (bits .and .u32 (c : Int) 2147483648 == 0) = decide (c < 2147483648) := by
  have h := u32_and_nat c 2147483648 hc (by omega)
  rw [show (2147483648 : Int) = ((2147483648 : Nat) : Int) from rfl, h]
  rcases Nat.lt_or_ge c 2147483648 with hl | hg
  · have h0 : c &&& 2147483648 = 0 := by
      apply Nat.eq_of_testBit_eq
      intro i
      rw [Nat.testBit_and, show (2147483648 : Nat) = 2 ^ 31 from rfl, Nat.testBit_two_pow]
      rcases Nat.lt_or_ge i 31 with hi | hi
      · rw [show decide (31 = i) = false from by simp; omega]
        rw [Bool.and_false, Nat.zero_testBit]
      · rw [Nat.testBit_lt_two_pow (Nat.lt_of_lt_of_le (show c < 2 ^ 31 from hl) (Nat.pow_le_pow_right (by omega) hi))]; simp
    rw [h0]; simp [hl]
  · have h1 : (c &&& 2147483648).testBit 31 = true := by
      rw [Nat.testBit_and, show (2147483648 : Nat) = 2 ^ 31 from rfl, Nat.testBit_two_pow, Nat.testBit_eq_decide_div_mod_eq]
      have : c / 2 ^ 31 = 1 := by omega
      simp [this]
    have h2 : c &&& 2147483648 ≠ 0 := by
      intro e
      rw [e, Nat.zero_testBit] at h1
      cases h1
    have h3 : (((c &&& 2147483648 : Nat) : Int) == 0) = false := by simp; exact h2
    rw [h3]; simp; exact hg


theorem high_at (c k : Nat) : (bits .and .u32 ((c : Int) * 2 ^ k % 4294967296) 2147483648 == 0) = decide (c * 2 ^ k % 4294967296 < 2147483648) := by
  have h := high (c * 2 ^ k % 4294967296) (Nat.mod_lt _ (by omega))
  rw [← h]
  simp

/-- What a checksum is at least that begins with k ones. -/
def lo (k : Nat) : Nat := 4294967296 - 2 ^ (32 - k)
theorem lvl_at {c k : Nat} (hk : k < 3) (hc : c < 4294967296) (h : lo k ≤ c) (h2 : c * 2 ^ k % 4294967296 < 2147483648) : lvl c = k + 1 := by
  unfold lo at h
  obtain rfl | rfl | rfl : k = 0 ∨ k = 1 ∨ k = 2 := by omega
  · exact lvl_one (by omega)
  · exact lvl_two (by omega) (by omega)
  · exact lvl_three (by omega) (by omega)
theorem lo_next {c k : Nat} (hk : k < 3) (hc : c < 4294967296) (h : lo k ≤ c) (h2 : ¬ c * 2 ^ k % 4294967296 < 2147483648) : lo (k + 1) ≤ c := by
  unfold lo at h ⊢
  obtain rfl | rfl | rfl : k = 0 ∨ k = 1 ∨ k = 2 := by omega
  all_goals omega
set_option maxHeartbeats 400000 in
theorem bucket_any (s : ByteArray) (hs : s.size ≤ 1073741824) (w : World) :
    Calls Tryz.prog 99 #[.string s] w fun e w' => e = .returned (.int .i64 (addS 0 s.data.toList % 8 : Nat)) ∧ Below w.heap.size w w' := by
  have HT := Lib.hid (text_any s hs w)
  obtain ⟨c, hc⟩ : ∃ c, addS 0 s.data.toList = c := ⟨_, rfl⟩
  rw [hc] at HT ⊢
  clear hc
  go_enter Tryz.func99, Tryz.ntmps99
  go_wp2_with (go_at_call 147; refine HT.out.mono ?_; rintro e w' ⟨rfl, hb⟩)
  go_ret
  exact ⟨int_eq (by omega), hb⟩

set_option maxHeartbeats 400000 in
theorem level_any (s : ByteArray) (hs : s.size ≤ 1073741824) (w : World) :
    Calls Tryz.prog 152 #[.string s] w fun e w' => e = .returned (.int .i64 (lvl (addS 0 s.data.toList) : Nat)) ∧ Below w.heap.size w w' := by
  have HT := Lib.hid (text_any s hs w)
  have hlt := addS_lt (c := 0) (l := s.data.toList) (by omega)
  obtain ⟨c, hc⟩ : ∃ c, addS 0 s.data.toList = c := ⟨_, rfl⟩
  rw [hc] at HT hlt ⊢
  clear hc
  go_enter Tryz.func152, Tryz.ntmps152
  go_wp2_with (go_at_call 147; refine HT.out.mono ?_; rintro e w' ⟨rfl, hb⟩)
  go_loopg [7] 3 (fun g s7 wx => ∃ k, k + g = 3 ∧ s7 = .int .i64 k ∧ Hid (lo k ≤ c) ∧ w' = wx)
  case atStart => exact ⟨0, rfl, rfl, Nat.zero_le _, rfl⟩
  case round =>
    obtain ⟨k, hkg, rfl, H1, rfl⟩ := hrel
    cases gk with
    | zero =>
      obtain rfl : k = 3 := by omega
      go_wp2
      go_ret
      refine ⟨int_eq ?_, hb⟩
      rw [lvl_four (by have := H1.out; unfold lo at this; omega)]; rfl
    | succ g =>
      have hk : (k : Int) < 3 := by omega
      go_wp2
      · go_ret
        have h : (bits BinOp.and IntKind.u32 (↑c * 2 ^ k % 4294967296) 2147483648 == 0) = true := ‹_›
        rw [high_at] at h
        refine ⟨int_eq ?_, hb⟩
        rw [lvl_at (by omega) hlt H1.out (of_decide_eq_true h)]
        omega
      · have h : (bits BinOp.and IntKind.u32 (↑c * 2 ^ k % 4294967296) 2147483648 == 0) = false := ‹_›
        rw [high_at] at h
        have H2 : Hid (lo (k + 1) ≤ c) := lo_next (by omega) hlt H1.out (of_decide_eq_false h)
        go_roundg g
        case measure => omega
        case rel => exact ⟨k + 1, by omega, by go_num, H2, rfl⟩

end Go.Proofs.YtlghphccmgmomaaGreat

/-
  Proved here: what stays of a world of which some blocks are turned.
  Conditions: none.
-/
namespace Go.Proofs.YtlghphccmgmomaaGreat
open Go Go.RowKit
set_option maxRecDepth 100000

/-! ### What the world has turned -/
/-- But for the blocks of which S holds all that was there is as it was. -/
structure Stay (S : Nat → Prop) (w w' : World) : Prop where
  os : w'.os = w.os
  tape : w'.tape = w.tape
  output : w'.output = w.output
  size : w.heap.size ≤ w'.heap.size
  block : ∀ k, ¬ S k → k < w.heap.size → w'.heap[k]? = w.heap[k]?
section
variable {S S' : Nat → Prop} {a b c w w' : World}
theorem Stay.refl (S : Nat → Prop) (w : World) : Stay S w w := ⟨rfl, rfl, rfl, Nat.le_refl _, fun _ _ _ => rfl⟩
theorem Stay.trans (h : Stay S a b) (k : Stay S b c) : Stay S a c :=
  ⟨k.os.trans h.os, k.tape.trans h.tape, k.output.trans h.output, Nat.le_trans h.size k.size, fun i h1 hi => (k.block i h1 (Nat.lt_of_lt_of_le hi h.size)).trans (h.block i h1 hi)⟩
theorem Stay.of_below (h : Below w.heap.size w w') : Stay S w w' := ⟨h.os, h.tape, h.output, h.size, fun k _ hk => h.block k hk⟩
theorem Stay.below (h : Stay S w w') {g : Nat} (hg : ∀ k, S k → g ≤ k) (hgw : g ≤ w.heap.size) : Below g w w' :=
  ⟨h.os, h.tape, h.output, h.size, fun k hk => h.block k (fun hs => by have := hg k hs; omega) (by omega)⟩
theorem Stay.mono (h : Stay S w w') (hs : ∀ k, k < w.heap.size → S k → S' k) : Stay S' w w' :=
  ⟨h.os, h.tape, h.output, h.size, fun k hk hl => h.block k (fun x => hk (hs k hl x)) hl⟩
/-- A step that turns what is new alone, behind one that turns S. -/
theorem Stay.new (h : Stay S a b) (k : Stay S' b c) (hs : ∀ i, S' i → S i ∨ a.heap.size ≤ i) : Stay S a c :=
  ⟨k.os.trans h.os, k.tape.trans h.tape, k.output.trans h.output, Nat.le_trans h.size k.size, fun i h1 hi =>
    (k.block i (fun x => by rcases hs i x with h2 | h2; exact h1 h2; omega) (Nat.lt_of_lt_of_le hi h.size)).trans (h.block i h1 hi)⟩
theorem Stay.grown {b' : Nat} (h : w.grownBy w' (some b')) (hs : S b') : Stay S w w' :=
  ⟨h.os, h.tape, h.output, h.size, fun k hk hl => h.block k hl (fun e => hk (by cases e; exact hs))⟩
theorem Stay.setCell (w : World) (p j : Nat) (u : Value) (hs : S p) : Stay S w (w.setCell ⟨p, j, none⟩ u) :=
  ⟨rfl, rfl, rfl, by simp [World.setCell], fun k hk _ => Below.heap_setCell _ _ _ _ (fun e => hk (by rw [show k = p from e]; exact hs))⟩
theorem Stay.drewN (h : Stay S a w) (k : Nat) : Stay S a (w.drewN k) := ⟨h.os, h.tape, h.output, h.size, h.block⟩
end


end Go.Proofs.YtlghphccmgmomaaGreat

/-
  Proved here: how a table of links lies in memory.
  Conditions: none.
-/
namespace Go.Proofs.YtlghphccmgmomaaGreat
open Go Go.RowKit
set_option maxRecDepth 100000

/-! ### The table in memory -/
/-- The bucket of a key. -/
def bkt (k : Ky) : Nat := addS 0 k % 8
theorem bkt_lt (k : Ky) : bkt k < 8 := Nat.mod_lt _ (by omega)
def mcells (m : Nat → Option Nat) : List Value := (List.range 8).map fun i => .map (m i)
theorem mcells_at (m : Nat → Option Nat) {i : Nat} (h : i < 8) : (mcells m)[i]? = some (.map (m i)) := by simp [mcells, h]
theorem mcells_set (m : Nat → Option Nat) {i : Nat} (h : i < 8) (b : Option Nat) : (mcells m).set i (.map b) = mcells fun j => if j = i then b else m j := by
  apply List.ext_getElem?
  intro j
  rw [List.getElem?_set]
  split
  · rename_i e
    subst e
    rw [if_pos (by simp [mcells]; exact h), mcells_at _ h]
    simp
  · rename_i e
    rcases Nat.lt_or_ge j 8 with hj | hj
    · rw [mcells_at _ hj, mcells_at _ hj, if_neg (fun x => e x.symm)]
    · rw [List.getElem?_eq_none (by simp [mcells]; exact hj), List.getElem?_eq_none (by simp [mcells]; exact hj)]
/-- The table at p, whose map of bucket i is block m i, where there is one; its links are L. -/
structure Tb (w : World) (p : Nat) (m : Nat → Option Nat) (L : List Ln) : Prop where
  rises : RisesK L
  keys : ∀ x ∈ L, x.k.length ≤ 1073741824
  mem : w.heap[p]? = some (.cells (mcells m).toArray 225 (0, 0))
  none_ : ∀ i, i < 8 → m i = none → partT bkt L i = []
  some_ : ∀ i b, i < 8 → m i = some b → MapL w b (partT bkt L i)
  apart : ∀ i j b, i < 8 → j < 8 → m i = some b → m j = some b → i = j
/-- The table's own blocks. -/
def tbOwn (p : Nat) (m : Nat → Option Nat) (k : Nat) : Prop := k = p ∨ ∃ i, i < 8 ∧ m i = some k
section
variable {w w' : World} {p : Nat} {m : Nat → Option Nat} {L L' : List Ln}
theorem Tb.lt (h : Tb w p m L) {k : Nat} (hk : tbOwn p m k) : k < w.heap.size := by
  rcases hk with rfl | ⟨i, hi, e⟩
  · exact lt_of_heap h.mem
  · exact (h.some_ i k hi e).lt
theorem Tb.stay {S : Nat → Prop} (h : Tb w p m L) (hs : Stay S w w') (hn : ∀ k, tbOwn p m k → ¬ S k) : Tb w' p m L :=
  ⟨h.rises, h.keys, (hs.block p (hn p (.inl rfl)) (h.lt (.inl rfl))).trans h.mem, h.none_, fun i b hi e => (h.some_ i b hi e).stay (hs.block b (hn b (.inr ⟨i, hi, e⟩)) (h.lt (.inr ⟨i, hi, e⟩))), h.apart⟩
theorem Tb.below (h : Tb w p m L) (hb : Below w.heap.size w w') : Tb w' p m L := h.stay (S := fun _ => False) (Stay.of_below hb) (fun _ _ => id)
theorem Tb.drewN (h : Tb w p m L) (k : Nat) : Tb (w.drewN k) p m L := h.below (below_drewN (Below.refl _ _) k)
theorem Tb.cell (h : Tb w p m L) {i : Nat} (hi : i < 8) : w.cell? ⟨p, i, none⟩ = some (.map (m i)) := by
  have := mcells_at m hi
  simp [World.cell?, h.mem, this]
theorem Tb.frozen (h : Tb w p m L) (i : Nat) : w.frozen? ⟨p, i, none⟩ = false := by simp [World.frozen?, h.mem]
end
theorem tb_new (w : World) : Tb (w.alloc (.cells #[.map none, .map none, .map none, .map none, .map none, .map none, .map none, .map none] 225)) w.heap.size (fun _ => none) [] :=
  ⟨risesK_nil, fun _ h => (by cases h), heap_alloc_new w _, fun _ _ _ => rfl, fun _ _ _ h => (by cases h), fun _ _ _ _ _ h => (by cases h)⟩
/-- What a step of a table leaves. -/
def TbTo (w : World) (p : Nat) (m : Nat → Option Nat) (L : List Ln) (w' : World) : Prop :=
  ∃ m', Tb w' p m' L ∧ Stay (tbOwn p m) w w' ∧ ∀ k, tbOwn p m' k → tbOwn p m k ∨ w.heap.size ≤ k

end Go.Proofs.YtlghphccmgmomaaGreat
