/-
  Proved here, joined: MapK15, Que15, IRep15, Vals15
  Conditions: as each part says.
-/
import Derived.Test.YtpmgnhijiodbaaaDoX15
import Derived.Maps.RangeWalk
import Derived.Sort.KeysCollected
import Derived.Maps.AppendAt
import Derived.Laws.OwnMore
import Derived.Deep.AppendSrc

/-
  Proved here: pairs as elements of a map, in memory; sets of rising pairs.
  Conditions: less than 2^20 pairs, keys of at most 2^30 bytes.
-/
namespace Go.Proofs.Ytpmgnhijiodbaaa
open Go Go.RowKit
set_option maxRecDepth 100000

/-! ### Sets of rising pairs as a map makes them -/
theorem delK_none {L : List Kv} {k : ByteArray} (h : hasK L k = false) : delK L k = L := by
  unfold delK
  rw [List.filter_eq_self]
  intro x hx
  unfold hasK at h
  rw [List.any_eq_false] at h
  have := h x hx
  cases e : eqKv k x with
  | true => exact absurd e this
  | false => rfl
theorem rise_no {a : Kv} {L : List Kv} (h : Rise (a :: L)) {k : ByteArray} (hk : eqKv k a = true) : hasK L k = false := by
  unfold hasK
  rw [List.any_eq_false]
  intro x hx e
  have h1 := (List.pairwise_cons.1 h).1 x hx
  have e1 : a.k.toList = k.toList := by simpa [eqKv, eqK] using hk
  have e2 : x.k.toList = k.toList := by simpa [eqKv, eqK] using e
  unfold ltK at h1
  rw [e1, e2, lessK_irrefl] at h1
  cases h1
theorem ins_first {a : Kv} {L : List Kv} (h : Rise (a :: L)) {k v : ByteArray} (hk : eqKv k a = true) : insK L k v = ⟨k, v⟩ :: L := by
  cases L with
  | nil => rfl
  | cons b L =>
    have h1 := (List.pairwise_cons.1 h).1 b (by simp)
    have e1 : a.k.toList = k.toList := by simpa [eqKv, eqK] using hk
    unfold ltK at h1
    rw [e1] at h1
    unfold insK
    rw [if_pos (show gtKv k b = true from h1)]
theorem text_inj {a b : ByteArray} (h : a.toList = b.toList) : a = b := by
  rw [Lib.toList_data, Lib.toList_data] at h
  exact Go.WideShapes.bytes_inj h
theorem upd_ins {L : List Kv} (h : Rise L) {k v : ByteArray} (hk : hasK L k = true) : updK L k v = insK (delK L k) k v := by
  induction L with
  | nil => cases hk
  | cons a L ih =>
    unfold updK
    cases e : eqKv k a with
    | true =>
      have e1 : a.k = k := text_inj (by simpa [eqKv, eqK] using e)
      have hd : delK (a :: L) k = L := by
        have : delK (a :: L) k = delK L k := by
          unfold delK
          rw [List.filter_cons, e]
          rfl
        rw [this, delK_none (rise_no h e)]
      rw [if_pos rfl, hd, ins_first h e, e1]
    | false =>
      rw [hasK_cons, e, Bool.false_or] at hk
      have hd : delK (a :: L) k = a :: delK L k := by
        unfold delK
        rw [List.filter_cons, e]
        rfl
      rw [if_neg Bool.false_ne_true, hd, ih (List.pairwise_cons.1 h).2 hk]
      have hg : gtKv k a = false := by
        unfold hasK at hk
        obtain ⟨x, hx, ex⟩ := List.any_eq_true.1 hk
        have h1 := (List.pairwise_cons.1 h).1 x hx
        have e2 : x.k.toList = k.toList := by simpa [eqKv, eqK] using ex
        unfold ltK at h1
        rw [e2] at h1
        exact lessK_asym h1
      conv => rhs; unfold insK
      rw [hg]
      rfl
theorem set_ins {L : List Kv} (h : Rise L) (k v : ByteArray) : setK L k v = insK (delK L k) k v := by
  cases hk : hasK L k with
  | true => rw [setK_has hk, upd_ins h hk]
  | false => rw [setK_new hk, delK_none hk]
/-! ### How a pair reads as an element of a map -/
def Kv.dat (x : Kv) : DataW Unit := .agg [.lit (.string x.k.data.toList), .lit (.string x.v.data.toList)]
def Kv.agg (x : Kv) : Value := .agg #[.string x.k, .string x.v]
def pairE : Value → Option (DataW Unit × List MemPlace)
  | .agg ⟨[.string s, .string t]⟩ => some (.agg [.lit (.string s.data.toList), .lit (.string t.data.toList)], [])
  | _ => none
theorem pairE_mk (x : Kv) : pairE x.agg = some (x.dat, []) := rfl
theorem pairE_inv {v : Value} {y : DataW Unit × List MemPlace} (h : pairE v = some y) : ∃ x : Kv, v = x.agg ∧ y = (x.dat, []) := by
  unfold pairE at h
  split at h
  · rename_i s t
    cases h
    exact ⟨⟨s, t⟩, rfl, rfl⟩
  · cases h
theorem kdat_inj {x y : Kv} (h : x.dat = y.dat) : x = y := by
  obtain ⟨a, b⟩ := x
  obtain ⟨c, d⟩ := y
  simp [Kv.dat] at h
  obtain ⟨h1, h2⟩ := h
  rw [show a = c from Go.WideShapes.bytes_inj (by rw [h1]), show b = d from Go.WideShapes.bytes_inj (by rw [h2])]
/-- Pairs as the datum of a map. -/
def MdK (L : List Kv) : DataW Unit := .map (L.map fun x => (.string x.k.data.toList, x.dat))
theorem before_strK (a b : List UInt8) : Lit.before (.string a) (.string b) = Op.bytesLess a b := by
  show bytesBefore a b = _
  induction a generalizing b with
  | nil => cases b <;> rfl
  | cons x a ih =>
    cases b with
    | nil => rfl
    | cons y b =>
      show (decide (x < y) || (x == y && bytesBefore a b)) = (decide (x < y) || (x == y && Op.bytesLess a b))
      rw [ih]
theorem mdK_size (L : List Kv) : Maps.size (MdK L) = L.length := by simp [Maps.size, MdK]
theorem mdK_del (L : List Kv) (k : ByteArray) : (MdK L).del (.string k.data.toList) = MdK (delK L k) := by
  unfold MdK DataW.del delK
  simp only [List.filter_map]
  congr 2
  apply List.filter_congr
  intro x _
  show (!(x.k.data.toList == k.data.toList)) = (!(x.k.toList == k.toList))
  rw [Lib.toList_data, Lib.toList_data]
theorem mdK_insert (L : List Kv) (k v : ByteArray) : DataW.insert (.string k.data.toList, (Kv.mk k v).dat) (L.map fun x => (.string x.k.data.toList, x.dat)) = (insK L k v).map fun x => (.string x.k.data.toList, x.dat) := by
  induction L with
  | nil => rfl
  | cons a L ih =>
    unfold insK
    simp only [List.map_cons, DataW.insert]
    rw [before_strK, show gtKv k a = Op.bytesLess k.data.toList a.k.data.toList by unfold gtKv ltK; rw [Lib.toList_data, Lib.toList_data]]
    split
    · rfl
    · rw [ih]; rfl
theorem mdK_put {L : List Kv} (h : Rise L) (k v : ByteArray) : (MdK L).put (.string k.data.toList) (Kv.mk k v).dat = MdK (setK L k v) := by
  have hd := mdK_del L k
  rw [set_ins h]
  unfold MdK DataW.del at hd
  unfold MdK DataW.put
  simp only [DataW.map.injEq] at hd ⊢
  rw [hd, mdK_insert]
/-! ### A map of pairs in memory -/
theorem str_lawK : Maps.Keyed Try.prog 9 := Maps.string_keyed Try.underlying9
/-- Block b is a map that holds the pairs L. -/
def MapK (w : World) (b : Nat) (L : List Kv) : Prop := w.ownsMap Try.prog 9 pairE b L.length (MdK L)
theorem ownK_tight {w : World} {b n : Nat} {L : List Kv} (h : w.ownsMap Try.prog 9 pairE b n (MdK L)) : MapK w b L := by
  obtain ⟨es, clock, hb, F, hs, hD⟩ := h
  refine ⟨es, clock, hb, F, ?_, hD⟩
  have h1 := mdK_size L
  rw [hD] at h1
  simp only [Maps.size] at h1
  rw [length_sorted] at h1
  simp at h1
  omega
theorem MapK.stay {w w' : World} {b : Nat} {L : List Kv} (h : MapK w b L) (hb : w'.heap[b]? = w.heap[b]?) : MapK w' b L := by
  obtain ⟨es, clock, h1, h2⟩ := h
  exact ⟨es, clock, hb.trans h1, h2⟩
theorem MapK.lt {w : World} {b : Nat} {L : List Kv} (h : MapK w b L) : b < w.heap.size := World.ownsMap.lt h
theorem mapK_new (w : World) : MapK (w.alloc (.map #[] 0)) w.heap.size [] := World.ownsMap_made _ _ _ _
theorem keyK_of (k : ByteArray) (h : k.size ≤ 1073741824) : keyOf Try.prog 9 (.string k) = some (.string k.data.toList) :=
  WideMaps.keyOf_string_mk (P := Try.prog) Try.underlying9 (by unfold maxLen; omega)
theorem stay_turned {w w' : World} {b : Nat} (h : w.mapTurned w' b) : Stay (fun k => k = b) w w' := ⟨h.grown.os, h.grown.tape, h.grown.output, h.grown.size, fun k hk hl => h.grown.block k hl (fun e => hk (by cases e; rfl))⟩
/-- A pair set in the map. -/
theorem MapK.sets {w : World} {b : Nat} {L : List Kv} (h : MapK w b L) (hr : Rise L) (hl : L.length < 1048576) (k v : ByteArray) (hk : k.size ≤ 1073741824) :
    ∃ w', (Instr.mapUpdate 62 (.map (some b)) (.string k) (.agg #[.string k, .string v])).run Try.prog w = .ok () w' ∧ MapK w' b (setK L k v) ∧ Stay (fun k => k = b) w w' := by
  obtain ⟨w', hrun, h1, h2⟩ := World.ownsMap.store h str_lawK Try.underlying62 (by unfold maxLen; omega) (keyK_of k hk) (pairE_mk ⟨k, v⟩)
  rw [mdK_put hr] at h1
  exact ⟨w', hrun, ownK_tight h1, stay_turned h2⟩
/-- A key taken out of the map. -/
theorem MapK.drops {w : World} {b : Nat} {L : List Kv} (h : MapK w b L) (k : ByteArray) (hk : k.size ≤ 1073741824) (ty : TypeId) :
    ∃ w', (Builtin.delete_ #[62, 9] ty #[.map (some b), .string k]).run Try.prog w = .ok (.tuple #[]) w' ∧ MapK w' b (delK L k) ∧ Stay (fun k => k = b) w w' := by
  obtain ⟨w', hrun, h1, h2⟩ := World.ownsMap.drop h str_lawK Try.underlying62 (keyK_of k hk) ty
  rw [mdK_del] at h1
  exact ⟨w', hrun, ownK_tight h1, stay_turned h2⟩

end Go.Proofs.Ytpmgnhijiodbaaa

/-
  Proved here: texts in a row of one's own from a place on: pushed, popped.
  Conditions: less than 2^20 texts.
-/
namespace Go.Proofs.Ytpmgnhijiodbaaa
open Go Go.RowKit
set_option maxRecDepth 100000

/-! ### A queue whose front has gone: texts in a row of one's own, from a place on -/
theorem encS_map (Q : List ByteArray) : RS.enc Q = Q.map Value.string := by
  show Q.flatMap (fun s => [Value.string s]) = _
  exact (List.map_eq_flatMap).symm
/-- The slice v holds the m texts Q, in a block from base on that nobody else knows. -/
def QO (w : World) (base : Nat) (v : Value) (m : Nat) (Q : List ByteArray) : Prop :=
  Q.length = m ∧ ((v = .slice none 0 0 ∧ m = 0) ∨ ∃ g off d cur, v = .slice (some ⟨g, off, none⟩) m d ∧ base ≤ g ∧ w.heap[g]? = some (.cells cur RS.tE (0, 0)) ∧ m ≤ d ∧ d ≤ maxLen ∧ off + d ≤ cur.size ∧ ∀ (i : Nat) s, Q[i]? = some s → cur[off + i]? = some (.string s))
theorem QO.of_own {w : World} {base m : Nat} {v : Value} {Q : List ByteArray} (h : w.ownsRow base RS.tE RS.k v m (RS.enc Q)) : QO w base v m Q := by
  have hl : Q.length = m := by
    have h1 := h.1
    rw [encS_map, List.length_map] at h1
    rw [show RS.k = 1 from rfl, Nat.mul_one] at h1
    exact h1
  refine ⟨hl, ?_⟩
  rcases h.2 with ⟨rfl, e⟩ | ⟨g, cap, cur, rfl, hb, hh, h1, h2, h3, h4⟩
  · exact .inl ⟨rfl, e⟩
  · have hk : RS.k = 1 := rfl
    refine .inr ⟨g, 0, cap, cur, rfl, hb, hh, h1, h2, by rw [h3, hk]; omega, fun i s hi => ?_⟩
    have h5 : (RS.enc Q)[i]? = some (.string s) := by rw [encS_map, List.getElem?_map, hi]; rfl
    rw [← h4, List.getElem?_take] at h5
    split at h5
    · rw [Nat.zero_add, ← Array.getElem?_toList]; exact h5
    · cases h5
theorem QO.nil (w : World) (base : Nat) : QO w base (.slice none 0 0) 0 [] := ⟨rfl, .inl ⟨rfl, rfl⟩⟩
theorem QO.stay {w w' : World} {base m : Nat} {v : Value} {Q : List ByteArray} (h : QO w base v m Q) (hb : ∀ k, v.ownBlock = some k → w'.heap[k]? = w.heap[k]?) : QO w' base v m Q := by
  refine ⟨h.1, h.2.imp id ?_⟩
  rintro ⟨g, off, d, cur, rfl, h1, h2, h3⟩
  exact ⟨g, off, d, cur, rfl, h1, (hb g rfl).trans h2, h3⟩
theorem QO.lt {w : World} {base m : Nat} {v : Value} {Q : List ByteArray} (h : QO w base v m Q) {k : Nat} (hk : v.ownBlock = some k) : base ≤ k ∧ k < w.heap.size := by
  rcases h.2 with ⟨rfl, _⟩ | ⟨g, off, d, cur, rfl, h1, h2, _⟩
  · cases hk
  · cases hk
    exact ⟨h1, lt_of_heap h2⟩
/-- The queue's form, and its texts as a row. -/
theorem QO.row {w : World} {base m : Nat} {v : Value} {Q : List ByteArray} (h : QO w base v m Q) (hl : m ≤ 1048576) : ∃ A d, v = .slice A m d ∧ m ≤ d ∧ d ≤ maxLen ∧ RS.Row w A Q ∧ (A = none → m = 0 ∧ d = 0) := by
  rcases h.2 with ⟨rfl, e⟩ | ⟨g, off, d, cur, rfl, h1, h2, h3, h4, h5, h6⟩
  · subst e
    obtain rfl : Q = [] := List.eq_nil_of_length_eq_zero h.1
    exact ⟨none, 0, rfl, Nat.le_refl _, Nat.zero_le _, RS.row_nil _ _, fun _ => ⟨rfl, rfl⟩⟩
  · refine ⟨_, d, rfl, h3, h4, ⟨by rw [h.1]; exact hl, fun _ => ⟨g, off, rfl, lt_of_heap h2, fun i s hi j u hu => ?_⟩⟩, fun e => by cases e⟩
    have hj : j = 0 := by
      have := (List.getElem?_eq_some_iff.1 hu).1
      have h7 : (RS.cells s).length = 1 := RS.klen s
      omega
    subst hj
    cases hu
    have h8 := h6 i s hi
    have hk : RS.k = 1 := rfl
    rw [hk]
    simp [World.cell?, h2, h8]
/-- The first text gone. -/
theorem QO.pop {w : World} {base m d g off : Nat} {Q : List ByteArray} (h : QO w base (.slice (some ⟨g, off, none⟩) (m + 1) d) (m + 1) Q) : QO w base (.slice (if d = 1 then some ⟨g, off, none⟩ else some ⟨g, off + 1, none⟩) m (d - 1)) m Q.tail := by
  rcases h.2 with ⟨e, _⟩ | ⟨g', off', d', cur, e, h1, h2, h3, h4, h5, h6⟩
  · cases e
  · cases e
    have hl : Q.tail.length = m := by rw [List.length_tail, h.1]; rfl
    refine ⟨hl, .inr ?_⟩
    by_cases hd : d = 1
    · rw [if_pos hd]
      subst hd
      obtain rfl : m = 0 := by omega
      refine ⟨g, off, 0, cur, rfl, h1, h2, Nat.le_refl _, Nat.zero_le _, by omega, fun i s hi => ?_⟩
      rw [List.eq_nil_of_length_eq_zero hl] at hi
      cases hi
    · rw [if_neg hd]
      refine ⟨g, off + 1, d - 1, cur, rfl, h1, h2, by omega, by omega, by omega, fun i s hi => ?_⟩
      rw [List.getElem?_tail] at hi
      have := h6 (i + 1) s hi
      rw [show off + 1 + i = off + (i + 1) by omega]
      exact this
/-- One text more. -/
theorem QO.push {w : World} {base m : Nat} {v : Value} {Q : List ByteArray} (h : QO w base v m Q) (hl : m < 1048576) (hb : base ≤ w.heap.size) (x : ByteArray) (ty : TypeId) :
    ∃ v' w', (Builtin.append_ #[23, 23] ty #[v, .slice (some ⟨w.heap.size, 0, none⟩) 1 1]).run Try.prog (w.alloc (.cells #[.string x] 9)) = .ok v' w' ∧ QO w' base v' (m + 1) (Q ++ [x]) ∧ Stay (fun k => v.ownBlock = some k) w w' := by
  rcases h.2 with ⟨rfl, rfl⟩ | ⟨g, off, d, cur, rfl, h1, h2, h3, h4, h5, h6⟩
  · obtain rfl : Q = [] := List.eq_nil_of_length_eq_zero h.1
    obtain ⟨v', w', e1, e2, e3, _⟩ := RS.run_app_one w base 0 (.slice none 0 0) [] x (World.ownsRow_nil _ _ _ _) (by omega) hb ty
    exact ⟨v', w', e1, QO.of_own e2, Stay.of_grown e3⟩
  · obtain ⟨i, hi, hz, hs, hy⟩ := RS.info
    have hk : RS.k = 1 := rfl
    have hgl : g < w.heap.size := lt_of_heap h2
    obtain ⟨w1, hw1⟩ : ∃ w1, w.alloc (.cells #[.string x] 9) = w1 := ⟨_, rfl⟩
    have hsz1 : w1.heap.size = w.heap.size + 1 := by rw [← hw1]; simp
    have hx : w1.heap[w.heap.size]? = some (.cells #[.string x] 9 (0, 0)) := by rw [← hw1]; exact heap_alloc_new w _
    have hg1 : w1.heap[g]? = some (.cells cur RS.tE (0, 0)) := by rw [← hw1]; exact (Below.heap_alloc w _ g hgl).trans h2
    have hnews : ∀ (j : Nat) (u : Value), [Value.string x][j]? = some u → w1.cell? ((⟨w.heap.size, 0, none⟩ : Addr).add j) = some u := fun j u hu => by
      have hj : j = 0 := by
        have := (List.getElem?_eq_some_iff.1 hu).1
        simp at this
        omega
      subst hj
      cases hu
      simp [Addr.add, World.cell?, hx]
    have h1c : ∀ u ∈ [Value.string x], u.oneCell' = true := fun u hu => by
      simp only [List.mem_cons, List.not_mem_nil, or_false] at hu
      subst hu
      rfl
    have hst1 : Stay (fun k => (Value.slice (some ⟨g, off, none⟩) m d).ownBlock = some k) w w1 := by rw [← hw1]; exact Stay.of_below ((Below.refl _ _).alloc (Nat.le_refl _) _)
    rw [hw1]
    by_cases hroom : m + 1 ≤ d
    · have hin : off + m < cur.size := by omega
      have hr := Go.run_append_room_src (P := Try.prog) w1 23 23 ty 9 i RS.und hi g off m d (.slice (some ⟨w.heap.size, 0, none⟩) 1 1) 1 [.string x] (Go.Src.ofSlice w1 RS.und ⟨w.heap.size, 0, none⟩ 1 1 [.string x] (by rw [hs]; rfl) hnews h1c) hroom (fun j hj => by
        have hj0 : j = 0 := by simp at hj; omega
        subst hj0
        rw [hs, hk]
        simp [World.cell?, hg1, hin]) (fun j hj => by simp [World.frozen?, hg1])
      have hw : w1.setCells g (off + m * i.size) [.string x] = w1.setCell ⟨g, off + m, none⟩ (.string x) := by rw [hs, hk, Nat.mul_one]; rfl
      rw [hw] at hr
      have hset := heap_setCell_same w1 g (off + m) cur RS.tE (.string x) hg1
      refine ⟨_, _, hr, ⟨by rw [List.length_append, h.1]; rfl, .inr ⟨g, off, d, _, rfl, h1, hset, hroom, h4, by simp; exact h5, fun j s hj => ?_⟩⟩, hst1.trans (Stay.setCell w1 g (off + m) (.string x) rfl)⟩
      rcases Nat.lt_or_ge j m with hj1 | hj1
      · rw [List.getElem?_append_left (by rw [h.1]; exact hj1)] at hj
        have := h6 j s hj
        rw [Array.getElem?_setIfInBounds_ne (by omega)]
        exact this
      · rw [List.getElem?_append_right (by rw [h.1]; exact hj1)] at hj
        have hj2 : j - Q.length = 0 := by
          have := (List.getElem?_eq_some_iff.1 hj).1
          simp at this
          omega
        rw [hj2] at hj
        cases hj
        have hjm : j = m := by have := h.1; omega
        subst hjm
        rw [Array.getElem?_setIfInBounds_self_of_lt hin]
    · have holds : ∀ (j : Nat) (u : Value), (RS.enc Q)[j]? = some u → w1.cell? ((⟨g, off, none⟩ : Addr).add j) = some u := fun j u hu => by
        rw [encS_map, List.getElem?_map, Option.map_eq_some_iff] at hu
        obtain ⟨s, e1, rfl⟩ := hu
        have := h6 j s e1
        rw [add_plain]
        simp [World.cell?, hg1, this]
      have hr := run_append_grow (P := Try.prog) w1 23 ty 9 i RS.zv RS.und hi hz ⟨g, off, none⟩ m d (RS.enc Q) (by rw [encS_map, List.length_map, h.1, hs, hk, Nat.mul_one]) holds ⟨w.heap.size, 0, none⟩ 1 1 [.string x] (by rw [hs]; rfl) hnews (by omega) (by omega) (growslice_fits (by omega) (by rw [hy]; show _ * 16 ≤ _; omega))
      have hrow : (w1.drew.alloc (.cells ((RS.enc Q).toArray ++ [Value.string x].toArray ++ Builtin.zeroCells RS.zv.cells (grownCap w1 (m + 1) d 9 - (m + 1))) 9)).ownsRow base RS.tE RS.k (.slice (some ⟨w1.heap.size, 0, none⟩) (m + 1) (grownCap w1 (m + 1) d 9)) (m + 1) (RS.enc (Q ++ [x])) := by
        have hge := grownCap_ge w1 (m + 1) d 9
        have hlen : (RS.enc Q ++ [Value.string x]).length = m + 1 := by rw [encS_map, List.length_append, List.length_map, h.1]; rfl
        refine ⟨by rw [encS_map, List.length_map, List.length_append, h.1, hk, Nat.mul_one]; rfl, .inr ⟨w1.heap.size, _, _, rfl, by omega, heap_alloc_new w1.drew _, hge, grownCap_le_maxLen w1 (m + 1) d _ (by unfold maxLen; omega), ?_, ?_⟩⟩
        · simp only [Array.size_append, List.size_toArray, size_zeroCells, RS.zk, hk, Nat.mul_one]
          rw [encS_map, List.length_map, h.1]
          show m + 1 + _ = _
          omega
        · simp only [Array.toList_append, hk, Nat.mul_one]
          rw [← hlen, show RS.enc (Q ++ [x]) = RS.enc Q ++ [Value.string x] by rw [encS_map, encS_map, List.map_append]; rfl]
          exact List.take_left
      exact ⟨_, _, hr, QO.of_own hrow, hst1.trans (Stay.of_below ((Below.refl _ _).drew.alloc (Nat.le_refl _) _))⟩

end Go.Proofs.Ytpmgnhijiodbaaa

/-
  Proved here: Replay, by the program, if the sorting does what is asked of it (SortsTo).
  Conditions: at most 1,000 effects, keys of at most 2^30 bytes.
-/
namespace Go.Proofs.Ytpmgnhijiodbaaa
open Go Go.RowKit
set_option maxRecDepth 100000

theorem rise_ef (x : Ef) {L : List Kv} (h : Rise L) : Rise (efL x L) := by
  unfold efL
  split
  · exact rise_set _ _ h
  · split
    · exact rise_del _ h
    · exact h
theorem rise_rp (up : Int) (E : List Ef) : Rise (rpS up E).1 := by
  unfold rpS
  have : ∀ (E : List Ef) (s : List Kv × List ByteArray), Rise s.1 → Rise (E.foldl (stE up) s).1 := by
    intro E
    induction E with
    | nil => exact fun s h => h
    | cons x E ih =>
      intro s h
      refine ih _ ?_
      unfold stE
      split
      · exact rise_ef x h
      · exact h
  exact this E ([], []) List.Pairwise.nil
/-- What is asked of the end: the map's pairs, collected and sorted. -/
def SortsTo (w : World) (f : Nat) : Prop := ∀ W m L, Below w.heap.size w W → MapK W m L → Rise L → L.length ≤ 1000 → Calls Try.prog 29 #[.map (some m)] W fun e W1 => ∃ cl, e = .returned cl ∧ Below W.heap.size W W1 ∧
  ∀ W2, Below W1.heap.size W1 W2 → Calls Try.prog 28 #[cl, .func (.func f) #[] #[]] W2 fun e W3 => ∃ A n c, e = .returned (.slice A n c) ∧ L.length = n ∧ W3.ownsRow W2.heap.size RP.tE RP.k (.slice A n c) n (RP.enc L) ∧ Below W2.heap.size W2 W3
set_option maxHeartbeats 3200000 in
theorem ireplay15_of {w : World} {A : Option Addr} {n c : Nat} {E : List Ef} (h : RE.Row w A E) (hn : E.length = n) (hl : n ≤ 1000) (hks : ∀ x ∈ E, x.key.size ≤ 1073741824) (up : Int) (HS : SortsTo w 30) : Calls Try.prog 10 #[.slice A n c, .int .u64 up] w (fun e w' => ∃ A' n' c' B' m' d', e = .returned (.agg #[.slice A' n' c', .slice B' m' d']) ∧ w'.ownsRow w.heap.size RP.tE RP.k (.slice A' n' c') n' (RP.enc (rpS up E).1) ∧ (rpS up E).1.length = n' ∧ QO w' w.heap.size (.slice B' m' d') m' (rpS up E).2 ∧ Below w.heap.size w w') := by
  obtain ⟨g, hg⟩ : ∃ g, w.heap.size = g := ⟨_, rfl⟩
  have HG := Lib.hid hg
  have HZ := Lib.hid zero_shelf
  have HZE := Lib.hid zero_eff
  have HR := Lib.hid h
  have HN := Lib.hid hn
  have HKS := Lib.hid hks
  have HSO := Lib.hid HS
  obtain ⟨R, hR⟩ : ∃ R : Ending → World → Prop, (fun e w' => ∃ A' n' c' B' m' d', e = .returned (.agg #[.slice A' n' c', .slice B' m' d']) ∧ w'.ownsRow w.heap.size RP.tE RP.k (.slice A' n' c') n' (RP.enc (rpS up E).1) ∧ (rpS up E).1.length = n' ∧ QO w' w.heap.size (.slice B' m' d') m' (rpS up E).2 ∧ Below w.heap.size w w') = R := ⟨_, rfl⟩
  have HRR := Lib.hid hR
  rw [hR]
  clear h hn hR hg HS hks
  go_enter Try.func10, Try.ntmps10
  go_wp2_with (first
    | ((with_reducible show wpList _ _ _ (⟨some 4, .alloc _, _, _, _, _⟩ :: _) _ _); refine wpList_alloc_var (o := ⟨some 4, _, _, _, _, _⟩) rfl 25 rfl g HG.out _ HZ.out ?_; intro v1 X4 B4; obtain ⟨mb, hmb⟩ : ∃ z, v1.heap.size = z := ⟨_, rfl⟩; have HL5 : Hid (g < mb) := (by rw [← hmb]; exact lt_of_heap X4.out); obtain ⟨v2, hv2⟩ : ∃ v2, v1.alloc (.map #[] 0) = v2 := ⟨_, rfl⟩; have hmr : Sem.run Try.prog (Instr.makeMap 62 none) v1 = .ok (.map (some mb)) v2 := (by rw [← hmb, ← hv2]; exact run_makeMap _ _); have HMK : Hid (MapK v2 mb []) := (by rw [← hmb, ← hv2]; exact mapK_new v1); have HB2 : Hid (Below mb v1 v2) := (by rw [← hmb, ← hv2]; exact (Below.refl _ _).alloc (Nat.le_refl _) _); clear hmb hv2)
    | fail)
  clear hmr
  have HX42 := Lib.hid ((HB2.out.block g HL5.out).trans X4.out)
  have HBV : Hid (Below g w v2) := B4.out.trans (HB2.out.mono (Nat.le_of_lt HL5.out))
  have HRV : Hid (RE.Row v2 A E) := HR.out.below (HG.out.symm ▸ HBV.out)
  have HAA : Hid (∀ b off, 0 < E.length → A = some ⟨b, off, none⟩ → b < g) := fun b off hpos e => by
    obtain ⟨b2, off2, e2, hlt, _⟩ := HR.out.2 hpos
    rw [e] at e2
    cases e2
    have := HG.out
    omega
  go_loopg [13, 6] n (fun gk s13 s6 wx => ∃ (i : Nat) (A9 : Option Addr) (m9 d9 : Nat), i + gk = n ∧ s13 = .int .i64 i ∧ s6 = .slice A9 m9 d9 ∧ Hid (MapK wx mb (rpS up (E.take i)).1) ∧ Hid (QO wx (mb + 1) (.slice A9 m9 d9) m9 (rpS up (E.take i)).2) ∧ Hid (Below mb v2 wx))
  case atStart => exact ⟨0, none, 0, 0, by omega, rfl, rfl, HMK, QO.nil _ _, Below.refl _ _⟩
  case round =>
    obtain ⟨i, A9, m9, d9, hig, rfl, rfl, HMr, HQr, HW⟩ := hrel
    have HX4r := Lib.hid ((HW.out.block g HL5.out).trans HX42.out)
    have HRr : Hid (RE.Row wr A E) := ⟨HRV.out.1, fun hpos => by
      obtain ⟨b2, off2, e2, _, hc2⟩ := HR.out.2 hpos
      have hb2 := HAA.out b2 off2 hpos e2
      obtain ⟨b3, off3, e3, hlt3, hc3⟩ := HRV.out.2 hpos
      rw [e3] at e2
      cases e2
      have h5 := HL5.out
      exact ⟨b2, off2, e3, Nat.lt_of_lt_of_le hlt3 HW.out.size, fun ii xx hx jj vv hv => (HW.out.cell (p := ⟨b2, off2 + ii * RE.k + jj, none⟩) (show b2 < mb by omega)).trans (hc3 ii xx hx jj vv hv)⟩⟩
    have HLr : Hid (mb < wr.heap.size) := MapK.lt HMr.out
    cases gk with
    | zero =>
      obtain rfl : i = n := by omega
      have hii : ¬ (i : Int) < (i : Int) := by omega
      have HTK : Hid (E.take i = E) := by rw [← HN.out]; exact List.take_length
      rw [HTK.out] at HMr HQr
      have HBw : Hid (Below w.heap.size w wr) := by rw [HG.out]; exact HBV.out.trans (HW.out.mono (Nat.le_of_lt HL5.out))
      have HVC := Lib.hid (HSO.out wr mb _ HBw.out HMr.out (rise_rp up E) (by have := (rpS_len up E).1; have := HN.out; omega))
      go_wp2_with fail
      refine HVC.out.mono ?_
      rintro e W1 ⟨cl, rfl, hb1, hc⟩
      have HB1 := Lib.hid hb1
      have HCC := Lib.hid (hc W1 (Below.refl _ _))
      clear hb1 hc
      go_wp2_with fail
      refine HCC.out.mono ?_
      rintro e W3 ⟨A8, n8, c8, rfl, l8, o8, hb3⟩
      have HB3 : Hid (Below wr.heap.size wr W3) := HB1.out.trans (hb3.mono HB1.out.size)
      have HO8 : Hid (W3.ownsRow (mb + 1) RP.tE RP.k (.slice A8 n8 c8) n8 (RP.enc (rpS up E).1)) := own_mono o8 (by have := HB1.out.size; have := HLr.out; omega)
      have HL8 := Lib.hid l8
      have HX43 := Lib.hid ((HB3.out.block g (Nat.lt_trans HL5.out HLr.out)).trans HX4r.out)
      have HQ3 : Hid (QO W3 (mb + 1) (.slice A9 m9 d9) m9 (rpS up E).2) := HQr.out.stay (fun k e => HB3.out.block k (HQr.out.lt e).2)
      clear o8 l8 hb3
      go_wp2_with (first
        | ((with_reducible show wpList _ _ _ (⟨none, .store _ (.tmp 4) _, _, _, _, _⟩ :: _) _ _); refine wpList_store_only (o := ⟨none, .store 25 (.tmp 4) (.tmp 58), _, _, _, _⟩) rfl _ _ _ rfl rfl g #[.slice A8 n8 c8, .slice A9 m9 d9] rfl rfl 25 _ HX43.out size_shelf rfl (onesV _ _ _ _ _ _) ?_; intro v9 X9 T9)
        | fail)
      refine bodyPost_ret (results_v1 (cs := [.slice A8 n8 c8, .slice A9 m9 d9]) rfl Try.underlying25 rfl X9.out size_shelf) rfl ?_
      rw [← HRR.out]
      have hgl := HL5.out
      have hgs := HG.out
      refine ⟨A8, n8, c8, A9, m9, d9, rfl, own_mono (own_same HO8.out (fun k e => T9.out.block k (by have := own_ge HO8.out k e; omega) (by have := own_ge HO8.out k e; omega) (own_ltN HO8.out e))) (by omega), HL8.out, ?_, ?_⟩
      · have hq := HQ3.out.stay (w' := v9) (fun k e => T9.out.block k (by have := (HQ3.out.lt e).1; omega) (by have := (HQ3.out.lt e).1; omega) (HQ3.out.lt e).2)
        exact ⟨hq.1, hq.2.imp id (fun ⟨a, b, c2, d, e1, e2, e3⟩ => ⟨a, b, c2, d, e1, by omega, e3⟩)⟩
      · exact (HBw.out.trans (HB3.out.mono HBw.out.size)).trans (turn_below T9.out (by omega) (by have := HB3.out.size; have := HBw.out.size; omega))
    | succ gk =>
      have hii : (i : Int) < (n : Int) := by omega
      have hi0 : (0 : Int) ≤ (i : Int) := by omega
      obtain ⟨x, hx⟩ : ∃ x, E[i]? = some x := ⟨_, List.getElem?_eq_getElem (by have := HN.out; omega)⟩
      obtain ⟨b1, o1, e1, hb1, k0, k1, k2, k3, k4, k5, k6⟩ := effAt HRr.out hx
      subst e1
      have HS := Lib.hid (rpS_take (up := up) hx)
      have HKX : Hid (x.key.size ≤ 1073741824) := HKS.out x (List.mem_of_getElem? hx)
      have HLN : Hid ((rpS up (E.take i)).1.length ≤ 1000 ∧ (rpS up (E.take i)).2.length ≤ 1000) := by
        have h1 := rpS_len up (E.take i)
        rw [List.length_take] at h1
        exact ⟨by omega, by omega⟩
      have HRI := Lib.hid (rise_rp up (E.take i))
      have HKD : Hid (x.kd = 1 ∨ x.kd = 2 ∨ x.kd = 3 ∨ x.kd = 4 ∨ ((x.kd == 1) = false ∧ (x.kd == 2) = false ∧ (x.kd == 3) = false ∧ (x.kd == 4) = false)) := by
        show _ ∨ _
        simp only [beq_eq_false_iff_ne]
        omega
      clear hx
      obtain ⟨y, hy⟩ : ∃ z, wr.heap.size = z := ⟨_, rfl⟩
      have HY := Lib.hid hy
      clear hy
      obtain ⟨kd, key, val, id, ver, ep, gp⟩ := x
      cases hz : decide (ep ≤ up) with
      | false =>
        have hzz : up < ep := by have := of_decide_eq_false hz; omega
        have HE : Hid (rpS up (E.take (i + 1)) = rpS up (E.take i)) := by rw [HS.out]; unfold stE; rw [hz]; rfl
        go_wp2_with (first
          | ((with_reducible show wpList _ _ _ (⟨some 8, .alloc _, _, _, _, _⟩ :: _) _ _); refine wpList_alloc_var (o := ⟨some 8, _, _, _, _, _⟩) rfl 34 rfl y HY.out _ HZE.out ?_; intro y2 Y2 D2)
          | ((with_reducible show wpList _ _ _ (⟨none, .store _ (.tmp 8) _, _, _, _, _⟩ :: _) _ _); refine wpList_store_whole (o := ⟨none, .store 34 (.tmp 8) (.tmp 16), _, _, _, _⟩) rfl _ _ _ rfl rfl y #[.int .i64 kd, .string key, .string val, .int .u64 id, .int .u64 ver, .int .u64 ep, .int .i64 gp] rfl rfl 34 _ Y2.out size_eff rfl (onesE _ _ _ _ _ _ _) ?_; intro y3 Y3 D3; have HDy : Hid (Below y wr y3) := D2.out.trans D3.out; obtain ⟨z0, z1, z2, z3, z4, z5, z6⟩ := EBox.at_ (x := ⟨kd, key, val, id, ver, ep, gp⟩) Y3.out; clear k0 k1 k2 k3 k4 k5 k6)
          | fail)
        go_roundg gk
        case measure => omega
        case rel =>
          refine ⟨i + 1, A9, m9, d9, by omega, by go_num, rfl, ?_, ?_, HW.out.trans (HDy.out.mono (by have := HY.out; have := HLr.out; omega))⟩
          · show MapK _ _ _
            rw [HE.out]
            exact HMr.out.stay (HDy.out.block mb (by have := HY.out; have := HLr.out; omega))
          · show QO _ _ _ _ _
            rw [HE.out]
            exact HQr.out.stay (fun k e => HDy.out.block k (by have := (HQr.out.lt e).2; have := HY.out; omega))
      | true =>
        have hzz : ¬ up < ep := by have := of_decide_eq_true hz; omega
        have HE : Hid (rpS up (E.take (i + 1)) = (efL ⟨kd, key, val, id, ver, ep, gp⟩ (rpS up (E.take i)).1, efQ ⟨kd, key, val, id, ver, ep, gp⟩ (rpS up (E.take i)).2)) := by rw [HS.out]; unfold stE; rw [hz]; rfl
        clear hz
        rcases HKD.out with h | h | h | h | ⟨hz1, hz2, hz3, hz4⟩
        · obtain rfl : kd = 1 := h
          clear HKD
          obtain ⟨q1, q2⟩ := ef_1 (e := ⟨1, key, val, id, ver, ep, gp⟩) rfl (rpS up (E.take i)).1 (rpS up (E.take i)).2
          rw [q1, q2] at HE
          clear q1 q2
          go_wp2_with (first
            | ((with_reducible show wpList _ _ _ (⟨some 8, .alloc _, _, _, _, _⟩ :: _) _ _); refine wpList_alloc_var (o := ⟨some 8, _, _, _, _, _⟩) rfl 34 rfl y HY.out _ HZE.out ?_; intro y2 Y2 D2)
            | ((with_reducible show wpList _ _ _ (⟨none, .store _ (.tmp 8) _, _, _, _, _⟩ :: _) _ _); refine wpList_store_whole (o := ⟨none, .store 34 (.tmp 8) (.tmp 16), _, _, _, _⟩) rfl _ _ _ rfl rfl y #[.int .i64 1, .string key, .string val, .int .u64 id, .int .u64 ver, .int .u64 ep, .int .i64 gp] rfl rfl 34 _ Y2.out size_eff rfl (onesE _ _ _ _ _ _ _) ?_; intro y3 Y3 D3; have HDy : Hid (Below y wr y3) := D2.out.trans D3.out; obtain ⟨z0, z1, z2, z3, z4, z5, z6⟩ := EBox.at_ (x := ⟨1, key, val, id, ver, ep, gp⟩) Y3.out; clear k0 k1 k2 k3 k4 k5 k6; obtain ⟨w7, r7, m7, t7⟩ := MapK.sets (HMr.out.stay (HDy.out.block mb (by have := HY.out; have := HLr.out; omega))) HRI.out (Nat.lt_of_le_of_lt HLN.out.1 (by omega)) key val HKX.out; have HM7 := Lib.hid m7; have HT7 := Lib.hid t7; clear m7 t7)
            | fail)
          go_roundg gk
          case measure => omega
          case rel =>
            refine ⟨i + 1, A9, m9, d9, by omega, by go_num, rfl, ?_, ?_, HW.out.trans ((HDy.out.mono (by have := HY.out; have := HLr.out; omega)).trans (HT7.out.below (fun k e => Nat.le_of_eq (show mb = k from (show k = mb from e).symm)) (by have := HDy.out.size; have := HY.out; have := HLr.out; omega)))⟩
            · show MapK _ _ _
              rw [HE.out]
              exact HM7.out
            · show QO _ _ _ _ _
              rw [HE.out]
              exact (HQr.out.stay (fun k e => HDy.out.block k (by have := (HQr.out.lt e).2; have := HY.out; omega))).stay (fun k e => HT7.out.block k (fun e2 => by have := (HQr.out.lt e).1; have e3 : k = mb := e2; omega) (Nat.lt_of_lt_of_le (HQr.out.lt e).2 (by have := HDy.out.size; have := HY.out; omega)))
        · obtain rfl : kd = 2 := h
          clear HKD
          obtain ⟨q1, q2⟩ := ef_2 (e := ⟨2, key, val, id, ver, ep, gp⟩) rfl (rpS up (E.take i)).1 (rpS up (E.take i)).2
          rw [q1, q2] at HE
          clear q1 q2
          go_wp2_with (first
            | ((with_reducible show wpList _ _ _ (⟨some 8, .alloc _, _, _, _, _⟩ :: _) _ _); refine wpList_alloc_var (o := ⟨some 8, _, _, _, _, _⟩) rfl 34 rfl y HY.out _ HZE.out ?_; intro y2 Y2 D2)
            | ((with_reducible show wpList _ _ _ (⟨none, .store _ (.tmp 8) _, _, _, _, _⟩ :: _) _ _); refine wpList_store_whole (o := ⟨none, .store 34 (.tmp 8) (.tmp 16), _, _, _, _⟩) rfl _ _ _ rfl rfl y #[.int .i64 2, .string key, .string val, .int .u64 id, .int .u64 ver, .int .u64 ep, .int .i64 gp] rfl rfl 34 _ Y2.out size_eff rfl (onesE _ _ _ _ _ _ _) ?_; intro y3 Y3 D3; have HDy : Hid (Below y wr y3) := D2.out.trans D3.out; obtain ⟨z0, z1, z2, z3, z4, z5, z6⟩ := EBox.at_ (x := ⟨2, key, val, id, ver, ep, gp⟩) Y3.out; clear k0 k1 k2 k3 k4 k5 k6; obtain ⟨w7, r7, m7, t7⟩ := MapK.drops (HMr.out.stay (HDy.out.block mb (by have := HY.out; have := HLr.out; omega))) key HKX.out 0; have HM7 := Lib.hid m7; have HT7 := Lib.hid t7; clear m7 t7)
            | fail)
          go_roundg gk
          case measure => omega
          case rel =>
            refine ⟨i + 1, A9, m9, d9, by omega, by go_num, rfl, ?_, ?_, HW.out.trans ((HDy.out.mono (by have := HY.out; have := HLr.out; omega)).trans (HT7.out.below (fun k e => Nat.le_of_eq (show mb = k from (show k = mb from e).symm)) (by have := HDy.out.size; have := HY.out; have := HLr.out; omega)))⟩
            · show MapK _ _ _
              rw [HE.out]
              exact HM7.out
            · show QO _ _ _ _ _
              rw [HE.out]
              exact (HQr.out.stay (fun k e => HDy.out.block k (by have := (HQr.out.lt e).2; have := HY.out; omega))).stay (fun k e => HT7.out.block k (fun e2 => by have := (HQr.out.lt e).1; have e3 : k = mb := e2; omega) (Nat.lt_of_lt_of_le (HQr.out.lt e).2 (by have := HDy.out.size; have := HY.out; omega)))
        · obtain rfl : kd = 3 := h
          clear HKD
          obtain ⟨q1, q2⟩ := ef_3 (e := ⟨3, key, val, id, ver, ep, gp⟩) rfl (rpS up (E.take i)).1 (rpS up (E.take i)).2
          rw [q1, q2] at HE
          clear q1 q2
          go_wp2_with (first
            | ((with_reducible show wpList _ _ _ (⟨some 8, .alloc _, _, _, _, _⟩ :: _) _ _); refine wpList_alloc_var (o := ⟨some 8, _, _, _, _, _⟩) rfl 34 rfl y HY.out _ HZE.out ?_; intro y2 Y2 D2)
            | ((with_reducible show wpList _ _ _ (⟨none, .store _ (.tmp 8) _, _, _, _, _⟩ :: _) _ _); refine wpList_store_whole (o := ⟨none, .store 34 (.tmp 8) (.tmp 16), _, _, _, _⟩) rfl _ _ _ rfl rfl y #[.int .i64 3, .string key, .string val, .int .u64 id, .int .u64 ver, .int .u64 ep, .int .i64 gp] rfl rfl 34 _ Y2.out size_eff rfl (onesE _ _ _ _ _ _ _) ?_; intro y3 Y3 D3; have HDy : Hid (Below y wr y3) := D2.out.trans D3.out; obtain ⟨z0, z1, z2, z3, z4, z5, z6⟩ := EBox.at_ (x := ⟨3, key, val, id, ver, ep, gp⟩) Y3.out; clear k0 k1 k2 k3 k4 k5 k6; have hm9 : m9 < 1048576 := (by have := HQr.out.1; have := HLN.out.2; omega); obtain ⟨V7, w7, r7, m7, t7⟩ := QO.push (HQr.out.stay (fun k e => HDy.out.block k (by have := (HQr.out.lt e).2; have := HY.out; omega))) hm9 (by have := HDy.out.size; have := HY.out; have := HLr.out; omega) val 23; obtain ⟨A7, d7, rfl, -⟩ := QO.row m7 (by omega); have HRUN := Lib.hid r7; have HM7 := Lib.hid m7; have HT7 := Lib.hid t7; clear r7 m7 t7)
            | (at_builtin; refine wpList_app rfl (.tmp 40) (.tmp 43) 23 rfl rfl rfl HRUN.out ?_)
            | fail)
          go_roundg gk
          case measure => omega
          case rel =>
            refine ⟨i + 1, A7, m9 + 1, d7, by omega, by go_num, by go_num, ?_, ?_, HW.out.trans ((HDy.out.mono (by have := HY.out; have := HLr.out; omega)).trans (HT7.out.below (fun k e => by have := (HQr.out.lt e).1; omega) (by have := HDy.out.size; have := HY.out; have := HLr.out; omega)))⟩
            · show MapK _ _ _
              rw [HE.out]
              exact (HMr.out.stay (HDy.out.block mb (by have := HY.out; have := HLr.out; omega))).stay (HT7.out.block mb (fun e => by have := (HQr.out.lt e).1; omega) (by have := HDy.out.size; have := HY.out; have := HLr.out; omega))
            · show QO _ _ _ _ _
              rw [HE.out]
              exact HM7.out
        · obtain rfl : kd = 4 := h
          clear HKD
          obtain ⟨q1, q2⟩ := ef_4 (e := ⟨4, key, val, id, ver, ep, gp⟩) rfl (rpS up (E.take i)).1 (rpS up (E.take i)).2
          rw [q1, q2] at HE
          clear q1 q2
          rcases HQr.out.2 with ⟨e, e0⟩ | ⟨b9, f9, dd, cur, e, e1, e2, e3, -⟩
          · cases e
            have HQ0 : Hid ((rpS up (E.take i)).2 = []) := List.eq_nil_of_length_eq_zero HQr.out.1
            go_wp2_with (first
              | ((with_reducible show wpList _ _ _ (⟨some 8, .alloc _, _, _, _, _⟩ :: _) _ _); refine wpList_alloc_var (o := ⟨some 8, _, _, _, _, _⟩) rfl 34 rfl y HY.out _ HZE.out ?_; intro y2 Y2 D2)
              | ((with_reducible show wpList _ _ _ (⟨none, .store _ (.tmp 8) _, _, _, _, _⟩ :: _) _ _); refine wpList_store_whole (o := ⟨none, .store 34 (.tmp 8) (.tmp 16), _, _, _, _⟩) rfl _ _ _ rfl rfl y #[.int .i64 4, .string key, .string val, .int .u64 id, .int .u64 ver, .int .u64 ep, .int .i64 gp] rfl rfl 34 _ Y2.out size_eff rfl (onesE _ _ _ _ _ _ _) ?_; intro y3 Y3 D3; have HDy : Hid (Below y wr y3) := D2.out.trans D3.out; obtain ⟨z0, z1, z2, z3, z4, z5, z6⟩ := EBox.at_ (x := ⟨4, key, val, id, ver, ep, gp⟩) Y3.out; clear k0 k1 k2 k3 k4 k5 k6)
              | fail)
            go_roundg gk
            case measure => omega
            case rel =>
              refine ⟨i + 1, none, 0, 0, by omega, by go_num, rfl, ?_, ?_, HW.out.trans ((HDy.out.mono (by have := HY.out; have := HLr.out; omega)))⟩
              · show MapK _ _ _
                rw [HE.out]
                exact (HMr.out.stay (HDy.out.block mb (by have := HY.out; have := HLr.out; omega)))
              · show QO _ _ _ _ _
                rw [HE.out]
                exact by rw [HQ0.out]; exact QO.nil _ _

          · cases e
            have hd9 : m9 ≤ d9 := e3
            have hb9 : b9 < wr.heap.size := lt_of_heap e2
            clear e1 e2 e3
            cases m9 with
            | zero =>
              have HQ0 : Hid ((rpS up (E.take i)).2.tail = (rpS up (E.take i)).2) := by
                show _ = _
                rw [List.eq_nil_of_length_eq_zero HQr.out.1]
                rfl
              go_wp2_with (first
              | ((with_reducible show wpList _ _ _ (⟨some 8, .alloc _, _, _, _, _⟩ :: _) _ _); refine wpList_alloc_var (o := ⟨some 8, _, _, _, _, _⟩) rfl 34 rfl y HY.out _ HZE.out ?_; intro y2 Y2 D2)
              | ((with_reducible show wpList _ _ _ (⟨none, .store _ (.tmp 8) _, _, _, _, _⟩ :: _) _ _); refine wpList_store_whole (o := ⟨none, .store 34 (.tmp 8) (.tmp 16), _, _, _, _⟩) rfl _ _ _ rfl rfl y #[.int .i64 4, .string key, .string val, .int .u64 id, .int .u64 ver, .int .u64 ep, .int .i64 gp] rfl rfl 34 _ Y2.out size_eff rfl (onesE _ _ _ _ _ _ _) ?_; intro y3 Y3 D3; have HDy : Hid (Below y wr y3) := D2.out.trans D3.out; obtain ⟨z0, z1, z2, z3, z4, z5, z6⟩ := EBox.at_ (x := ⟨4, key, val, id, ver, ep, gp⟩) Y3.out; clear k0 k1 k2 k3 k4 k5 k6)
              | fail)
              go_roundg gk
              case measure => omega
              case rel =>
                refine ⟨i + 1, some ⟨b9, f9, none⟩, 0, d9, by omega, by go_num, rfl, ?_, ?_, HW.out.trans ((HDy.out.mono (by have := HY.out; have := HLr.out; omega)))⟩
                · show MapK _ _ _
                  rw [HE.out]
                  exact (HMr.out.stay (HDy.out.block mb (by have := HY.out; have := HLr.out; omega)))
                · show QO _ _ _ _ _
                  rw [HE.out]
                  exact by rw [HQ0.out]; exact (HQr.out.stay (fun k e => HDy.out.block k (by have := (HQr.out.lt e).2; have := HY.out; omega)))

            | succ m9 =>
              by_cases hd1 : d9 = 1
              · subst hd1
                obtain rfl : m9 = 0 := by omega
                have HP : Hid (QO wr (mb + 1) (.slice (some ⟨b9, f9, none⟩) 0 0) 0 (rpS up (E.take i)).2.tail) := by
                  have hp := HQr.out.pop
                  rw [if_pos rfl] at hp
                  exact hp
                go_wp2_with (first
                | ((with_reducible show wpList _ _ _ (⟨some 8, .alloc _, _, _, _, _⟩ :: _) _ _); refine wpList_alloc_var (o := ⟨some 8, _, _, _, _, _⟩) rfl 34 rfl y HY.out _ HZE.out ?_; intro y2 Y2 D2)
                | ((with_reducible show wpList _ _ _ (⟨none, .store _ (.tmp 8) _, _, _, _, _⟩ :: _) _ _); refine wpList_store_whole (o := ⟨none, .store 34 (.tmp 8) (.tmp 16), _, _, _, _⟩) rfl _ _ _ rfl rfl y #[.int .i64 4, .string key, .string val, .int .u64 id, .int .u64 ver, .int .u64 ep, .int .i64 gp] rfl rfl 34 _ Y2.out size_eff rfl (onesE _ _ _ _ _ _ _) ?_; intro y3 Y3 D3; have HDy : Hid (Below y wr y3) := D2.out.trans D3.out; obtain ⟨z0, z1, z2, z3, z4, z5, z6⟩ := EBox.at_ (x := ⟨4, key, val, id, ver, ep, gp⟩) Y3.out; clear k0 k1 k2 k3 k4 k5 k6)
                | fail)
                go_roundg gk
                case measure => omega
                case rel =>
                  refine ⟨i + 1, some ⟨b9, f9, none⟩, 0, 0, by omega, by go_num, rfl, ?_, ?_, HW.out.trans ((HDy.out.mono (by have := HY.out; have := HLr.out; omega)))⟩
                  · show MapK _ _ _
                    rw [HE.out]
                    exact (HMr.out.stay (HDy.out.block mb (by have := HY.out; have := HLr.out; omega)))
                  · show QO _ _ _ _ _
                    rw [HE.out]
                    exact HP.out.stay (fun k e => HDy.out.block k (by have := (HP.out.lt e).2; have := HY.out; omega))

              · have HP : Hid (QO wr (mb + 1) (.slice (some ⟨b9, f9 + 1, none⟩) m9 (d9 - 1)) m9 (rpS up (E.take i)).2.tail) := by
                  have hp := HQr.out.pop
                  rw [if_neg hd1] at hp
                  exact hp
                go_wp2_with (first
                | ((with_reducible show wpList _ _ _ (⟨some 8, .alloc _, _, _, _, _⟩ :: _) _ _); refine wpList_alloc_var (o := ⟨some 8, _, _, _, _, _⟩) rfl 34 rfl y HY.out _ HZE.out ?_; intro y2 Y2 D2)
                | ((with_reducible show wpList _ _ _ (⟨none, .store _ (.tmp 8) _, _, _, _, _⟩ :: _) _ _); refine wpList_store_whole (o := ⟨none, .store 34 (.tmp 8) (.tmp 16), _, _, _, _⟩) rfl _ _ _ rfl rfl y #[.int .i64 4, .string key, .string val, .int .u64 id, .int .u64 ver, .int .u64 ep, .int .i64 gp] rfl rfl 34 _ Y2.out size_eff rfl (onesE _ _ _ _ _ _ _) ?_; intro y3 Y3 D3; have HDy : Hid (Below y wr y3) := D2.out.trans D3.out; obtain ⟨z0, z1, z2, z3, z4, z5, z6⟩ := EBox.at_ (x := ⟨4, key, val, id, ver, ep, gp⟩) Y3.out; clear k0 k1 k2 k3 k4 k5 k6)
                | fail)
                go_roundg gk
                case measure => omega
                case rel =>
                  refine ⟨i + 1, some ⟨b9, f9 + 1, none⟩, m9, d9 - 1, by omega, by go_num, rfl, ?_, ?_, HW.out.trans ((HDy.out.mono (by have := HY.out; have := HLr.out; omega)))⟩
                  · show MapK _ _ _
                    rw [HE.out]
                    exact (HMr.out.stay (HDy.out.block mb (by have := HY.out; have := HLr.out; omega)))
                  · show QO _ _ _ _ _
                    rw [HE.out]
                    exact HP.out.stay (fun k e => HDy.out.block k (by have := (HP.out.lt e).2; have := HY.out; omega))

        · have KZ := Lib.hid (And.intro hz1 (And.intro hz2 (And.intro hz3 hz4)))
          clear HKD
          obtain ⟨q1, q2⟩ := ef_0 (e := ⟨kd, key, val, id, ver, ep, gp⟩) (ne_of_beq_false KZ.out.1) (ne_of_beq_false KZ.out.2.1) (ne_of_beq_false KZ.out.2.2.1) (ne_of_beq_false KZ.out.2.2.2) (rpS up (E.take i)).1 (rpS up (E.take i)).2
          rw [q1, q2] at HE
          clear q1 q2
          go_wp2_with (first
            | ((with_reducible show wpList _ _ _ (⟨some 8, .alloc _, _, _, _, _⟩ :: _) _ _); refine wpList_alloc_var (o := ⟨some 8, _, _, _, _, _⟩) rfl 34 rfl y HY.out _ HZE.out ?_; intro y2 Y2 D2)
            | ((with_reducible show wpList _ _ _ (⟨none, .store _ (.tmp 8) _, _, _, _, _⟩ :: _) _ _); refine wpList_store_whole (o := ⟨none, .store 34 (.tmp 8) (.tmp 16), _, _, _, _⟩) rfl _ _ _ rfl rfl y #[.int .i64 kd, .string key, .string val, .int .u64 id, .int .u64 ver, .int .u64 ep, .int .i64 gp] rfl rfl 34 _ Y2.out size_eff rfl (onesE _ _ _ _ _ _ _) ?_; intro y3 Y3 D3; have HDy : Hid (Below y wr y3) := D2.out.trans D3.out; obtain ⟨z0, z1, z2, z3, z4, z5, z6⟩ := EBox.at_ (x := ⟨kd, key, val, id, ver, ep, gp⟩) Y3.out; clear k0 k1 k2 k3 k4 k5 k6)
            | fail)
          go_roundg gk
          case measure => omega
          case rel =>
            refine ⟨i + 1, A9, m9, d9, by omega, by go_num, rfl, ?_, ?_, HW.out.trans ((HDy.out.mono (by have := HY.out; have := HLr.out; omega)))⟩
            · show MapK _ _ _
              rw [HE.out]
              exact (HMr.out.stay (HDy.out.block mb (by have := HY.out; have := HLr.out; omega)))
            · show QO _ _ _ _ _
              rw [HE.out]
              exact (HQr.out.stay (fun k e => HDy.out.block k (by have := (HQr.out.lt e).2; have := HY.out; omega)))

end Go.Proofs.Ytpmgnhijiodbaaa

/-
  Proved here: maps.Values gives its iterator.
  Conditions: none.
-/
namespace Go.Proofs.Ytpmgnhijiodbaaa
open Go Go.RowKit
set_option maxRecDepth 100000

theorem vals15_any (m : Nat) (W : World) : Calls Try.prog 29 #[.map (some m)] W fun e W1 => e = .returned (.func (.func 47) #[] #[.pointer (some ⟨W.heap.size, 0, none⟩)]) ∧ W1.heap[W.heap.size]? = some (.cells #[.map (some m)] 62 (0, 0)) ∧ Below W.heap.size W W1 := by
  obtain ⟨g, hg⟩ : ∃ g, W.heap.size = g := ⟨_, rfl⟩
  obtain ⟨w1, hw1⟩ : ∃ w1, W.alloc (.cells #[.map (some m)] 62) = w1 := ⟨_, rfl⟩
  have HX : Hid (w1.heap[g]? = some (.cells #[.map (some m)] 62 (0, 0))) := by rw [← hw1, ← hg]; exact heap_alloc_new W _
  have HB : Hid (Below g W w1) := by rw [← hw1, ← hg]; exact (Below.refl _ _).alloc (Nat.le_refl _) _
  rw [hg]
  go_enter Try.func29, Try.ntmps29
  go_wp2
  go_ret
  exact ⟨rfl, HX.out, HB.out⟩

end Go.Proofs.Ytpmgnhijiodbaaa
