/-
  Proved here: how the lines of a device lie one behind the other in memory, and what a store into one of them leaves; plain lists, no program's numbers but the bytes' type.
  Conditions: each line has three texts of 64 bytes.
-/
import Derived.Test.YtpmgnhijiodbaaaArrs
namespace Go.Proofs.Ytpmgnhijiodbaaa
open Go.RowKit
set_option maxRecDepth 100000

/-- A line: what is seen, what lasts, what was flushed, and whether that is on its way. -/
structure Cl where
  v : List UInt8
  p : List UInt8
  f : List UInt8
  on : Bool
def Cl.ok (c : Cl) : Prop := c.v.length = 64 ∧ c.p.length = 64 ∧ c.f.length = 64
def Cl.cells (c : Cl) : List Value := enc c.v ++ (enc c.p ++ (enc c.f ++ [.bool c.on]))
def flat (st : List Cl) : List Value := st.flatMap Cl.cells
def Oks (st : List Cl) : Prop := ∀ c ∈ st, c.ok

theorem Cl.cells_len {c : Cl} (h : c.ok) : c.cells.length = 193 := by
  obtain ⟨h1, h2, h3⟩ := h
  simp [Cl.cells, enc_len, h1, h2, h3]
theorem oks_cons {c : Cl} {st : List Cl} : Oks (c :: st) ↔ c.ok ∧ Oks st := by simp [Oks]
theorem oks_nil : Oks [] := fun _ h => by cases h
theorem oks_at {st : List Cl} {i : Nat} {c : Cl} (h : Oks st) (hc : st[i]? = some c) : c.ok := h c (List.mem_of_getElem? hc)
theorem oks_set {st : List Cl} (h : Oks st) (i : Nat) {c : Cl} (hc : c.ok) : Oks (st.set i c) := fun x hx => by
  rcases List.mem_or_eq_of_mem_set hx with h1 | h1
  · exact h x h1
  · exact h1 ▸ hc
theorem flat_len {st : List Cl} (h : Oks st) : (flat st).length = st.length * 193 := by
  induction st with
  | nil => rfl
  | cons c st ih =>
    obtain ⟨hc, hs⟩ := oks_cons.1 h
    simp only [flat, List.flatMap_cons, List.length_append, List.length_cons] at ih ⊢
    rw [Cl.cells_len hc, ih hs]
    omega
theorem flat_at {st : List Cl} (h : Oks st) (rest : List Value) {i : Nat} {c : Cl} (hc : st[i]? = some c) (j : Nat) (hj : j < 193) : (flat st ++ rest)[i * 193 + j]? = c.cells[j]? := by
  induction st generalizing i with
  | nil => cases hc
  | cons d st ih =>
    obtain ⟨hd, hs⟩ := oks_cons.1 h
    have hl := Cl.cells_len hd
    simp only [flat, List.flatMap_cons, List.append_assoc]
    cases i with
    | zero =>
      obtain rfl : d = c := by simpa using hc
      rw [Nat.zero_mul, Nat.zero_add, List.getElem?_append_left (by omega)]
    | succ i =>
      rw [List.getElem?_append_right (by omega), hl, show (i + 1) * 193 + j - 193 = i * 193 + j by omega]
      exact ih hs (by simpa using hc)
/-- The cells xs laid over those of l from o on. -/
def over (l : List Value) (o : Nat) (xs : List Value) : List Value := l.take o ++ xs ++ l.drop (o + xs.length)
theorem flat_over {st : List Cl} (h : Oks st) (rest : List Value) {i : Nat} {c : Cl} (hc : st[i]? = some c) (o : Nat) (xs : List Value) (ho : o + xs.length ≤ 193) (c' : Cl) (e : over c.cells o xs = c'.cells) :
    over (flat st ++ rest) (i * 193 + o) xs = flat (st.set i c') ++ rest := by
  induction st generalizing i with
  | nil => cases hc
  | cons d st ih =>
    obtain ⟨hd, hs⟩ := oks_cons.1 h
    have hl := Cl.cells_len hd
    cases i with
    | zero =>
      obtain rfl : d = c := by simpa using hc
      simp only [flat, List.flatMap_cons, List.append_assoc, List.set_cons_zero, over] at e ⊢
      rw [← e, Nat.zero_mul, Nat.zero_add, List.take_append_of_le_length (by omega), List.drop_append_of_le_length (by omega)]
      simp
    | succ i =>
      have := ih hs (by simpa using hc)
      simp only [flat, List.flatMap_cons, List.append_assoc, List.set_cons_succ, over] at this ⊢
      rw [← this, show (i + 1) * 193 + o = d.cells.length + (i * 193 + o) by omega, show d.cells.length + (i * 193 + o) + xs.length = d.cells.length + (i * 193 + o + xs.length) by omega]
      rw [List.take_length_add_append, List.drop_length_add_append]
      simp only [List.append_assoc]

theorem over_v {c : Cl} (h : c.ok) (a : Nat) (x : List UInt8) (hx : a + x.length ≤ 64) : over c.cells a (enc x) = ({ c with v := c.v.take a ++ x ++ c.v.drop (a + x.length) } : Cl).cells := by
  obtain ⟨h1, h2, h3⟩ := h
  have e1 : (enc c.v).length = 64 := by rw [enc_len, h1]
  simp only [over, Cl.cells, enc_len, List.append_assoc]
  rw [List.take_append_of_le_length (by omega), List.drop_append_of_le_length (by omega)]
  simp [enc]
theorem over_p {c : Cl} (h : c.ok) (x : List UInt8) (hx : x.length = 64) : over c.cells 64 (enc x) = ({ c with p := x } : Cl).cells := by
  obtain ⟨h1, h2, h3⟩ := h
  have e1 : (enc c.v).length = 64 := by rw [enc_len, h1]
  have e2 : (enc c.p).length = 64 := by rw [enc_len, h2]
  simp only [over, Cl.cells, enc_len, hx]
  rw [List.take_append, List.drop_append, List.take_of_length_le (by omega), List.drop_of_length_le (by omega), e1, Nat.sub_self, List.take_zero, List.append_nil, List.nil_append, List.drop_append, List.drop_of_length_le (by omega), e2]
  simp
theorem over_f {c : Cl} (h : c.ok) (x : List UInt8) (hx : x.length = 64) : over c.cells 128 (enc x) = ({ c with f := x } : Cl).cells := by
  obtain ⟨h1, h2, h3⟩ := h
  have e1 : (enc c.v).length = 64 := by rw [enc_len, h1]
  have e2 : (enc c.p).length = 64 := by rw [enc_len, h2]
  have e3 : (enc c.f).length = 64 := by rw [enc_len, h3]
  simp only [over, Cl.cells, enc_len, hx]
  simp [List.take_append, List.drop_append, e1, e2, e3, List.take_of_length_le, List.drop_of_length_le]
theorem over_on {c : Cl} (h : c.ok) (b : Bool) : over c.cells 192 [.bool b] = ({ c with on := b } : Cl).cells := by
  obtain ⟨h1, h2, h3⟩ := h
  have e1 : (enc c.v).length = 64 := by rw [enc_len, h1]
  have e2 : (enc c.p).length = 64 := by rw [enc_len, h2]
  have e3 : (enc c.f).length = 64 := by rw [enc_len, h3]
  simp only [over, Cl.cells]
  simp [List.take_append, e1, e2, e3, List.take_of_length_le, List.drop_of_length_le]

theorem cells_v {c : Cl} (j : Nat) (u : Value) (hu : (enc c.v)[j]? = some u) : c.cells[j]? = some u := by
  have hj := (List.getElem?_eq_some_iff.1 hu).1
  rw [Cl.cells, List.getElem?_append_left hj, hu]
theorem cells_p {c : Cl} (h : c.ok) (j : Nat) (u : Value) (hu : (enc c.p)[j]? = some u) : c.cells[64 + j]? = some u := by
  have hj := (List.getElem?_eq_some_iff.1 hu).1
  have e1 : (enc c.v).length = 64 := by rw [enc_len, h.1]
  rw [Cl.cells, List.getElem?_append_right (by omega), e1, Nat.add_sub_cancel_left, List.getElem?_append_left hj, hu]
theorem cells_f {c : Cl} (h : c.ok) (j : Nat) (u : Value) (hu : (enc c.f)[j]? = some u) : c.cells[128 + j]? = some u := by
  have hj := (List.getElem?_eq_some_iff.1 hu).1
  have e1 : (enc c.v).length = 64 := by rw [enc_len, h.1]
  have e2 : (enc c.p).length = 64 := by rw [enc_len, h.2.1]
  rw [Cl.cells, List.getElem?_append_right (by omega), e1, List.getElem?_append_right (by omega), e2, show 128 + j - 64 - 64 = j by omega, List.getElem?_append_left hj, hu]
theorem cells_on {c : Cl} (h : c.ok) : c.cells[192]? = some (.bool c.on) := by
  have e1 : (enc c.v).length = 64 := by rw [enc_len, h.1]
  have e2 : (enc c.p).length = 64 := by rw [enc_len, h.2.1]
  have e3 : (enc c.f).length = 64 := by rw [enc_len, h.2.2]
  rw [Cl.cells, List.getElem?_append_right (by omega), e1, List.getElem?_append_right (by omega), e2, List.getElem?_append_right (by omega), e3]
  rfl

/-! ### What the world has turned -/
/-- But for the blocks p and q all that was there is as it was. -/
structure Turns (p q : Nat) (w w' : World) : Prop where
  os : w'.os = w.os
  tape : w'.tape = w.tape
  output : w'.output = w.output
  size : w.heap.size ≤ w'.heap.size
  block : ∀ k, k ≠ p → k ≠ q → k < w.heap.size → w'.heap[k]? = w.heap[k]?
theorem Turns.refl (p q : Nat) (w : World) : Turns p q w w := ⟨rfl, rfl, rfl, Nat.le_refl _, fun _ _ _ _ => rfl⟩
theorem Turns.trans {p q : Nat} {a b c : World} (h : Turns p q a b) (k : Turns p q b c) : Turns p q a c :=
  ⟨k.os.trans h.os, k.tape.trans h.tape, k.output.trans h.output, Nat.le_trans h.size k.size, fun i h1 h2 hi => (k.block i h1 h2 (Nat.lt_of_lt_of_le hi h.size)).trans (h.block i h1 h2 hi)⟩
theorem Turns.below {p q : Nat} {w w' : World} (h : Turns p q w w') {B : Nat} (hp : B ≤ p) (hq : B ≤ q) (hB : B ≤ w.heap.size) : Below B w w' :=
  ⟨h.os, h.tape, h.output, h.size, fun k hk => h.block k (by omega) (by omega) (by omega)⟩
theorem Turns.of_below {w w' : World} (h : Below w.heap.size w w') (p q : Nat) : Turns p q w w' := ⟨h.os, h.tape, h.output, h.size, fun k _ _ hk => h.block k hk⟩
theorem Turns.drew {p q : Nat} {a w : World} (h : Turns p q a w) : Turns p q a w.drew := ⟨h.os, h.tape, h.output, h.size, h.block⟩
theorem Turns.alloc {p q : Nat} {a w : World} (h : Turns p q a w) (o : Obj) : Turns p q a (w.alloc o) :=
  h.trans (Turns.of_below ((Below.refl _ _).alloc (Nat.le_refl _) _) p q)
theorem Turns.setRow_q {p q : Nat} {a w : World} (h : Turns p q a w) (cs : Array Value) : Turns p q a (w.setRow q cs) :=
  h.trans ⟨rfl, rfl, rfl, by simp, fun k _ hk _ => setRow_other _ _ k _ (by omega)⟩
theorem Turns.setCell_p {p q : Nat} {a w : World} (h : Turns p q a w) (o : Nat) (u : Value) : Turns p q a (w.setCell ⟨p, o, none⟩ u) :=
  h.trans ⟨rfl, rfl, rfl, by simp [World.setCell], fun k hk _ _ => Below.heap_setCell _ _ _ _ (by simpa using hk)⟩
theorem Row.turns {p q : Nat} {w w' : World} {A : Option Addr} {l : List UInt8} (h : Row w A l) (ht : Turns p q w w') (hb : ∀ x, A = some x → x.block ≠ p ∧ x.block ≠ q) : Row w' A l :=
  ⟨h.1, fun hl => by
    obtain ⟨b, off, e, hlt, hc⟩ := h.2 hl
    obtain ⟨n1, n2⟩ := hb _ e
    have hbl := ht.block b n1 n2 hlt
    exact ⟨b, off, e, Nat.lt_of_lt_of_le hlt ht.size, fun k hk => (World.cell?_of_block (w := w) (a := ⟨b, off + k, none⟩) hbl).trans (hc k hk)⟩⟩

/-! ### A device -/
/-- The device at p, whose lines lie at q: its lines, its five counts. T: a line's type; D: the device's. -/
structure Dv (T D : TypeId) (w : World) (p q : Nat) (st : List Cl) (cs : List Int) : Prop where
  oks : Oks st
  len : st.length ≤ 258
  five : cs.length = 5
  ne : p ≠ q
  mem : ∃ cap, w.heap[p]? = some (.cells (.slice (some ⟨q, 0, none⟩) st.length cap :: cs.map (.int .i64)).toArray D (0, 0)) ∧ st.length ≤ cap
  row : ∃ rest, w.heap[q]? = some (.cells (flat st ++ rest).toArray T (0, 0))

variable {T D : TypeId} {w w' : World} {p q : Nat} {st : List Cl} {cs : List Int}
theorem Dv.lt_p (h : Dv T D w p q st cs) : p < w.heap.size := by obtain ⟨_, e, _⟩ := h.mem; exact lt_of_heap e
theorem Dv.lt_q (h : Dv T D w p q st cs) : q < w.heap.size := by obtain ⟨_, e⟩ := h.row; exact lt_of_heap e
theorem Dv.same (h : Dv T D w p q st cs) (hp : w'.heap[p]? = w.heap[p]?) (hq : w'.heap[q]? = w.heap[q]?) : Dv T D w' p q st cs :=
  ⟨h.oks, h.len, h.five, h.ne, by obtain ⟨cap, e, hc⟩ := h.mem; exact ⟨cap, hp.trans e, hc⟩, by obtain ⟨r, e⟩ := h.row; exact ⟨r, hq.trans e⟩⟩
theorem Dv.below (h : Dv T D w p q st cs) (hb : Below w.heap.size w w') : Dv T D w' p q st cs := h.same (hb.block p h.lt_p) (hb.block q h.lt_q)
theorem Dv.turns {p' q' : Nat} (h : Dv T D w p q st cs) (ht : Turns p' q' w w') (h1 : p ≠ p') (h2 : p ≠ q') (h3 : q ≠ p') (h4 : q ≠ q') : Dv T D w' p q st cs := h.same (ht.block p h1 h2 h.lt_p) (ht.block q h3 h4 h.lt_q)
theorem Dv.drew (h : Dv T D w p q st cs) : Dv T D w.drew p q st cs := ⟨h.oks, h.len, h.five, h.ne, h.mem, h.row⟩
theorem Dv.slice (h : Dv T D w p q st cs) : ∃ cap, w.cell? ⟨p, 0, none⟩ = some (.slice (some ⟨q, 0, none⟩) st.length cap) ∧ st.length ≤ cap := by
  obtain ⟨cap, e, hc⟩ := h.mem
  exact ⟨cap, by simp [World.cell?, e], hc⟩
theorem Dv.count (h : Dv T D w p q st cs) (k : Nat) (hk : k < 5) : w.cell? ⟨p, k + 1, none⟩ = some (.int .i64 (cs.getD k 0)) ∧ w.frozen? ⟨p, k + 1, none⟩ = false := by
  obtain ⟨cap, e, hc⟩ := h.mem
  have hk' : k < cs.length := by have := h.five; omega
  exact ⟨by simp [World.cell?, e, List.getD, List.getElem?_eq_getElem hk'], by simp [World.frozen?, e]⟩
theorem Dv.setCount (h : Dv T D w p q st cs) (k : Nat) (x : Int) : Dv T D (w.setCell ⟨p, k + 1, none⟩ (.int .i64 x)) p q st (cs.set k x) := by
  refine ⟨h.oks, h.len, by rw [List.length_set]; exact h.five, h.ne, ?_, ?_⟩
  · obtain ⟨cap, e, hc⟩ := h.mem
    refine ⟨cap, ?_, hc⟩
    rw [heap_setCell_same w p (k + 1) _ D _ e]
    simp [List.map_set]
  · obtain ⟨r, e⟩ := h.row
    exact ⟨r, by rw [Below.heap_setCell _ _ _ _ (by simpa using fun x => h.ne x.symm)]; exact e⟩
theorem Dv.cell_at (h : Dv T D w p q st cs) {i : Nat} {c : Cl} (hc : st[i]? = some c) (j : Nat) (hj : j < 193) : w.cell? ⟨q, i * 193 + j, none⟩ = c.cells[j]? := by
  obtain ⟨r, e⟩ := h.row
  rw [← flat_at h.oks r hc j hj]
  simp [World.cell?, e]
theorem Dv.range_v (h : Dv T D w p q st cs) {i : Nat} {c : Cl} (hc : st[i]? = some c) : w.rangeAt q (i * 193) (enc c.v) := fun j u hu => by
  have hj := (List.getElem?_eq_some_iff.1 hu).1
  have ho := oks_at h.oks hc
  rw [enc_len, ho.1] at hj
  rw [h.cell_at hc j (by omega)]
  exact cells_v j u hu
theorem Dv.range_p (h : Dv T D w p q st cs) {i : Nat} {c : Cl} (hc : st[i]? = some c) : w.rangeAt q (i * 193 + 64) (enc c.p) := fun j u hu => by
  have hj := (List.getElem?_eq_some_iff.1 hu).1
  have ho := oks_at h.oks hc
  rw [enc_len, ho.2.1] at hj
  rw [Nat.add_assoc, h.cell_at hc (64 + j) (by omega)]
  exact cells_p ho j u hu
theorem Dv.range_f (h : Dv T D w p q st cs) {i : Nat} {c : Cl} (hc : st[i]? = some c) : w.rangeAt q (i * 193 + 128) (enc c.f) := fun j u hu => by
  have hj := (List.getElem?_eq_some_iff.1 hu).1
  have ho := oks_at h.oks hc
  rw [enc_len, ho.2.2] at hj
  rw [Nat.add_assoc, h.cell_at hc (128 + j) (by omega)]
  exact cells_f ho j u hu
theorem Dv.cell_on (h : Dv T D w p q st cs) {i : Nat} {c : Cl} (hc : st[i]? = some c) : w.cell? ⟨q, i * 193 + 192, none⟩ = some (.bool c.on) := by
  rw [h.cell_at hc 192 (by omega)]
  exact cells_on (oks_at h.oks hc)
theorem Dv.frozen_q (h : Dv T D w p q st cs) (j : Nat) : w.frozen? ⟨q, j, none⟩ = false := by
  obtain ⟨r, e⟩ := h.row
  simp [World.frozen?, e]
/-- What a store into line i leaves. -/
theorem Dv.stored {P : Program} (h : Dv T D w p q st cs) {i : Nat} {c : Cl} (hc : st[i]? = some c) (o : Nat) (xs : List Value) (ho : o + xs.length ≤ 193) (c' : Cl) (e : over c.cells o xs = c'.cells) (hok : c'.ok) (h1 : ∀ u ∈ xs, u.oneCell' = true) :
    ∃ w', (storeCells ⟨q, i * 193 + o, none⟩ xs).run P w = .ok () w' ∧ Dv T D w' p q (st.set i c') cs ∧ Turns p q w w' := by
  obtain ⟨r, er⟩ := h.row
  have hi : i < st.length := (List.getElem?_eq_some_iff.1 hc).1
  have hsz : i * 193 + o + xs.length ≤ (flat st ++ r).length := by
    rw [List.length_append, flat_len h.oks]
    have : (i + 1) * 193 ≤ st.length * 193 := Nat.mul_le_mul_right _ hi
    omega
  have hst := run_storeCells_at P q (i * 193 + o) T xs 0 _ w er (by simpa using hsz) h1
  have hov := flat_over h.oks r hc o xs ho c' e
  simp only [Nat.add_zero] at hst
  refine ⟨_, hst, ⟨oks_set h.oks i hok, by rw [List.length_set]; exact h.len, h.five, h.ne, ?_, ⟨r, ?_⟩⟩, (Turns.refl p q w).setRow_q _⟩
  · obtain ⟨cap, e, hcap⟩ := h.mem
    refine ⟨cap, ?_, by rw [List.length_set]; exact hcap⟩
    rw [setRow_other _ _ p _ h.ne, e, List.length_set]
  · rw [setRow_heap w q _ _ T _ er, ← hov]
    rfl
end Go.Proofs.Ytpmgnhijiodbaaa
