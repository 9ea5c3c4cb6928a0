/-
  Proved here, joined: NvmMath, NvmA, NvmB
  Conditions: as each part says.
-/
import Derived.Test.YtlghphccmgmomaaGreatJN1
import Derived.Deep.QuietTactic
import Derived.BigQuiet
import Derived.IntWalk
import Derived.WalkSmall
import Derived.ChangeKeysEq
import Derived.Laws.LoneSync

/-
  Proved here: how the lines of a device lie one behind the other in memory, and what a store into one of them leaves; plain lists, no program's numbers but the bytes' type.
  Conditions: each line has three texts of 64 bytes.
-/
namespace Go.Proofs.YtlghphccmgmomaaGreat
open Go.RowKit
set_option maxRecDepth 100000

/-- A line: what is seen, what lasts, what was flushed, and whether that is on its way. -/
structure Cl where
  v : List UInt8
  p : List UInt8
  f : List UInt8
  on : Bool
def Cl.ok (c : Cl) : Prop := c.v.length = 64 ∧ c.p.length = 64 ∧ c.f.length = 64
def Cl.cells (c : Cl) : List Value := enc c.v ++ (enc c.p ++ (enc c.f ++ [.bool c.on]))
def flat (st : List Cl) : List Value := st.flatMap Cl.cells
def Oks (st : List Cl) : Prop := ∀ c ∈ st, c.ok

theorem Cl.cells_len {c : Cl} (h : c.ok) : c.cells.length = 193 := by
  obtain ⟨h1, h2, h3⟩ := h
  simp [Cl.cells, enc_len, h1, h2, h3]
theorem oks_cons {c : Cl} {st : List Cl} : Oks (c :: st) ↔ c.ok ∧ Oks st := by simp [Oks]
theorem oks_at {st : List Cl} {i : Nat} {c : Cl} (h : Oks st) (hc : st[i]? = some c) : c.ok := h c (List.mem_of_getElem? hc)
theorem oks_set {st : List Cl} (h : Oks st) (i : Nat) {c : Cl} (hc : c.ok) : Oks (st.set i c) := fun x hx => by
  rcases List.mem_or_eq_of_mem_set hx with h1 | h1
  · exact h x h1
  · exact h1 ▸ hc
theorem flat_len {st : List Cl} (h : Oks st) : (flat st).length = st.length * 193 := by
  induction st with
  | nil => rfl
  | cons c st ih =>
    obtain ⟨hc, hs⟩ := oks_cons.1 h
    simp only [flat, List.flatMap_cons, List.length_append, List.length_cons] at ih ⊢
    rw [Cl.cells_len hc, ih hs]
    omega
theorem flat_at {st : List Cl} (h : Oks st) (rest : List Value) {i : Nat} {c : Cl} (hc : st[i]? = some c) (j : Nat) (hj : j < 193) : (flat st ++ rest)[i * 193 + j]? = c.cells[j]? := by
  induction st generalizing i with
  | nil => cases hc
  | cons d st ih =>
    obtain ⟨hd, hs⟩ := oks_cons.1 h
    have hl := Cl.cells_len hd
    simp only [flat, List.flatMap_cons, List.append_assoc]
    cases i with
    | zero =>
      obtain rfl : d = c := by simpa using hc
      rw [Nat.zero_mul, Nat.zero_add, List.getElem?_append_left (by omega)]
    | succ i =>
      rw [List.getElem?_append_right (by omega), hl, show (i + 1) * 193 + j - 193 = i * 193 + j by omega]
      exact ih hs (by simpa using hc)
/-- The cells xs laid over those of l from o on. -/
def over (l : List Value) (o : Nat) (xs : List Value) : List Value := l.take o ++ xs ++ l.drop (o + xs.length)
theorem flat_over {st : List Cl} (h : Oks st) (rest : List Value) {i : Nat} {c : Cl} (hc : st[i]? = some c) (o : Nat) (xs : List Value) (ho : o + xs.length ≤ 193) (c' : Cl) (e : over c.cells o xs = c'.cells) :
    over (flat st ++ rest) (i * 193 + o) xs = flat (st.set i c') ++ rest := by
  induction st generalizing i with
  | nil => cases hc
  | cons d st ih =>
    obtain ⟨hd, hs⟩ := oks_cons.1 h
    have hl := Cl.cells_len hd
    cases i with
    | zero =>
      obtain rfl : d = c := by simpa using hc
      simp only [flat, List.flatMap_cons, List.append_assoc, List.set_cons_zero, over] at e ⊢
      rw [← e, Nat.zero_mul, Nat.zero_add, List.take_append_of_le_length (by omega), List.drop_append_of_le_length (by omega)]
      simp
    | succ i =>
      have := ih hs (by simpa using hc)
      simp only [flat, List.flatMap_cons, List.append_assoc, List.set_cons_succ, over] at this ⊢
      rw [← this, show (i + 1) * 193 + o = d.cells.length + (i * 193 + o) by omega, show d.cells.length + (i * 193 + o) + xs.length = d.cells.length + (i * 193 + o + xs.length) by omega]
      rw [List.take_length_add_append, List.drop_length_add_append]
      simp only [List.append_assoc]

theorem over_v {c : Cl} (h : c.ok) (a : Nat) (x : List UInt8) (hx : a + x.length ≤ 64) : over c.cells a (enc x) = ({ c with v := c.v.take a ++ x ++ c.v.drop (a + x.length) } : Cl).cells := by
  obtain ⟨h1, h2, h3⟩ := h
  have e1 : (enc c.v).length = 64 := by rw [enc_len, h1]
  simp only [over, Cl.cells, enc_len, List.append_assoc]
  rw [List.take_append_of_le_length (by omega), List.drop_append_of_le_length (by omega)]
  simp [enc]
theorem over_p {c : Cl} (h : c.ok) (x : List UInt8) (hx : x.length = 64) : over c.cells 64 (enc x) = ({ c with p := x } : Cl).cells := by
  obtain ⟨h1, h2, h3⟩ := h
  have e1 : (enc c.v).length = 64 := by rw [enc_len, h1]
  have e2 : (enc c.p).length = 64 := by rw [enc_len, h2]
  simp only [over, Cl.cells, enc_len, hx]
  rw [List.take_append, List.drop_append, List.take_of_length_le (by omega), List.drop_of_length_le (by omega), e1, Nat.sub_self, List.take_zero, List.append_nil, List.nil_append, List.drop_append, List.drop_of_length_le (by omega), e2]
  simp
theorem over_f {c : Cl} (h : c.ok) (x : List UInt8) (hx : x.length = 64) : over c.cells 128 (enc x) = ({ c with f := x } : Cl).cells := by
  obtain ⟨h1, h2, h3⟩ := h
  have e1 : (enc c.v).length = 64 := by rw [enc_len, h1]
  have e2 : (enc c.p).length = 64 := by rw [enc_len, h2]
  have e3 : (enc c.f).length = 64 := by rw [enc_len, h3]
  simp only [over, Cl.cells, enc_len, hx]
  simp [List.take_append, List.drop_append, e1, e2, e3, List.take_of_length_le, List.drop_of_length_le]
theorem over_on {c : Cl} (h : c.ok) (b : Bool) : over c.cells 192 [.bool b] = ({ c with on := b } : Cl).cells := by
  obtain ⟨h1, h2, h3⟩ := h
  have e1 : (enc c.v).length = 64 := by rw [enc_len, h1]
  have e2 : (enc c.p).length = 64 := by rw [enc_len, h2]
  have e3 : (enc c.f).length = 64 := by rw [enc_len, h3]
  simp only [over, Cl.cells]
  simp [List.take_append, e1, e2, e3, List.take_of_length_le, List.drop_of_length_le]

theorem cells_v {c : Cl} (j : Nat) (u : Value) (hu : (enc c.v)[j]? = some u) : c.cells[j]? = some u := by
  have hj := (List.getElem?_eq_some_iff.1 hu).1
  rw [Cl.cells, List.getElem?_append_left hj, hu]
theorem cells_f {c : Cl} (h : c.ok) (j : Nat) (u : Value) (hu : (enc c.f)[j]? = some u) : c.cells[128 + j]? = some u := by
  have hj := (List.getElem?_eq_some_iff.1 hu).1
  have e1 : (enc c.v).length = 64 := by rw [enc_len, h.1]
  have e2 : (enc c.p).length = 64 := by rw [enc_len, h.2.1]
  rw [Cl.cells, List.getElem?_append_right (by omega), e1, List.getElem?_append_right (by omega), e2, show 128 + j - 64 - 64 = j by omega, List.getElem?_append_left hj, hu]
theorem cells_on {c : Cl} (h : c.ok) : c.cells[192]? = some (.bool c.on) := by
  have e1 : (enc c.v).length = 64 := by rw [enc_len, h.1]
  have e2 : (enc c.p).length = 64 := by rw [enc_len, h.2.1]
  have e3 : (enc c.f).length = 64 := by rw [enc_len, h.2.2]
  rw [Cl.cells, List.getElem?_append_right (by omega), e1, List.getElem?_append_right (by omega), e2, List.getElem?_append_right (by omega), e3]
  rfl

/-! ### What the world has turned -/
/-- But for the blocks p and q all that was there is as it was. -/
structure Turns (p q : Nat) (w w' : World) : Prop where
  os : w'.os = w.os
  tape : w'.tape = w.tape
  output : w'.output = w.output
  size : w.heap.size ≤ w'.heap.size
  block : ∀ k, k ≠ p → k ≠ q → k < w.heap.size → w'.heap[k]? = w.heap[k]?
theorem Turns.refl (p q : Nat) (w : World) : Turns p q w w := ⟨rfl, rfl, rfl, Nat.le_refl _, fun _ _ _ _ => rfl⟩
theorem Turns.trans {p q : Nat} {a b c : World} (h : Turns p q a b) (k : Turns p q b c) : Turns p q a c :=
  ⟨k.os.trans h.os, k.tape.trans h.tape, k.output.trans h.output, Nat.le_trans h.size k.size, fun i h1 h2 hi => (k.block i h1 h2 (Nat.lt_of_lt_of_le hi h.size)).trans (h.block i h1 h2 hi)⟩
theorem Turns.below {p q : Nat} {w w' : World} (h : Turns p q w w') {B : Nat} (hp : B ≤ p) (hq : B ≤ q) (hB : B ≤ w.heap.size) : Below B w w' :=
  ⟨h.os, h.tape, h.output, h.size, fun k hk => h.block k (by omega) (by omega) (by omega)⟩
theorem Turns.of_below {w w' : World} (h : Below w.heap.size w w') (p q : Nat) : Turns p q w w' := ⟨h.os, h.tape, h.output, h.size, fun k _ _ hk => h.block k hk⟩
theorem Turns.drew {p q : Nat} {a w : World} (h : Turns p q a w) : Turns p q a w.drew := ⟨h.os, h.tape, h.output, h.size, h.block⟩
theorem Turns.alloc {p q : Nat} {a w : World} (h : Turns p q a w) (o : Obj) : Turns p q a (w.alloc o) :=
  h.trans (Turns.of_below ((Below.refl _ _).alloc (Nat.le_refl _) _) p q)
theorem Turns.setRow_q {p q : Nat} {a w : World} (h : Turns p q a w) (cs : Array Value) : Turns p q a (w.setRow q cs) :=
  h.trans ⟨rfl, rfl, rfl, by simp, fun k _ hk _ => setRow_other _ _ k _ (by omega)⟩
theorem Turns.setCell_p {p q : Nat} {a w : World} (h : Turns p q a w) (o : Nat) (u : Value) : Turns p q a (w.setCell ⟨p, o, none⟩ u) :=
  h.trans ⟨rfl, rfl, rfl, by simp [World.setCell], fun k hk _ _ => Below.heap_setCell _ _ _ _ (by simpa using hk)⟩
theorem Row.turns {p q : Nat} {w w' : World} {A : Option Addr} {l : List UInt8} (h : Row w A l) (ht : Turns p q w w') (hb : ∀ x, A = some x → x.block ≠ p ∧ x.block ≠ q) : Row w' A l :=
  ⟨h.1, fun hl => by
    obtain ⟨b, off, e, hlt, hc⟩ := h.2 hl
    obtain ⟨n1, n2⟩ := hb _ e
    have hbl := ht.block b n1 n2 hlt
    exact ⟨b, off, e, Nat.lt_of_lt_of_le hlt ht.size, fun k hk => (World.cell?_of_block (w := w) (a := ⟨b, off + k, none⟩) hbl).trans (hc k hk)⟩⟩

/-! ### A device -/
/-- The device at p, whose lines lie at q: its lines, its five counts. T: a line's type; D: the device's. -/
structure Dv (T D : TypeId) (w : World) (p q : Nat) (st : List Cl) (cs : List Int) : Prop where
  oks : Oks st
  len : st.length ≤ 258
  five : cs.length = 5
  ne : p ≠ q
  mem : ∃ cap, w.heap[p]? = some (.cells (.slice (some ⟨q, 0, none⟩) st.length cap :: cs.map (.int .i64)).toArray D (0, 0)) ∧ st.length ≤ cap
  row : ∃ rest, w.heap[q]? = some (.cells (flat st ++ rest).toArray T (0, 0))

variable {T D : TypeId} {w w' : World} {p q : Nat} {st : List Cl} {cs : List Int}
theorem Dv.lt_p (h : Dv T D w p q st cs) : p < w.heap.size := by obtain ⟨_, e, _⟩ := h.mem; exact lt_of_heap e
theorem Dv.lt_q (h : Dv T D w p q st cs) : q < w.heap.size := by obtain ⟨_, e⟩ := h.row; exact lt_of_heap e
theorem Dv.same (h : Dv T D w p q st cs) (hp : w'.heap[p]? = w.heap[p]?) (hq : w'.heap[q]? = w.heap[q]?) : Dv T D w' p q st cs :=
  ⟨h.oks, h.len, h.five, h.ne, by obtain ⟨cap, e, hc⟩ := h.mem; exact ⟨cap, hp.trans e, hc⟩, by obtain ⟨r, e⟩ := h.row; exact ⟨r, hq.trans e⟩⟩
theorem Dv.below (h : Dv T D w p q st cs) (hb : Below w.heap.size w w') : Dv T D w' p q st cs := h.same (hb.block p h.lt_p) (hb.block q h.lt_q)
theorem Dv.turns {p' q' : Nat} (h : Dv T D w p q st cs) (ht : Turns p' q' w w') (h1 : p ≠ p') (h2 : p ≠ q') (h3 : q ≠ p') (h4 : q ≠ q') : Dv T D w' p q st cs := h.same (ht.block p h1 h2 h.lt_p) (ht.block q h3 h4 h.lt_q)
theorem Dv.drew (h : Dv T D w p q st cs) : Dv T D w.drew p q st cs := ⟨h.oks, h.len, h.five, h.ne, h.mem, h.row⟩
theorem Dv.slice (h : Dv T D w p q st cs) : ∃ cap, w.cell? ⟨p, 0, none⟩ = some (.slice (some ⟨q, 0, none⟩) st.length cap) ∧ st.length ≤ cap := by
  obtain ⟨cap, e, hc⟩ := h.mem
  exact ⟨cap, by simp [World.cell?, e], hc⟩
theorem Dv.count (h : Dv T D w p q st cs) (k : Nat) (hk : k < 5) : w.cell? ⟨p, k + 1, none⟩ = some (.int .i64 (cs.getD k 0)) ∧ w.frozen? ⟨p, k + 1, none⟩ = false := by
  obtain ⟨cap, e, hc⟩ := h.mem
  have hk' : k < cs.length := by have := h.five; omega
  exact ⟨by simp [World.cell?, e, List.getD, List.getElem?_eq_getElem hk'], by simp [World.frozen?, e]⟩
theorem Dv.setCount (h : Dv T D w p q st cs) (k : Nat) (x : Int) : Dv T D (w.setCell ⟨p, k + 1, none⟩ (.int .i64 x)) p q st (cs.set k x) := by
  refine ⟨h.oks, h.len, by rw [List.length_set]; exact h.five, h.ne, ?_, ?_⟩
  · obtain ⟨cap, e, hc⟩ := h.mem
    refine ⟨cap, ?_, hc⟩
    rw [heap_setCell_same w p (k + 1) _ D _ e]
    simp [List.map_set]
  · obtain ⟨r, e⟩ := h.row
    exact ⟨r, by rw [Below.heap_setCell _ _ _ _ (by simpa using fun x => h.ne x.symm)]; exact e⟩
theorem Dv.cell_at (h : Dv T D w p q st cs) {i : Nat} {c : Cl} (hc : st[i]? = some c) (j : Nat) (hj : j < 193) : w.cell? ⟨q, i * 193 + j, none⟩ = c.cells[j]? := by
  obtain ⟨r, e⟩ := h.row
  rw [← flat_at h.oks r hc j hj]
  simp [World.cell?, e]
theorem Dv.range_v (h : Dv T D w p q st cs) {i : Nat} {c : Cl} (hc : st[i]? = some c) : w.rangeAt q (i * 193) (enc c.v) := fun j u hu => by
  have hj := (List.getElem?_eq_some_iff.1 hu).1
  have ho := oks_at h.oks hc
  rw [enc_len, ho.1] at hj
  rw [h.cell_at hc j (by omega)]
  exact cells_v j u hu
theorem Dv.range_f (h : Dv T D w p q st cs) {i : Nat} {c : Cl} (hc : st[i]? = some c) : w.rangeAt q (i * 193 + 128) (enc c.f) := fun j u hu => by
  have hj := (List.getElem?_eq_some_iff.1 hu).1
  have ho := oks_at h.oks hc
  rw [enc_len, ho.2.2] at hj
  rw [Nat.add_assoc, h.cell_at hc (128 + j) (by omega)]
  exact cells_f ho j u hu
theorem Dv.cell_on (h : Dv T D w p q st cs) {i : Nat} {c : Cl} (hc : st[i]? = some c) : w.cell? ⟨q, i * 193 + 192, none⟩ = some (.bool c.on) := by
  rw [h.cell_at hc 192 (by omega)]
  exact cells_on (oks_at h.oks hc)
/-- What a store into line i leaves. -/
theorem Dv.stored {P : Program} (h : Dv T D w p q st cs) {i : Nat} {c : Cl} (hc : st[i]? = some c) (o : Nat) (xs : List Value) (ho : o + xs.length ≤ 193) (c' : Cl) (e : over c.cells o xs = c'.cells) (hok : c'.ok) (h1 : ∀ u ∈ xs, u.oneCell' = true) :
    ∃ w', (storeCells ⟨q, i * 193 + o, none⟩ xs).run P w = .ok () w' ∧ Dv T D w' p q (st.set i c') cs ∧ Turns p q w w' := by
  obtain ⟨r, er⟩ := h.row
  have hi : i < st.length := (List.getElem?_eq_some_iff.1 hc).1
  have hsz : i * 193 + o + xs.length ≤ (flat st ++ r).length := by
    rw [List.length_append, flat_len h.oks]
    have : (i + 1) * 193 ≤ st.length * 193 := Nat.mul_le_mul_right _ hi
    omega
  have hst := run_storeCells_at P q (i * 193 + o) T xs 0 _ w er (by simpa using hsz) h1
  have hov := flat_over h.oks r hc o xs ho c' e
  simp only [Nat.add_zero] at hst
  refine ⟨_, hst, ⟨oks_set h.oks i hok, by rw [List.length_set]; exact h.len, h.five, h.ne, ?_, ⟨r, ?_⟩⟩, (Turns.refl p q w).setRow_q _⟩
  · obtain ⟨cap, e, hcap⟩ := h.mem
    refine ⟨cap, ?_, by rw [List.length_set]; exact hcap⟩
    rw [setRow_other _ _ p _ h.ne, e, List.length_set]
  · rw [setRow_heap w q _ _ T _ er, ← hov]
    rfl
end Go.Proofs.YtlghphccmgmomaaGreat

/-
  Proved here: what package nvm's find, stop, isOnWay, isLoose and a counter's Add answer and leave of a device that lies in memory.
  Conditions: a device of at most 258 lines.
-/
namespace Go.Proofs.YtlghphccmgmomaaGreat
open Go Go.RowKit
set_option maxRecDepth 100000

theorem size_content : (Tryz.prog.info? 208).map (·.size) = some 64 := by kernel_rfl
theorem size_bool : (Tryz.prog.info? 4).map (·.size) = some 1 := by kernel_rfl
abbrev DvP (w : World) (p q : Nat) (st : List Cl) (cs : List Int) : Prop := Dv 210 215 w p q st cs

set_option maxHeartbeats 400000 in
theorem find_bad {w : World} {p q : Nat} {st : List Cl} {cs : List Int} (h : DvP w p q st cs) (x : Int) (hx : x < 0 ∨ (st.length : Int) ≤ x) :
    Calls Tryz.prog 114 #[.pointer (some ⟨p, 0, none⟩), .int .i64 x] w fun e w' => e = .returned (.tuple #[.pointer none, .int .i64 2]) ∧ w = w' := by
  obtain ⟨cap, hc, _⟩ := h.slice
  have hn := h.len
  obtain ⟨n, hn'⟩ : ∃ n, st.length = n := ⟨_, rfl⟩
  rw [hn'] at hc hx hn
  clear h hn'
  rcases Classical.em (x < 0) with h1 | h1
  · clear hx
    go_enter Tryz.func114, Tryz.ntmps114
    go_wp2
    go_ret2
    exact ⟨rfl, rfl⟩
  · have h2 : (n : Int) ≤ x := by omega
    clear hx
    go_enter Tryz.func114, Tryz.ntmps114
    go_wp2
    go_ret2
    exact ⟨rfl, rfl⟩

set_option maxHeartbeats 400000 in
theorem find_ok {w : World} {p q : Nat} {st : List Cl} {cs : List Int} (h : DvP w p q st cs) (i : Nat) (hi : i < st.length) :
    Calls Tryz.prog 114 #[.pointer (some ⟨p, 0, none⟩), .int .i64 i] w fun e w' => e = .returned (.tuple #[.pointer (some ⟨q, i * 193, none⟩), .int .i64 0]) ∧ w = w' := by
  obtain ⟨cap, hc, _⟩ := h.slice
  have hn := h.len
  obtain ⟨n, hn'⟩ : ∃ n, st.length = n := ⟨_, rfl⟩
  rw [hn'] at hc hi hn
  clear h hn'
  have h2 : ¬ (n : Int) ≤ (i : Int) := by omega
  have h3 : (i : Int) < (n : Int) := by omega
  go_enter Tryz.func114, Tryz.ntmps114
  go_wp2
  go_ret2
  exact ⟨rfl, rfl⟩
/-- A store into line i, by the operation. -/
theorem wpList_store_line {P : Program} {ops : Array Oper} {rest : List Oper} {o : Oper} {a : Act} {Q : Exit → Act → World → Prop} (hgd : o.guard = none) (ty : TypeId) (x y : Operand) (ho : o.op = .store ty x y) (hd : o.dst = none)
    {T D : TypeId} {w : World} {p q : Nat} {st : List Cl} {cs : List Int} (h : Dv T D w p q st cs) {i : Nat} {c : Cl} (hc : st[i]? = some c) (ad off : Nat) (had : ad = i * 193 + off) (v : Value) (xs : List Value) (hv : v.cells.toList = xs)
    (hx : a.eval x = .pointer (some ⟨q, ad, none⟩)) (hy : a.eval y = v) (hsz : (P.info? ty).map (·.size) = some xs.length) (h193 : off + xs.length ≤ 193) (c' : Cl) (e : over c.cells off xs = c'.cells) (hok : c'.ok) (h1 : ∀ u ∈ xs, u.oneCell' = true)
    (k : ∀ w', Hid (Dv T D w' p q (st.set i c') cs) → Hid (Turns p q w w') → wpList P ops Q rest a w') : wpList P ops Q (o :: rest) a w := by
  obtain ⟨w', hst, hD, hT⟩ := h.stored (P := P) hc off xs h193 c' e hok h1
  subst had
  have hrun : (storeVar ty ⟨q, i * 193 + off, none⟩ v).run P w = .ok () w' := by
    cases hq : P.info? ty with
    | none => simp [hq] at hsz
    | some inf =>
      have hs : inf.size = xs.length := by simpa [hq] using hsz
      have hs2 : v.cells.size = inf.size := by rw [hs, ← hv]; simp
      simp [storeVar, sizeOf, typeInfo, hq, hs2, hv, hst]
  refine wpList_plain hgd fun _ hK => ?_
  unfold Oper.wp execOp
  simp only [ho, hx, hy, Instr.storeAt, Instr.sureAddr, Sem.run_bind, Sem.run_pure, Result.andThen_ok, hrun]
  have := k w' hD hT
  refine hK _ _ ?_
  rw [hd]
  exact this
theorem built_zero : Tryz.prog.built 208 [] = some (enc zeros64).toArray := by kernel_rfl
def Cl.stop (c : Cl) : Cl := { c with f := zeros64, on := false }
theorem Cl.stop_ok {c : Cl} (h : c.ok) : c.stop.ok := ⟨h.1, h.2.1, zeros64_len⟩

set_option maxHeartbeats 400000 in
set_option maxRecDepth 100000 in
theorem stop_ok {w : World} {p q : Nat} {st : List Cl} {cs : List Int} (h : DvP w p q st cs) {i : Nat} {c : Cl} (hc : st[i]? = some c) :
    Calls Tryz.prog 219 #[.pointer (some ⟨q, i * 193, none⟩)] w fun e w' => e = .returned (.tuple #[]) ∧ DvP w' p q (st.set i c.stop) cs ∧ Turns p q w w' := by
  have HD := Lib.hid h
  have HC := Lib.hid hc
  have hok := oks_at h.oks hc
  have hlt : i < st.length := (List.getElem?_eq_some_iff.1 hc).1
  have HC1 : Hid ((st.set i { c with f := zeros64 })[i]? = some { c with f := zeros64 }) := by show _ = _; rw [List.getElem?_set_self hlt]
  have HOK := Lib.hid hok
  have HOK1 : Hid (({ c with f := zeros64 } : Cl).ok) := ⟨hok.1, hok.2.1, zeros64_len⟩
  have HSTOP : Hid (c.stop = { c with f := zeros64, on := false }) := rfl
  have HZL := Lib.hid zeros64_len
  have HBZ := Lib.hid built_zero
  have HOK2 := Lib.hid (Cl.stop_ok hok)
  clear h hc hok
  obtain ⟨s, hs⟩ : ∃ s, c.stop = s := ⟨_, rfl⟩
  rw [hs] at HSTOP HOK2 ⊢
  clear hs
  generalize zeros64 = Z at *
  go_enter Tryz.func219, Tryz.ntmps219
  go_wp2_with (first
    | ((with_reducible show wpList _ _ _ (⟨some 4, _, _, _, _, _⟩ :: _) _ _); refine wpList_build_cells (o := ⟨some 4, _, _, _, _, _⟩) rfl 208 #[] rfl (enc Z).toArray [] (by simp) HBZ.out ?_)
    | ((with_reducible show wpList _ _ _ (⟨none, .store 208 (.tmp 6) (.tmp 4), _, _, _, _⟩ :: _) _ _); refine wpList_store_line (o := ⟨none, .store 208 (.tmp 6) (.tmp 4), _, _, _, _⟩) rfl _ _ _ rfl rfl HD.out HC.out (i * 193 + 128) 128 rfl (.agg (enc Z).toArray) (enc Z) rfl rfl rfl (by rw [enc_len, HZL.out]; exact size_content) (by rw [enc_len, HZL.out]; omega) _ (over_f HOK.out Z HZL.out) HOK1.out enc_one ?_; intro w1 HD1 HT1)
    | ((with_reducible show wpList _ _ _ (⟨none, .store 4 (.tmp 8) _, _, _, _, _⟩ :: _) _ _); refine wpList_store_line (o := ⟨none, .store 4 (.tmp 8) _, _, _, _, _⟩) rfl _ _ _ rfl rfl HD1.out HC1.out (i * 193 + 192) 192 rfl (.bool false) [.bool false] rfl rfl rfl size_bool (by decide) s (by rw [HSTOP.out]; exact over_on HOK1.out false) HOK2.out (by intro u hu; simp at hu; subst hu; rfl) ?_; intro w2 HD2 HT2))
  refine bodyPost_end (results_none rfl _ _ _) rfl ?_
  refine ⟨rfl, ?_, HT1.out.trans HT2.out⟩
  have := HD2.out
  rw [List.set_set] at this
  exact this
/-- One more, as Go's int64 counts. -/
def up (x : Int) : Int := IntKind.i64.wrap (x + 1)
def bump (cs : List Int) (k : Nat) : List Int := cs.set k (up (cs.getD k 0))
theorem add64 (a : Addr) (x y : Int) (w : World) (hc : w.cell? a = some (.int .i64 x)) (hz : w.frozen? a = false) :
    (callFunc 160 #[.pointer (some a), .int .i64 y]).run Tryz.prog w = .ok (.value (.int .i64 (IntKind.i64.wrap (x + y)))) (w.setCell a (.int .i64 (IntKind.i64.wrap (x + y)))) :=
  run_call_add Tryz.func160 (by kernel_rfl) (by kernel_rfl) (by kernel_rfl) .i64 (by kernel_rfl) hc hz (by simp [go_sem])

set_option maxHeartbeats 400000 in
theorem add_ok {w : World} {p q : Nat} {st : List Cl} {cs : List Int} (h : DvP w p q st cs) (k : Nat) (hk : k < 5) :
    Calls Tryz.prog 115 #[.pointer (some ⟨p, k + 1, none⟩), .int .i64 1] w fun e w' => e = .returned (.int .i64 (up (cs.getD k 0))) ∧ DvP w' p q st (bump cs k) ∧ Turns p q w w' := by
  have h1 := add64 ⟨p, k + 1, none⟩ _ 1 w (h.count k hk).1 (h.count k hk).2
  have HD : Hid (DvP (w.setCell ⟨p, k + 1, none⟩ (.int .i64 (up (cs.getD k 0)))) p q st (bump cs k)) := h.setCount k _
  have HT : Hid (Turns p q w (w.setCell ⟨p, k + 1, none⟩ (.int .i64 (up (cs.getD k 0))))) := (Turns.refl p q w).setCell_p _ _
  have e : IntKind.i64.wrap (cs.getD k 0 + 1) = up (cs.getD k 0) := rfl
  rw [e] at h1
  generalize w.setCell ⟨p, k + 1, none⟩ (.int .i64 (up (cs.getD k 0))) = w1 at *
  generalize bump cs k = cs' at *
  generalize up (cs.getD k 0) = r at *
  clear h e
  go_enter Tryz.func115, Tryz.ntmps115
  go_wp2
  go_ret
  exact ⟨rfl, HD.out, HT.out⟩

end Go.Proofs.YtlghphccmgmomaaGreat

/-
  Proved here: what package nvm's Load, Durable and Flush answer and leave, of no device, of a line that is not there, of one that is.
  Conditions: a device of at most 258 lines.
-/
namespace Go.Proofs.YtlghphccmgmomaaGreat
open Go Go.RowKit
set_option maxRecDepth 100000

theorem Arr.turns {T : TypeId} {w w' : World} {g p q : Nat} {x : List UInt8} (h : Arr T w g x) (ht : Turns p q w w') (h1 : g ≠ p) (h2 : g ≠ q) : Arr T w' g x := (ht.block g h1 h2 h.lt).trans h
/-- What Load and Durable leave. -/
def Loaded (T : TypeId) (w : World) (x : List UInt8) (e : Ending) (w' : World) : Prop :=
  ∃ g, e = .returned (.tuple #[.slice (some ⟨g, 0, none⟩) 64 64, .int .i64 0]) ∧ w.heap.size ≤ g ∧ Arr T w' g x ∧ Below w.heap.size w w'
theorem zero_content : (Tryz.prog.info? 208).bind (·.zero) = some (.agg (enc zeros64).toArray) := by kernel_rfl

set_option maxHeartbeats 400000 in
theorem load_bad {w : World} {p q : Nat} {st : List Cl} {cs : List Int} (h : DvP w p q st cs) (x : Int) (hx : x < 0 ∨ (st.length : Int) ≤ x) :
    Calls Tryz.prog 79 #[.pointer (some ⟨p, 0, none⟩), .int .i64 x] w fun e w' => e = .returned (.tuple #[.slice none 0 0, .int .i64 2]) ∧ w = w' := by
  have HF := Lib.hid (find_bad h x hx)
  clear h hx
  go_enter Tryz.func79, Tryz.ntmps79
  go_wp2_with fail
  refine HF.out.mono ?_
  rintro e w' ⟨rfl, rfl⟩
  go_wp2
  go_ret2
  exact ⟨rfl, rfl⟩
set_option maxHeartbeats 400000 in
theorem load_ok {w : World} {p q : Nat} {st : List Cl} {cs : List Int} (h : DvP w p q st cs) {i : Nat} {c : Cl} (hc : st[i]? = some c) :
    Calls Tryz.prog 79 #[.pointer (some ⟨p, 0, none⟩), .int .i64 i] w (Loaded 208 w c.v) := by
  have HF := Lib.hid (find_ok h i (List.getElem?_eq_some_iff.1 hc).1)
  have HV := Lib.hid (h.range_v hc)
  have HX := Lib.hid (oks_at h.oks hc).1
  have HZ := Lib.hid zero_content
  have HZL := Lib.hid zeros64_len
  obtain ⟨g, hg⟩ : ∃ g, w.heap.size = g := ⟨_, rfl⟩
  have HG := Lib.hid hg
  generalize c.v = x at *
  generalize zeros64 = Z at *
  clear h hc hg
  go_enter Tryz.func79, Tryz.ntmps79
  go_wp2_with fail
  refine HF.out.mono ?_
  rintro e w' ⟨rfl, rfl⟩
  go_wp2_with (first
    | ((with_reducible show wpList _ _ _ (⟨some 21, _, _, _, _, _⟩ :: _) _ _); refine wpList_load_agg (o := ⟨some 21, _, _, _, _, _⟩) rfl 208 (.tmp 20) rfl q (i * 193) rfl (enc x) _ HV.out Tryz.underlying208 rfl (by rw [enc_len, HX.out]; exact size_content) ?_)
    | ((with_reducible show wpList _ _ _ (⟨some 8, _, _, _, _, _⟩ :: _) _ _); refine wpList_alloc_var (o := ⟨some 8, _, _, _, _, _⟩) rfl 208 rfl g HG.out _ HZ.out ?_; intro w1 HA1 HB1)
    | ((with_reducible show wpList _ _ _ (⟨none, .store _ _ _, _, _, _, _⟩ :: _) _ _); refine wpList_store_whole (o := ⟨none, .store 208 (.tmp 8) (.tmp 21), _, _, _, _⟩) rfl _ _ _ rfl rfl g (enc x).toArray rfl rfl 208 (enc Z).toArray HA1.out (by rw [List.size_toArray, enc_len, HX.out]; exact size_content) (by rw [List.size_toArray, List.size_toArray, enc_len, enc_len, HX.out, HZL.out]) (all_enc x) ?_; intro w2 HA2 HB2))
  go_ret2
  exact ⟨g, rfl, Nat.le_of_eq HG.out, HA2.out, by rw [HG.out]; exact HB1.out.trans HB2.out⟩
def Cl.flush (c : Cl) : Cl := { c with f := c.v, on := true }
theorem Cl.flush_ok {c : Cl} (h : c.ok) : c.flush.ok := ⟨h.1, h.2.1, h.1⟩
set_option maxHeartbeats 400000 in
theorem flush_bad {w : World} {p q : Nat} {st : List Cl} {cs : List Int} (h : DvP w p q st cs) (x : Int) (hx : x < 0 ∨ (st.length : Int) ≤ x) :
    Calls Tryz.prog 183 #[.pointer (some ⟨p, 0, none⟩), .int .i64 x] w fun e w' => e = .returned (.int .i64 2) ∧ w = w' := by
  have HF := Lib.hid (find_bad h x hx)
  clear h hx
  go_enter Tryz.func183, Tryz.ntmps183
  go_wp2_with fail
  refine HF.out.mono ?_
  rintro e w' ⟨rfl, rfl⟩
  go_wp2
  go_ret
  exact ⟨rfl, rfl⟩
set_option maxHeartbeats 400000 in
theorem flush_ok {w : World} {p q : Nat} {st : List Cl} {cs : List Int} (h : DvP w p q st cs) {i : Nat} {c : Cl} (hc : st[i]? = some c) :
    Calls Tryz.prog 183 #[.pointer (some ⟨p, 0, none⟩), .int .i64 i] w fun e w' => e = .returned (.int .i64 0) ∧ DvP w' p q (st.set i c.flush) (bump cs 1) ∧ Turns p q w w' := by
  have hlt := (List.getElem?_eq_some_iff.1 hc).1
  have hok := oks_at h.oks hc
  have HF := Lib.hid (find_ok h i hlt)
  have HV := Lib.hid (h.range_v hc)
  have HX := Lib.hid hok.1
  have HD := Lib.hid h
  have HC := Lib.hid hc
  have HOV := Lib.hid (over_f hok c.v hok.1)
  have hok1 : ({ c with f := c.v } : Cl).ok := ⟨hok.1, hok.2.1, hok.1⟩
  have HON := Lib.hid (over_on hok1 true)
  have HOK1 := Lib.hid hok1
  have HC1 : Hid ((st.set i { c with f := c.v })[i]? = some { c with f := c.v }) := by show _ = _; rw [List.getElem?_set_self hlt]
  have HOK2 : Hid (({ c with f := c.v, on := true } : Cl).ok) := c.flush_ok hok
  have HFL : Hid (c.flush = { c with f := c.v, on := true }) := rfl
  generalize c.flush = d at *
  clear h hc hok hok1
  go_enter Tryz.func183, Tryz.ntmps183
  go_wp2_with fail
  refine HF.out.mono ?_
  rintro e w' ⟨rfl, rfl⟩
  go_wp2_with (first
    | ((with_reducible show wpList _ _ _ (⟨some 21, _, _, _, _, _⟩ :: _) _ _); refine wpList_load_agg (o := ⟨some 21, _, _, _, _, _⟩) rfl 208 (.tmp 20) rfl q (i * 193) rfl (enc c.v) _ HV.out Tryz.underlying208 rfl (by rw [enc_len, HX.out]; exact size_content) ?_)
    | ((with_reducible show wpList _ _ _ (⟨none, .store 208 _ _, _, _, _, _⟩ :: _) _ _); refine wpList_store_line (o := ⟨none, .store 208 (.tmp 23) (.tmp 21), _, _, _, _⟩) rfl _ _ _ rfl rfl HD.out HC.out (i * 193 + 128) 128 rfl (.agg (enc c.v).toArray) (enc c.v) rfl rfl rfl (by rw [enc_len, HX.out]; exact size_content) (by rw [enc_len, HX.out]; omega) _ HOV.out HOK1.out enc_one ?_; intro w1 HD1 HT1)
    | ((with_reducible show wpList _ _ _ (⟨none, .store 4 _ _, _, _, _, _⟩ :: _) _ _); refine wpList_store_line (o := ⟨none, .store 4 (.tmp 25) _, _, _, _, _⟩) rfl _ _ _ rfl rfl HD1.out HC1.out (i * 193 + 192) 192 rfl (.bool true) [.bool true] rfl rfl rfl size_bool (by decide) _ HON.out HOK2.out (by intro u hu; simp at hu; subst hu; rfl) ?_; intro w2 HD2 HT2)
    | ((with_reducible show Calls _ 115 _ _ _); refine (add_ok HD2.out 1 (by decide)).mono ?_; rintro e w3 ⟨rfl, hd3, ht3⟩; have HD3 := Lib.hid hd3; have HT3 := Lib.hid ht3; clear hd3 ht3))
  go_ret
  refine ⟨rfl, ?_, (HT1.out.trans HT2.out).trans HT3.out⟩
  have := HD3.out
  rw [List.set_set] at this
  rw [HFL.out]
  exact this

end Go.Proofs.YtlghphccmgmomaaGreat
