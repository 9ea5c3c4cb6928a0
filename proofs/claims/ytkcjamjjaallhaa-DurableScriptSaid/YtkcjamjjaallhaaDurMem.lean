/-
  Proved here: how a durability clock lies in memory, what is read of it, what a store into one of its cells leaves.
  Conditions: none.
-/
import Derived.Test.YtkcjamjjaallhaaDurMath
namespace Go.Proofs.Ytkcjamjjaallhaa
open Go Go.RowKit

/-! ### What stays but for some blocks -/
structure Keeps (S : List Nat) (w w' : World) : Prop where
  os : w'.os = w.os
  tape : w'.tape = w.tape
  output : w'.output = w.output
  size : w.heap.size ≤ w'.heap.size
  block : ∀ k, k ∉ S → k < w.heap.size → w'.heap[k]? = w.heap[k]?
theorem Keeps.refl (S : List Nat) (w : World) : Keeps S w w := ⟨rfl, rfl, rfl, Nat.le_refl _, fun _ _ _ => rfl⟩
theorem Keeps.trans {S : List Nat} {a b c : World} (h : Keeps S a b) (k : Keeps S b c) : Keeps S a c :=
  ⟨k.os.trans h.os, k.tape.trans h.tape, k.output.trans h.output, Nat.le_trans h.size k.size, fun i h1 hi => (k.block i h1 (Nat.lt_of_lt_of_le hi h.size)).trans (h.block i h1 hi)⟩
theorem Keeps.mono {S R : List Nat} {a b : World} (h : Keeps S a b) (hs : ∀ x ∈ S, x ∈ R) : Keeps R a b := ⟨h.os, h.tape, h.output, h.size, fun i h1 hi => h.block i (fun hx => h1 (hs i hx)) hi⟩
theorem Turns.keeps {p q : Nat} {a b : World} (h : Turns p q a b) {S : List Nat} (hp : p ∈ S) (hq : q ∈ S) : Keeps S a b := ⟨h.os, h.tape, h.output, h.size, fun i h1 hi => h.block i (fun e => h1 (e ▸ hp)) (fun e => h1 (e ▸ hq)) hi⟩
theorem Keeps.of_below {w w' : World} (h : Below w.heap.size w w') (S : List Nat) : Keeps S w w' := ⟨h.os, h.tape, h.output, h.size, fun k _ hk => h.block k hk⟩
theorem Keeps.below {S : List Nat} {w w' : World} (h : Keeps S w w') {B : Nat} (hS : ∀ x ∈ S, B ≤ x) (hB : B ≤ w.heap.size) : Below B w w' :=
  ⟨h.os, h.tape, h.output, h.size, fun k hk => h.block k (fun hx => by have := hS k hx; omega) (by omega)⟩
theorem Dv.keeps {T D : TypeId} {w w' : World} {p q : Nat} {st : List Cl} {cs : List Int} (h : Dv T D w p q st cs) {S : List Nat} (k : Keeps S w w') (hp : p ∉ S) (hq : q ∉ S) : Dv T D w' p q st cs := h.same (k.block p hp h.lt_p) (k.block q hq h.lt_q)

/-! ### A clock in memory -/
def fnv (ph p : Nat) : Value :=
  if ph = 0 then .nilFunc else .func (.func (if ph = 1 then 65 else if ph = 2 then 66 else if ph = 3 then 78 else if ph = 4 then 84 else 88)) #[.pointer (some ⟨p, 0, none⟩)] #[]
def headC (now dur o n : Nat) : List Value := [.int .u64 (now : Nat), .int .u64 (dur : Nat), .slice (some ⟨o, 0, none⟩) n n]
def encB (l : List Bool) : List Value := l.map .bool
theorem encB_len (l : List Bool) : (encB l).length = l.length := by simp [encB]
def ckL (now dur o n : Nat) (noted : List Bool) (sv fv : Value) : List Value := headC now dur o n ++ (encB noted ++ [sv, fv])
/-- The clock at p, whose counts lie at o; the lines that are left lie in none of the blocks S. -/
structure Cr (S : List Nat) (w : World) (p o now dur : Nat) (owed : List Int) (noted : List Bool) (left : List Int) (fv : Value) : Prop where
  ne : p ≠ o
  n258 : noted.length = 258
  small : owed.length ≤ 4
  mem : ∃ A cap, w.heap[p]? = some (.cells (ckL now dur o owed.length noted (.slice A left.length cap) fv).toArray 81 (0, 0)) ∧ RowI w A left ∧ left.length ≤ cap ∧ (A = none → cap = 0) ∧ ∀ x, A = some x → x.block ∉ S
  row : w.heap[o]? = some (.cells (encI owed).toArray 3 (0, 0))
  inp : p ∈ S
  ino : o ∈ S
variable {S S0 : List Nat} {w w' : World} {p o now dur : Nat} {owed left : List Int} {noted : List Bool} {fv : Value}
theorem Cr.lt_p (h : Cr S w p o now dur owed noted left fv) : p < w.heap.size := by obtain ⟨_, _, e, _⟩ := h.mem; exact lt_of_heap e
theorem Cr.lt_o (h : Cr S w p o now dur owed noted left fv) : o < w.heap.size := lt_of_heap h.row
theorem RowI.move {A : Option Addr} {l : List Int} (h : RowI w A l) (hs : w.heap.size ≤ w'.heap.size) (hb : ∀ x, A = some x → x.block < w.heap.size → w'.heap[x.block]? = w.heap[x.block]?) : RowI w' A l :=
  ⟨h.1, fun hl => by
    obtain ⟨b, off, e, hlt, hc⟩ := h.2 hl
    exact ⟨b, off, e, Nat.lt_of_lt_of_le hlt hs, fun k hk => (World.cell?_of_block (w := w) (a := ⟨b, off + k, none⟩) (show w'.heap[b]? = w.heap[b]? from hb ⟨b, off, none⟩ e hlt)).trans (hc k hk)⟩⟩
theorem Cr.keeps (h : Cr S w p o now dur owed noted left fv) (k : Keeps S0 w w') (hp : p ∉ S0) (ho : o ∉ S0) (hS : ∀ x ∈ S0, x ∈ S) : Cr S w' p o now dur owed noted left fv := by
  obtain ⟨A, cap, e, hr, hc, ha, hn⟩ := h.mem
  exact ⟨h.ne, h.n258, h.small, ⟨A, cap, (k.block p hp h.lt_p).trans e, hr.move k.size (fun x hx hlt => k.block _ (fun hm => hn x hx (hS _ hm)) hlt), hc, ha, hn⟩, (k.block o ho h.lt_o).trans h.row, h.inp, h.ino⟩
theorem Cr.below (h : Cr S w p o now dur owed noted left fv) (hb : Below w.heap.size w w') : Cr S w' p o now dur owed noted left fv := h.keeps (Keeps.of_below hb []) (by simp) (by simp) (by simp)
theorem cell_in {T : TypeId} {l : List Value} (e : w.heap[p]? = some (.cells l.toArray T (0, 0))) (j : Nat) : w.cell? ⟨p, j, none⟩ = l[j]? := by simp [World.cell?, e]
theorem frozen_in {T : TypeId} {l : List Value} (e : w.heap[p]? = some (.cells l.toArray T (0, 0))) (j : Nat) : w.frozen? ⟨p, j, none⟩ = false := by simp [World.frozen?, e]
theorem ckL_tail (n : Nat) (h : noted.length = 258) (o : Nat) (sv fv : Value) (j : Nat) : (ckL now dur o n noted sv fv)[261 + j]? = [sv, fv][j]? := by
  have h1 : (headC now dur o n).length = 3 := rfl
  have h2 : (encB noted).length = 258 := by rw [encB_len, h]
  unfold ckL
  rw [List.getElem?_append_right (by omega), List.getElem?_append_right (by omega), h1, h2, show 261 + j - 3 - 258 = j by omega]
theorem ckL_mid (n : Nat) (o : Nat) (sv fv : Value) (i : Nat) (hi : i < noted.length) : (ckL now dur o n noted sv fv)[3 + i]? = some (.bool (noted.getD i false)) := by
  unfold ckL
  rw [List.getElem?_append_right (by simp [headC]), List.getElem?_append_left (by simp [headC, encB_len]; omega)]
  simp [headC, encB, List.getD, List.getElem?_eq_getElem hi]
/-- What a walk reads of a clock. -/
theorem Cr.reads (h : Cr S w p o now dur owed noted left fv) : w.cell? ⟨p, 0, none⟩ = some (.int .u64 (now : Nat)) ∧ w.cell? ⟨p, 1, none⟩ = some (.int .u64 (dur : Nat)) ∧ w.cell? ⟨p, 2, none⟩ = some (.slice (some ⟨o, 0, none⟩) owed.length owed.length) ∧ w.cell? ⟨p, 262, none⟩ = some fv := by
  obtain ⟨A, cap, e, _⟩ := h.mem
  refine ⟨?_, ?_, ?_, ?_⟩
  · rw [cell_in e]; rfl
  · rw [cell_in e]; rfl
  · rw [cell_in e]; rfl
  · rw [cell_in e]; exact ckL_tail _ h.n258 o _ _ 1
theorem Cr.readL (h : Cr S w p o now dur owed noted left fv) : ∃ A cap, w.cell? ⟨p, 261, none⟩ = some (.slice A left.length cap) ∧ RowI w A left ∧ left.length ≤ cap ∧ (A = none → cap = 0) ∧ ∀ x, A = some x → x.block ∉ S := by
  obtain ⟨A, cap, e, h1⟩ := h.mem
  exact ⟨A, cap, by rw [cell_in e]; exact ckL_tail _ h.n258 o _ _ 0, h1⟩
theorem Cr.readN (h : Cr S w p o now dur owed noted left fv) (i : Nat) (hi : i < 258) : w.cell? ⟨p, 3 + i, none⟩ = some (.bool (noted.getD i false)) := by
  obtain ⟨A, cap, e, h1⟩ := h.mem
  rw [cell_in e]
  exact ckL_mid _ o _ _ i (by rw [h.n258]; exact hi)
theorem Cr.readO (h : Cr S w p o now dur owed noted left fv) (i : Nat) (hi : i < owed.length) : w.cell? ⟨o, i, none⟩ = some (.int .i64 (owed.getD i 0)) := by
  rw [cell_in h.row]
  exact encI_at _ _ hi
theorem Cr.frozenP (h : Cr S w p o now dur owed noted left fv) (j : Nat) : w.frozen? ⟨p, j, none⟩ = false := by obtain ⟨A, cap, e, h1⟩ := h.mem; exact frozen_in e j
theorem Cr.frozenO (h : Cr S w p o now dur owed noted left fv) (j : Nat) : w.frozen? ⟨o, j, none⟩ = false := frozen_in h.row j
/-- The clock's own block written over. -/
theorem Cr.setP (h : Cr S w p o now dur owed noted left fv) {w' : World} (hw : ∀ k, k ≠ p → w'.heap[k]? = w.heap[k]?) (hs : w.heap.size ≤ w'.heap.size) {now' dur' : Nat} {noted' : List Bool} {fv' : Value} (hn' : noted'.length = 258)
    (e : ∀ sv cs, w.heap[p]? = some (.cells (ckL now dur o owed.length noted sv fv).toArray 81 (0, 0)) → cs = sv → w'.heap[p]? = some (.cells (ckL now' dur' o owed.length noted' cs fv').toArray 81 (0, 0))) : Cr S w' p o now' dur' owed noted' left fv' := by
  obtain ⟨A, cap, e1, hr, hc, ha, hn⟩ := h.mem
  exact ⟨h.ne, hn', h.small, ⟨A, cap, e _ _ e1 rfl, hr.move hs (fun x hx _ => hw _ (fun e => hn x hx (by rw [e]; exact h.inp))), hc, ha, hn⟩, (hw o (fun e => h.ne e.symm)).trans h.row, h.inp, h.ino⟩
theorem heap_other (w : World) (p j k : Nat) (v : Value) (hk : k ≠ p) : (w.setCell ⟨p, j, none⟩ v).heap[k]? = w.heap[k]? := Below.heap_setCell _ _ _ _ (by simpa using hk)
theorem size_set (w : World) (a : Addr) (v : Value) : w.heap.size ≤ (w.setCell a v).heap.size := by simp [World.setCell]
theorem Cr.set_ (h : Cr S w p o now dur owed noted left fv) (j : Nat) (v : Value) {now' dur' : Nat} {noted' : List Bool} {fv' : Value} (hn' : noted'.length = 258) (e : ∀ sv, (ckL now dur o owed.length noted sv fv).set j v = ckL now' dur' o owed.length noted' sv fv') : Cr S (w.setCell ⟨p, j, none⟩ v) p o now' dur' owed noted' left fv' :=
  h.setP (fun k hk => heap_other w p j k v hk) (size_set _ _ _) hn' (fun sv cs e1 hcs => by
    subst hcs
    rw [heap_setCell_same w p j _ _ _ e1, ← e]
    simp)
theorem Cr.setNow (h : Cr S w p o now dur owed noted left fv) (n : Nat) : Cr S (w.setCell ⟨p, 0, none⟩ (.int .u64 (n : Nat))) p o n dur owed noted left fv := h.set_ 0 _ h.n258 (fun _ => rfl)
theorem Cr.setDur (h : Cr S w p o now dur owed noted left fv) (n : Nat) : Cr S (w.setCell ⟨p, 1, none⟩ (.int .u64 (n : Nat))) p o now n owed noted left fv := h.set_ 1 _ h.n258 (fun _ => rfl)
theorem Cr.setN (h : Cr S w p o now dur owed noted left fv) (i : Nat) (hi : i < 258) (b : Bool) : Cr S (w.setCell ⟨p, 3 + i, none⟩ (.bool b)) p o now dur owed (noted.set i b) left fv := h.set_ (3 + i) _ (by rw [List.length_set]; exact h.n258) (fun sv => by
  have := h.n258
  unfold ckL
  rw [List.set_append_right _ _ (by simp [headC]), List.set_append_left _ _ (by simp [headC, encB_len]; omega)]
  simp [headC, encB, List.map_set])
theorem Cr.setF (h : Cr S w p o now dur owed noted left fv) (v : Value) : Cr S (w.setCell ⟨p, 262, none⟩ v) p o now dur owed noted left v := h.set_ 262 _ h.n258 (fun sv => by
  have e1 : (headC now dur o owed.length).length = 3 := rfl
  have e2 : (encB noted).length = 258 := by rw [encB_len, h.n258]
  unfold ckL
  rw [List.set_append_right _ _ (by omega), List.set_append_right _ _ (by omega), e1, e2]
  rfl)
/-- The lines that are left turned. -/
theorem Cr.setL (h : Cr S w p o now dur owed noted left fv) (l : List Int) (A : Option Addr) (cap n : Nat) (hln : l.length = n) (hr : RowI w A l) (hc : l.length ≤ cap) (ha : A = none → cap = 0) (hn : ∀ x, A = some x → x.block ∉ S) : Cr S (w.setCell ⟨p, 261, none⟩ (.slice A n cap)) p o now dur owed noted l fv := by
  subst hln
  obtain ⟨A', cap', e1, _⟩ := h.mem
  have t1 : (headC now dur o owed.length).length = 3 := rfl
  have t2 : (encB noted).length = 258 := by rw [encB_len, h.n258]
  have e : (ckL now dur o owed.length noted (.slice A' left.length cap') fv).set 261 (.slice A l.length cap) = ckL now dur o owed.length noted (.slice A l.length cap) fv := by
    unfold ckL
    rw [List.set_append_right _ _ (by omega), List.set_append_right _ _ (by omega), t1, t2]
    rfl
  refine ⟨h.ne, h.n258, h.small, ⟨A, cap, ?_, ?_, hc, ha, hn⟩, ?_, h.inp, h.ino⟩
  · rw [heap_setCell_same w p 261 _ _ _ e1, ← e]
    simp
  · exact hr.move (size_set _ _ _) (fun x hx _ => heap_other _ _ _ _ _ (fun e => hn x hx (by rw [e]; exact h.inp)))
  · rw [heap_other _ _ _ _ _ (fun e => h.ne e.symm)]
    exact h.row
/-- A count turned. -/
theorem Cr.setO (h : Cr S w p o now dur owed noted left fv) (i : Nat) (x : Int) : Cr S (w.setCell ⟨o, i, none⟩ (.int .i64 x)) p o now dur (owed.set i x) noted left fv := by
  obtain ⟨A, cap, e1, hr, hc, ha, hn⟩ := h.mem
  refine ⟨h.ne, h.n258, by rw [List.length_set]; exact h.small, ⟨A, cap, ?_, ?_, hc, ha, hn⟩, ?_, h.inp, h.ino⟩
  · rw [heap_other _ _ _ _ _ h.ne, e1, List.length_set]
  · exact hr.move (size_set _ _ _) (fun x hx _ => heap_other _ _ _ _ _ (fun e => hn x hx (by rw [e]; exact h.ino)))
  · rw [heap_setCell_same w o i _ _ _ h.row, ← encI_set]
    simp
theorem turns_p (p q : Nat) (w : World) (i : Nat) (u : Value) : Turns p q w (w.setCell ⟨p, i, none⟩ u) := ⟨rfl, rfl, rfl, by simp [World.setCell], fun k hk _ _ => Below.heap_setCell _ _ _ _ (by simpa using hk)⟩
theorem turns_o (p q : Nat) (w : World) (i : Nat) (u : Value) : Turns p q w (w.setCell ⟨q, i, none⟩ u) := ⟨rfl, rfl, rfl, by simp [World.setCell], fun k _ hk _ => Below.heap_setCell _ _ _ _ (by simpa using hk)⟩
/-- All that is noted written over. -/
theorem Cr.setAll {P : Program} (h : Cr S w p o now dur owed noted left fv) (l : List Bool) (hl : l.length = 258) : ∃ w', (storeCells ⟨p, 3, none⟩ (encB l)).run P w = .ok () w' ∧ Cr S w' p o now dur owed l left fv ∧ Turns p o w w' := by
  obtain ⟨A, cap, e1, _⟩ := h.mem
  have t1 : (headC now dur o owed.length).length = 3 := rfl
  have t2 : (encB noted).length = 258 := by rw [encB_len, h.n258]
  have t3 : (encB l).length = 258 := by rw [encB_len, hl]
  have hst := run_storeCells_at P p 3 _ (encB l) 0 _ w e1 (by simp only [List.size_toArray]; unfold ckL; simp only [List.length_append, t1, t2, t3, List.length_cons, List.length_nil]; omega) (by intro v hv; simp only [encB, List.mem_map] at hv; obtain ⟨b, _, rfl⟩ := hv; rfl)
  refine ⟨_, hst, h.setP (fun k hk => setRow_other _ _ k _ hk) (by simp) hl (fun sv cs e2 hcs => ?_), ⟨rfl, rfl, rfl, by simp, fun k hk _ _ => setRow_other _ _ k _ hk⟩⟩
  subst hcs
  rw [e1] at e2
  rw [setRow_heap w p _ _ _ _ e1]
  have e3 : ckL now dur o owed.length noted (.slice A left.length cap) fv = ckL now dur o owed.length noted cs fv := by
    have := Option.some.inj e2
    simpa using this
  rw [e3]
  congr 3
  show List.take (3 + 0) (headC now dur o owed.length ++ (encB noted ++ [cs, fv])) ++ encB l ++ List.drop (3 + 0 + (encB l).length) (headC now dur o owed.length ++ (encB noted ++ [cs, fv])) = headC now dur o owed.length ++ (encB l ++ [cs, fv])
  rw [List.take_append, List.drop_append, t1, t3, List.take_of_length_le (by omega), List.drop_of_length_le (by omega), List.drop_append, t2, List.drop_of_length_le (by omega)]
  simp
/-- The counts written over. -/
theorem Cr.setOwed {P : Program} (h : Cr S w p o now dur owed noted left fv) (l : List Int) (hl : l.length = owed.length) : ∃ w', (storeCells ⟨o, 0, none⟩ (encI l)).run P w = .ok () w' ∧ Cr S w' p o now dur l noted left fv ∧ Turns p o w w' := by
  have hst := run_storeCells_at P o 0 _ (encI l) 0 _ w h.row (by simp [encI_len, hl]) encI_one
  have ht : Turns p o w (w.setRow o ((encI owed).toArray.toList.take (0 + 0) ++ encI l ++ (encI owed).toArray.toList.drop (0 + 0 + (encI l).length)).toArray) := ⟨rfl, rfl, rfl, by simp, fun k _ hk _ => setRow_other _ _ k _ hk⟩
  refine ⟨_, hst, ?_, ht⟩
  obtain ⟨A, cap, e1, hr, hc, ha, hn⟩ := h.mem
  refine ⟨h.ne, h.n258, by rw [hl]; exact h.small, ⟨A, cap, ?_, ?_, hc, ha, hn⟩, ?_, h.inp, h.ino⟩
  · rw [setRow_other _ _ p _ h.ne, e1, hl]
  · exact hr.move ht.size (fun x hx _ => setRow_other _ _ _ _ (fun e => hn x hx (by rw [e]; exact h.ino)))
  · rw [setRow_heap w o _ _ _ _ h.row]
    simp [encI_len, hl, List.drop_of_length_le]
/-- A clock in memory. -/
structure Cm (S : List Nat) (w : World) (p o : Nat) (c : Ck) : Prop where
  ok : c.ok
  raw : Cr S w p o c.now c.dur c.owed c.noted c.left (fnv c.ph p)
variable {c : Ck}
theorem Cm.keeps (h : Cm S w p o c) (k : Keeps S0 w w') (hp : p ∉ S0) (ho : o ∉ S0) (hS : ∀ x ∈ S0, x ∈ S) : Cm S w' p o c := ⟨h.ok, h.raw.keeps k hp ho hS⟩
theorem Cm.below (h : Cm S w p o c) (hb : Below w.heap.size w w') : Cm S w' p o c := ⟨h.ok, h.raw.below hb⟩
theorem Cm.lt_p (h : Cm S w p o c) : p < w.heap.size := h.raw.lt_p
theorem Cm.lt_o (h : Cm S w p o c) : o < w.heap.size := h.raw.lt_o
theorem Cm.reads (h : Cm S w p o c) : w.cell? ⟨p, 0, none⟩ = some (.int .u64 (c.now : Nat)) ∧ w.cell? ⟨p, 1, none⟩ = some (.int .u64 (c.dur : Nat)) ∧ w.cell? ⟨p, 2, none⟩ = some (.slice (some ⟨o, 0, none⟩) c.owed.length c.owed.length) ∧ w.cell? ⟨p, 262, none⟩ = some (fnv c.ph p) := h.raw.reads
theorem Cm.readL (h : Cm S w p o c) : ∃ A cap, w.cell? ⟨p, 261, none⟩ = some (.slice A c.left.length cap) ∧ RowI w A c.left ∧ c.left.length ≤ cap ∧ (A = none → cap = 0) ∧ ∀ x, A = some x → x.block ∉ S := h.raw.readL
theorem Cm.readO (h : Cm S w p o c) (i : Nat) (hi : i < c.owed.length) : w.cell? ⟨o, i, none⟩ = some (.int .i64 (c.owed.getD i 0)) := h.raw.readO i hi

end Go.Proofs.Ytkcjamjjaallhaa
