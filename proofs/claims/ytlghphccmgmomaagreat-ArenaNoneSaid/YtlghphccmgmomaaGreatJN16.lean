/-
  Proved here, joined: RdA, RdB, RdD, DurMath, DurMem, DurA
  Conditions: as each part says.
-/
import Derived.Test.YtlghphccmgmomaaGreatJN15
import Derived.Test.YtlghphccmgmomaaGreatJN4
import Derived.Test.YtlghphccmgmomaaGreatJN3
import Derived.Test.YtlghphccmgmomaaGreatJN5
import Derived.Deep.QuietTactic
import Derived.BigQuiet
import Derived.IntWalk
import Derived.WalkSmall
import Derived.ChangeKeysEq
import Derived.Lib.SliceRun
import Derived.Laws.EntriesVeiled

/-
  Proved here: what package reader's find answers.
  Conditions: none.
-/
namespace Go.Proofs.YtlghphccmgmomaaGreat
open Go Go.RowKit
set_option maxRecDepth 100000

abbrev RdP (w : World) (p q : Nat) (L : List Nat) (now : Nat) : Prop := Rd 86 222 true w p q L now
end Go.Proofs.YtlghphccmgmomaaGreat

/-
  Proved here: what package reader's Now, Advance and Inside answer and leave.
  Conditions: epochs below 2^32.
-/
namespace Go.Proofs.YtlghphccmgmomaaGreat
open Go Go.RowKit
set_option maxRecDepth 100000

set_option maxHeartbeats 400000 in
theorem rdnow_any {w : World} {p q : Nat} {L : List Nat} {now : Nat} (h : RdP w p q L now) : Calls Tryz.prog 71 #[.pointer (some ⟨p, 0, none⟩)] w fun e w' => e = .returned (.int .u64 (now : Nat)) ∧ w = w' := by
  have H := Lib.hid (uload p 0 _ w h.now0)
  have hs := h.slice1
  have hn := h.now0
  clear h
  go_enter Tryz.func71, Tryz.ntmps71
  go_wp2_with fail
  refine H.out.mono ?_
  rintro e w' ⟨rfl, rfl⟩
  go_wp2
  go_ret
  exact ⟨rfl, rfl⟩
end Go.Proofs.YtlghphccmgmomaaGreat

/-
  Proved here: what package reader's Quiet and New answer and leave.
  Conditions: none.
-/
namespace Go.Proofs.YtlghphccmgmomaaGreat
open Go Go.RowKit
set_option maxRecDepth 100000

theorem uint_info : (Tryz.prog.info? 86).map (fun i => (i.zero, i.size, decide (i.bytes ≤ 64))) = some (some (.agg #[.int .u64 0]), 1, true) := by kernel_rfl
/-- What New makes. -/
theorem madeU (w : World) (n : Nat) (hn : n ≤ 4) : ∃ w1, (Instr.makeSlice 220 (.int .i64 (n : Int)) (.int .i64 (n : Int))).run Tryz.prog w = .ok (.slice (some ⟨w.heap.size, 0, none⟩) n n) w1 ∧
    w1.heap[w.heap.size]? = some (.cells (encU (List.replicate n 0)).toArray 86 (0, 0)) ∧ Below w.heap.size w w1 ∧ w1.heap.size = w.heap.size + 1 := by
  obtain ⟨i, hi, hz, hs, hy⟩ : ∃ i, Tryz.prog.info? 86 = some i ∧ i.zero = some (.agg #[.int .u64 0]) ∧ i.size = 1 ∧ i.bytes ≤ 64 := by
    obtain ⟨i, h1, h2⟩ := Option.map_eq_some_iff.1 uint_info
    simp only [Prod.mk.injEq, decide_eq_true_eq] at h2
    exact ⟨i, h1, h2.1, h2.2.1, h2.2.2⟩
  have hmk := run_make (P := Tryz.prog) w 220 86 i _ Tryz.underlying220 hi hz .i64 .i64 (n : Int) (n : Int) (by omega) (by omega) (by
    have h1 : (i.bytes : Int) * (n : Int) ≤ 64 * 32 := Int.mul_le_mul (by omega) (by omega) (by omega) (by omega)
    omega) (by omega)
  rw [Int.toNat_natCast, hs, Nat.mul_one] at hmk
  refine ⟨_, hmk, ?_, (Below.refl _ _).alloc (Nat.le_refl _) _, by simp⟩
  have : (madeCells (Value.cells (.int .u64 0)) n).toList = encU (List.replicate n 0) := by
    refine (toList_madeCells_one (.int .u64 0) n).trans ?_
    rw [encU, List.map_replicate]
    rfl
  rw [← this]
  show (w.heap.push _)[w.heap.size]? = _
  simp [Value.cells]
theorem clk_new {n : Nat} (h1 : 1 ≤ n) (h2 : n ≤ 4) : Clk (List.replicate n 0) 1 := ⟨by omega, by omega, fun x hx => by rw [List.mem_replicate] at hx; omega, by simpa using h1, by simpa using h2⟩
/-- What New leaves where it does not refuse. -/
def MadeRd (w : World) (n : Nat) (e : Ending) (w' : World) : Prop :=
  ∃ p q, e = .returned (.tuple #[.pointer (some ⟨p, 0, none⟩), .int .i64 0]) ∧ w.heap.size ≤ p ∧ w.heap.size ≤ q ∧ RdP w' p q (List.replicate n 0) 1 ∧ Below w.heap.size w w'
set_option maxHeartbeats 400000 in
theorem rdnew_ok (n : Nat) (h1 : 1 ≤ n) (h2 : n ≤ 4) (w : World) : Calls Tryz.prog 131 #[.int .i64 n] w (MadeRd w n) := by
  obtain ⟨w1, hmk, hq, hb, hs⟩ := madeU w n h2
  obtain ⟨g, hg⟩ : ∃ g, w.heap.size = g := ⟨_, rfl⟩
  rw [hg] at hmk hq hb hs
  have hA : (w1.alloc (.cells #[.int .u64 0, .slice (some ⟨g, 0, none⟩) n n] 222)).heap[g + 1]? = some (.cells #[.int .u64 0, .slice (some ⟨g, 0, none⟩) n n] 222 (0, 0)) := by
    rw [← hs]
    show (w1.heap.push _)[w1.heap.size]? = _
    simp
  have hG : (w1.alloc (.cells #[.int .u64 0, .slice (some ⟨g, 0, none⟩) n n] 222)).heap[g]? = some (.cells (encU (List.replicate n 0)).toArray 86 (0, 0)) := by
    rw [Below.heap_alloc _ _ _ (by omega)]
    exact hq
  have HB2 : Hid (Below g w (w1.alloc (.cells #[.int .u64 0, .slice (some ⟨g, 0, none⟩) n n] 222))) := hb.alloc (by omega) _
  obtain ⟨w2, hw2⟩ : ∃ w2, w1.alloc (.cells #[.int .u64 0, .slice (some ⟨g, 0, none⟩) n n] 222) = w2 := ⟨_, rfl⟩
  rw [hw2] at hA hG HB2
  have hc : w2.cell? ⟨g + 1, 0, none⟩ = some (.int .u64 0) := by simp [World.cell?, hA]
  have hz : w2.frozen? ⟨g + 1, 0, none⟩ = false := by simp [World.frozen?, hA]
  have H := Lib.hid (ustore (g + 1) 0 _ 1 w2 hc hz)
  have HR : Hid (RdP (w2.setCell ⟨g + 1, 0, none⟩ (.int .u64 1)) (g + 1) g (List.replicate n 0) 1) := by
    refine ⟨clk_new h1 h2, by omega, ?_, ?_⟩
    · rw [heap_setCell_same w2 (g + 1) 0 _ 222 _ hA]
      simp [headRd]
    · rw [Below.heap_setCell _ _ _ _ (by simp)]
      exact hG
  have HB3 : Hid (Below g w (w2.setCell ⟨g + 1, 0, none⟩ (.int .u64 1))) := HB2.out.setCell (by show g ≤ g + 1; omega) _
  have HG := Lib.hid hg
  have HSZ := Lib.hid hs
  have HW2 := Lib.hid hw2
  have HFIN : Hid (∀ e w', e = .returned (.tuple #[.pointer (some ⟨g + 1, 0, none⟩), .int .i64 0]) → w2.setCell ⟨g + 1, 0, none⟩ (.int .u64 1) = w' → MadeRd w n e w') := fun e w' he hw => by
    subst hw
    exact ⟨g + 1, g, he, by omega, by omega, HR.out, by rw [hg]; exact HB3.out⟩
  generalize w2.setCell ⟨g + 1, 0, none⟩ (.int .u64 1) = w3 at *
  have hn1 : ¬ (n : Int) < 1 := by omega
  have hn4 : ¬ (4 : Int) < (n : Int) := by omega
  clear hA hG hb hq hg hc hz
  go_enter Tryz.func131, Tryz.ntmps131
  go_wp2_with fail
  refine H.out.mono ?_
  rintro e w' ⟨rfl, rfl⟩
  go_wp2
  go_ret2
  exact HFIN.out _ _ rfl rfl

end Go.Proofs.YtlghphccmgmomaaGreat

/-
  Proved here: what a durability clock is, as numbers; what a note, the beginning and each step of the closing leave of it and of a device's lines.
  Conditions: none.
-/
namespace Go.Proofs.YtlghphccmgmomaaGreat
open Go Go.RowKit
set_option maxRecDepth 100000

/-! ### Lines of a set -/
/-! ### A clock -/
def noLines : List Bool := List.replicate 258 false
theorem noLines_len : noLines.length = 258 := List.length_replicate ..
theorem noLines_at (i : Nat) : noLines.getD i false = false := by
  unfold noLines
  rw [List.getD, List.getElem?_replicate]
  split <;> rfl
/-- ph: 0 nothing is being closed; what the next step does: 1 flushes a line, 2 fences, 3 stores the clock's line, 4 flushes it, 5 fences. -/
structure Ck where
  dur : Nat
  owed : List Int
  noted : List Bool
  left : List Int
  ph : Nat
def Ck.now (c : Ck) : Nat := if c.ph = 0 then c.dur + 1 else c.dur + 2
def inT (L : List Int) (t : Int) : Prop := 0 ≤ t ∧ t < L.length
instance (L : List Int) (t : Int) : Decidable (inT L t) := inferInstanceAs (Decidable (_ ∧ _))
def inLine (x : Int) : Prop := 0 ≤ x ∧ x < 258
instance (x : Int) : Decidable (inLine x) := inferInstanceAs (Decidable (_ ∧ _))
def Ck.noteE (c : Ck) (t x : Int) : Int := if inT c.owed t then (if inLine x then 0 else 2) else 1
def Ck.note (c : Ck) (t x : Int) : Ck := if inT c.owed t ∧ inLine x then { c with noted := c.noted.set x.toNat true, owed := c.owed.set t.toNat (up (c.owed.getD t.toNat 0)) } else c
def nx (l : List Int) : Nat := if l.length = 0 then 2 else 1
def Ck.step (c : Ck) : Ck :=
  if c.ph = 0 then c else if c.ph = 1 then { c with left := c.left.tail, ph := nx c.left.tail } else if c.ph = 2 then { c with ph := 3 } else if c.ph = 3 then { c with ph := 4 } else if c.ph = 4 then { c with ph := 5 } else { c with ph := 0, dur := c.dur + 1 }
def Ck.dev (c : Ck) (s : St) : St :=
  if c.ph = 0 then s else if c.ph = 1 then s.flush (c.left.getD 0 0) else if c.ph = 2 then s.fence else if c.ph = 3 then s.store 1 0 (clockL (c.dur + 1)) else if c.ph = 4 then s.flush 1 else s.fence
structure Ck.ok (c : Ck) : Prop where
  lt : c.dur + 2 < 18446744073709551616
  noted : c.noted.length = 258
  one : 1 ≤ c.owed.length
  four : c.owed.length ≤ 4
  left : c.left.length ≤ 258
  lines : ∀ x ∈ c.left, inLine x
  ph : c.ph ≤ 5
  some_ : c.ph = 1 ↔ c.left ≠ []
def ck0 (n d : Nat) : Ck := ⟨d, List.replicate n 0, noLines, [], 0⟩
theorem ck0_ok {n d : Nat} (h1 : 1 ≤ n) (h4 : n ≤ 4) (hd : d + 2 < 18446744073709551616) : (ck0 n d).ok := ⟨hd, noLines_len, by simpa [ck0] using h1, by simpa [ck0] using h4, by simp [ck0], fun x hx => by simp [ck0] at hx, by simp [ck0], by simp [ck0]⟩
theorem Ck.note_ph (c : Ck) (t x : Int) : (c.note t x).ph = c.ph := by unfold Ck.note; split <;> rfl
theorem Ck.note_dur (c : Ck) (t x : Int) : (c.note t x).dur = c.dur := by unfold Ck.note; split <;> rfl
theorem Ck.note_left (c : Ck) (t x : Int) : (c.note t x).left = c.left := by unfold Ck.note; split <;> rfl
theorem Ck.note_owed (c : Ck) (t x : Int) : (c.note t x).owed.length = c.owed.length := by unfold Ck.note; split <;> simp
theorem Ck.note_noted (c : Ck) (t x : Int) : (c.note t x).noted.length = c.noted.length := by unfold Ck.note; split <;> simp
theorem Ck.ok.note {c : Ck} (h : c.ok) (t x : Int) : (c.note t x).ok :=
  ⟨by rw [Ck.note_dur]; exact h.lt, by rw [Ck.note_noted]; exact h.noted, by rw [Ck.note_owed]; exact h.one, by rw [Ck.note_owed]; exact h.four, by rw [Ck.note_left]; exact h.left, by rw [Ck.note_left]; exact h.lines, by rw [Ck.note_ph]; exact h.ph, by rw [Ck.note_ph, Ck.note_left]; exact h.some_⟩
theorem nx_some (l : List Int) : nx l = 1 ↔ l ≠ [] := by
  unfold nx
  cases l <;> simp
theorem nx_le (l : List Int) : nx l = 1 ∨ nx l = 2 := by unfold nx; split <;> simp
theorem Ck.ok.step {c : Ck} (h : c.ok) (hd : c.dur + 3 < 18446744073709551616) : c.step.ok := by
  have hs := h.some_
  unfold Ck.step
  split
  · exact h
  split
  · exact ⟨h.lt, h.noted, h.one, h.four, by have := h.left; simp only [List.length_tail]; omega, fun x hx => h.lines x (List.mem_of_mem_tail hx), by have := nx_le c.left.tail; show nx _ ≤ 5; omega, nx_some _⟩
  split
  · exact ⟨h.lt, h.noted, h.one, h.four, h.left, h.lines, by simp only; omega, by simp only; rw [← hs]; omega⟩
  split
  · exact ⟨h.lt, h.noted, h.one, h.four, h.left, h.lines, by simp only; omega, by simp only; rw [← hs]; omega⟩
  split
  · exact ⟨h.lt, h.noted, h.one, h.four, h.left, h.lines, by simp only; omega, by simp only; rw [← hs]; omega⟩
  · exact ⟨by show c.dur + 1 + 2 < _; omega, h.noted, h.one, h.four, h.left, h.lines, by simp only; omega, by simp only; rw [← hs]; omega⟩
end Go.Proofs.YtlghphccmgmomaaGreat

/-
  Proved here: how a durability clock lies in memory, what is read of it, what a store into one of its cells leaves.
  Conditions: none.
-/
namespace Go.Proofs.YtlghphccmgmomaaGreat
open Go Go.RowKit
set_option maxRecDepth 100000

/-! ### What stays but for some blocks -/
structure Keeps (S : List Nat) (w w' : World) : Prop where
  os : w'.os = w.os
  tape : w'.tape = w.tape
  output : w'.output = w.output
  size : w.heap.size ≤ w'.heap.size
  block : ∀ k, k ∉ S → k < w.heap.size → w'.heap[k]? = w.heap[k]?
theorem Keeps.refl (S : List Nat) (w : World) : Keeps S w w := ⟨rfl, rfl, rfl, Nat.le_refl _, fun _ _ _ => rfl⟩
theorem Keeps.trans {S : List Nat} {a b c : World} (h : Keeps S a b) (k : Keeps S b c) : Keeps S a c :=
  ⟨k.os.trans h.os, k.tape.trans h.tape, k.output.trans h.output, Nat.le_trans h.size k.size, fun i h1 hi => (k.block i h1 (Nat.lt_of_lt_of_le hi h.size)).trans (h.block i h1 hi)⟩
theorem Keeps.mono {S R : List Nat} {a b : World} (h : Keeps S a b) (hs : ∀ x ∈ S, x ∈ R) : Keeps R a b := ⟨h.os, h.tape, h.output, h.size, fun i h1 hi => h.block i (fun hx => h1 (hs i hx)) hi⟩
theorem Turns.keeps {p q : Nat} {a b : World} (h : Turns p q a b) {S : List Nat} (hp : p ∈ S) (hq : q ∈ S) : Keeps S a b := ⟨h.os, h.tape, h.output, h.size, fun i h1 hi => h.block i (fun e => h1 (e ▸ hp)) (fun e => h1 (e ▸ hq)) hi⟩
theorem Keeps.of_below {w w' : World} (h : Below w.heap.size w w') (S : List Nat) : Keeps S w w' := ⟨h.os, h.tape, h.output, h.size, fun k _ hk => h.block k hk⟩
theorem Keeps.below {S : List Nat} {w w' : World} (h : Keeps S w w') {B : Nat} (hS : ∀ x ∈ S, B ≤ x) (hB : B ≤ w.heap.size) : Below B w w' :=
  ⟨h.os, h.tape, h.output, h.size, fun k hk => h.block k (fun hx => by have := hS k hx; omega) (by omega)⟩
theorem Dv.keeps {T D : TypeId} {w w' : World} {p q : Nat} {st : List Cl} {cs : List Int} (h : Dv T D w p q st cs) {S : List Nat} (k : Keeps S w w') (hp : p ∉ S) (hq : q ∉ S) : Dv T D w' p q st cs := h.same (k.block p hp h.lt_p) (k.block q hq h.lt_q)

/-! ### A clock in memory -/
def fnv (ph p : Nat) : Value :=
  if ph = 0 then .nilFunc else .func (.func 0) #[.pointer (some ⟨p, 0, none⟩)] #[]
def headC (now dur o n : Nat) : List Value := [.int .u64 (now : Nat), .int .u64 (dur : Nat), .slice (some ⟨o, 0, none⟩) n n]
def encB (l : List Bool) : List Value := l.map .bool
theorem encB_len (l : List Bool) : (encB l).length = l.length := by simp [encB]
def ckL (now dur o n : Nat) (noted : List Bool) (sv fv : Value) : List Value := headC now dur o n ++ (encB noted ++ [sv, fv])
/-- The clock at p, whose counts lie at o; the lines that are left lie in none of the blocks S. -/
structure Cr (S : List Nat) (w : World) (p o now dur : Nat) (owed : List Int) (noted : List Bool) (left : List Int) (fv : Value) : Prop where
  ne : p ≠ o
  n258 : noted.length = 258
  small : owed.length ≤ 4
  mem : ∃ A cap, w.heap[p]? = some (.cells (ckL now dur o owed.length noted (.slice A left.length cap) fv).toArray 129 (0, 0)) ∧ RowI w A left ∧ left.length ≤ cap ∧ (A = none → cap = 0) ∧ ∀ x, A = some x → x.block ∉ S ∧ x.block < w.heap.size
  row : w.heap[o]? = some (.cells (encI owed).toArray 3 (0, 0))
  inp : p ∈ S
  ino : o ∈ S
variable {S S0 : List Nat} {w w' : World} {p o now dur : Nat} {owed left : List Int} {noted : List Bool} {fv : Value}
theorem Cr.lt_p (h : Cr S w p o now dur owed noted left fv) : p < w.heap.size := by obtain ⟨_, _, e, _⟩ := h.mem; exact lt_of_heap e
theorem Cr.lt_o (h : Cr S w p o now dur owed noted left fv) : o < w.heap.size := lt_of_heap h.row
theorem RowI.move {A : Option Addr} {l : List Int} (h : RowI w A l) (hs : w.heap.size ≤ w'.heap.size) (hb : ∀ x, A = some x → x.block < w.heap.size → w'.heap[x.block]? = w.heap[x.block]?) : RowI w' A l :=
  ⟨h.1, fun hl => by
    obtain ⟨b, off, e, hlt, hc⟩ := h.2 hl
    exact ⟨b, off, e, Nat.lt_of_lt_of_le hlt hs, fun k hk => (World.cell?_of_block (w := w) (a := ⟨b, off + k, none⟩) (show w'.heap[b]? = w.heap[b]? from hb ⟨b, off, none⟩ e hlt)).trans (hc k hk)⟩⟩
theorem Cr.keeps (h : Cr S w p o now dur owed noted left fv) (k : Keeps S0 w w') (hp : p ∉ S0) (ho : o ∉ S0) (hS : ∀ x ∈ S0, x ∈ S) : Cr S w' p o now dur owed noted left fv := by
  obtain ⟨A, cap, e, hr, hc, ha, hn⟩ := h.mem
  exact ⟨h.ne, h.n258, h.small, ⟨A, cap, (k.block p hp h.lt_p).trans e, hr.move k.size (fun x hx hlt => k.block _ (fun hm => (hn x hx).1 (hS _ hm)) hlt), hc, ha, fun x hx => ⟨(hn x hx).1, Nat.lt_of_lt_of_le (hn x hx).2 k.size⟩⟩, (k.block o ho h.lt_o).trans h.row, h.inp, h.ino⟩
theorem Cr.below (h : Cr S w p o now dur owed noted left fv) (hb : Below w.heap.size w w') : Cr S w' p o now dur owed noted left fv := h.keeps (Keeps.of_below hb []) (by simp) (by simp) (by simp)
theorem cell_in {T : TypeId} {l : List Value} (e : w.heap[p]? = some (.cells l.toArray T (0, 0))) (j : Nat) : w.cell? ⟨p, j, none⟩ = l[j]? := by simp [World.cell?, e]
theorem frozen_in {T : TypeId} {l : List Value} (e : w.heap[p]? = some (.cells l.toArray T (0, 0))) (j : Nat) : w.frozen? ⟨p, j, none⟩ = false := by simp [World.frozen?, e]
theorem ckL_tail (n : Nat) (h : noted.length = 258) (o : Nat) (sv fv : Value) (j : Nat) : (ckL now dur o n noted sv fv)[261 + j]? = [sv, fv][j]? := by
  have h1 : (headC now dur o n).length = 3 := rfl
  have h2 : (encB noted).length = 258 := by rw [encB_len, h]
  unfold ckL
  rw [List.getElem?_append_right (by omega), List.getElem?_append_right (by omega), h1, h2, show 261 + j - 3 - 258 = j by omega]
theorem ckL_mid (n : Nat) (o : Nat) (sv fv : Value) (i : Nat) (hi : i < noted.length) : (ckL now dur o n noted sv fv)[3 + i]? = some (.bool (noted.getD i false)) := by
  unfold ckL
  rw [List.getElem?_append_right (by simp [headC]), List.getElem?_append_left (by simp [headC, encB_len]; omega)]
  simp [headC, encB, List.getD, List.getElem?_eq_getElem hi]
/-- What a walk reads of a clock. -/
theorem Cr.reads (h : Cr S w p o now dur owed noted left fv) : w.cell? ⟨p, 0, none⟩ = some (.int .u64 (now : Nat)) ∧ w.cell? ⟨p, 1, none⟩ = some (.int .u64 (dur : Nat)) ∧ w.cell? ⟨p, 2, none⟩ = some (.slice (some ⟨o, 0, none⟩) owed.length owed.length) ∧ w.cell? ⟨p, 262, none⟩ = some fv := by
  obtain ⟨A, cap, e, _⟩ := h.mem
  refine ⟨?_, ?_, ?_, ?_⟩
  · rw [cell_in e]; rfl
  · rw [cell_in e]; rfl
  · rw [cell_in e]; rfl
  · rw [cell_in e]; exact ckL_tail _ h.n258 o _ _ 1
theorem Cr.readL (h : Cr S w p o now dur owed noted left fv) : ∃ A cap, w.cell? ⟨p, 261, none⟩ = some (.slice A left.length cap) ∧ RowI w A left ∧ left.length ≤ cap ∧ (A = none → cap = 0) ∧ ∀ x, A = some x → x.block ∉ S ∧ x.block < w.heap.size := by
  obtain ⟨A, cap, e, h1⟩ := h.mem
  exact ⟨A, cap, by rw [cell_in e]; exact ckL_tail _ h.n258 o _ _ 0, h1⟩
theorem Cr.readN (h : Cr S w p o now dur owed noted left fv) (i : Nat) (hi : i < 258) : w.cell? ⟨p, 3 + i, none⟩ = some (.bool (noted.getD i false)) := by
  obtain ⟨A, cap, e, h1⟩ := h.mem
  rw [cell_in e]
  exact ckL_mid _ o _ _ i (by rw [h.n258]; exact hi)
theorem Cr.readO (h : Cr S w p o now dur owed noted left fv) (i : Nat) (hi : i < owed.length) : w.cell? ⟨o, i, none⟩ = some (.int .i64 (owed.getD i 0)) := by
  rw [cell_in h.row]
  exact encI_at _ _ hi
theorem Cr.frozenP (h : Cr S w p o now dur owed noted left fv) (j : Nat) : w.frozen? ⟨p, j, none⟩ = false := by obtain ⟨A, cap, e, h1⟩ := h.mem; exact frozen_in e j
theorem Cr.frozenO (h : Cr S w p o now dur owed noted left fv) (j : Nat) : w.frozen? ⟨o, j, none⟩ = false := frozen_in h.row j
/-- The clock's own block written over. -/
theorem Cr.setP (h : Cr S w p o now dur owed noted left fv) {w' : World} (hw : ∀ k, k ≠ p → w'.heap[k]? = w.heap[k]?) (hs : w.heap.size ≤ w'.heap.size) {now' dur' : Nat} {noted' : List Bool} {fv' : Value} (hn' : noted'.length = 258)
    (e : ∀ sv cs, w.heap[p]? = some (.cells (ckL now dur o owed.length noted sv fv).toArray 129 (0, 0)) → cs = sv → w'.heap[p]? = some (.cells (ckL now' dur' o owed.length noted' cs fv').toArray 129 (0, 0))) : Cr S w' p o now' dur' owed noted' left fv' := by
  obtain ⟨A, cap, e1, hr, hc, ha, hn⟩ := h.mem
  exact ⟨h.ne, hn', h.small, ⟨A, cap, e _ _ e1 rfl, hr.move hs (fun x hx _ => hw _ (fun e => (hn x hx).1 (by rw [e]; exact h.inp))), hc, ha, fun x hx => ⟨(hn x hx).1, Nat.lt_of_lt_of_le (hn x hx).2 hs⟩⟩, (hw o (fun e => h.ne e.symm)).trans h.row, h.inp, h.ino⟩
theorem heap_other (w : World) (p j k : Nat) (v : Value) (hk : k ≠ p) : (w.setCell ⟨p, j, none⟩ v).heap[k]? = w.heap[k]? := Below.heap_setCell _ _ _ _ (by simpa using hk)
theorem size_set (w : World) (a : Addr) (v : Value) : w.heap.size ≤ (w.setCell a v).heap.size := by simp [World.setCell]
theorem Cr.set_ (h : Cr S w p o now dur owed noted left fv) (j : Nat) (v : Value) {now' dur' : Nat} {noted' : List Bool} {fv' : Value} (hn' : noted'.length = 258) (e : ∀ sv, (ckL now dur o owed.length noted sv fv).set j v = ckL now' dur' o owed.length noted' sv fv') : Cr S (w.setCell ⟨p, j, none⟩ v) p o now' dur' owed noted' left fv' :=
  h.setP (fun k hk => heap_other w p j k v hk) (size_set _ _ _) hn' (fun sv cs e1 hcs => by
    subst hcs
    rw [heap_setCell_same w p j _ _ _ e1, ← e]
    simp)
theorem Cr.setNow (h : Cr S w p o now dur owed noted left fv) (n : Nat) : Cr S (w.setCell ⟨p, 0, none⟩ (.int .u64 (n : Nat))) p o n dur owed noted left fv := h.set_ 0 _ h.n258 (fun _ => rfl)
theorem Cr.setDur (h : Cr S w p o now dur owed noted left fv) (n : Nat) : Cr S (w.setCell ⟨p, 1, none⟩ (.int .u64 (n : Nat))) p o now n owed noted left fv := h.set_ 1 _ h.n258 (fun _ => rfl)
theorem Cr.setN (h : Cr S w p o now dur owed noted left fv) (i : Nat) (hi : i < 258) (b : Bool) : Cr S (w.setCell ⟨p, 3 + i, none⟩ (.bool b)) p o now dur owed (noted.set i b) left fv := h.set_ (3 + i) _ (by rw [List.length_set]; exact h.n258) (fun sv => by
  have := h.n258
  unfold ckL
  rw [List.set_append_right _ _ (by simp [headC]), List.set_append_left _ _ (by simp [headC, encB_len]; omega)]
  simp [headC, encB, List.map_set])
/-- A count turned. -/
theorem Cr.setO (h : Cr S w p o now dur owed noted left fv) (i : Nat) (x : Int) : Cr S (w.setCell ⟨o, i, none⟩ (.int .i64 x)) p o now dur (owed.set i x) noted left fv := by
  obtain ⟨A, cap, e1, hr, hc, ha, hn⟩ := h.mem
  refine ⟨h.ne, h.n258, by rw [List.length_set]; exact h.small, ⟨A, cap, ?_, ?_, hc, ha, fun x hx => ⟨(hn x hx).1, Nat.lt_of_lt_of_le (hn x hx).2 (size_set _ _ _)⟩⟩, ?_, h.inp, h.ino⟩
  · rw [heap_other _ _ _ _ _ h.ne, e1, List.length_set]
  · exact hr.move (size_set _ _ _) (fun x hx _ => heap_other _ _ _ _ _ (fun e => (hn x hx).1 (by rw [e]; exact h.ino)))
  · rw [heap_setCell_same w o i _ _ _ h.row, ← encI_set]
    simp
theorem turns_p (p q : Nat) (w : World) (i : Nat) (u : Value) : Turns p q w (w.setCell ⟨p, i, none⟩ u) := ⟨rfl, rfl, rfl, by simp [World.setCell], fun k hk _ _ => Below.heap_setCell _ _ _ _ (by simpa using hk)⟩
theorem turns_o (p q : Nat) (w : World) (i : Nat) (u : Value) : Turns p q w (w.setCell ⟨q, i, none⟩ u) := ⟨rfl, rfl, rfl, by simp [World.setCell], fun k _ hk _ => Below.heap_setCell _ _ _ _ (by simpa using hk)⟩
/-- A clock in memory. -/
structure Cm (S : List Nat) (w : World) (p o : Nat) (c : Ck) : Prop where
  ok : c.ok
  raw : Cr S w p o c.now c.dur c.owed c.noted c.left (fnv c.ph p)
variable {c : Ck}
theorem Cm.keeps (h : Cm S w p o c) (k : Keeps S0 w w') (hp : p ∉ S0) (ho : o ∉ S0) (hS : ∀ x ∈ S0, x ∈ S) : Cm S w' p o c := ⟨h.ok, h.raw.keeps k hp ho hS⟩
theorem Cm.below (h : Cm S w p o c) (hb : Below w.heap.size w w') : Cm S w' p o c := ⟨h.ok, h.raw.below hb⟩
theorem Cm.lt_p (h : Cm S w p o c) : p < w.heap.size := h.raw.lt_p
theorem Cm.lt_o (h : Cm S w p o c) : o < w.heap.size := h.raw.lt_o
theorem Cm.reads (h : Cm S w p o c) : w.cell? ⟨p, 0, none⟩ = some (.int .u64 (c.now : Nat)) ∧ w.cell? ⟨p, 1, none⟩ = some (.int .u64 (c.dur : Nat)) ∧ w.cell? ⟨p, 2, none⟩ = some (.slice (some ⟨o, 0, none⟩) c.owed.length c.owed.length) ∧ w.cell? ⟨p, 262, none⟩ = some (fnv c.ph p) := h.raw.reads
theorem Cm.readL (h : Cm S w p o c) : ∃ A cap, w.cell? ⟨p, 261, none⟩ = some (.slice A c.left.length cap) ∧ RowI w A c.left ∧ c.left.length ≤ cap ∧ (A = none → cap = 0) ∧ ∀ x, A = some x → x.block ∉ S ∧ x.block < w.heap.size := h.raw.readL
theorem Cm.readO (h : Cm S w p o c) (i : Nat) (hi : i < c.owed.length) : w.cell? ⟨o, i, none⟩ = some (.int .i64 (c.owed.getD i 0)) := h.raw.readO i hi

end Go.Proofs.YtlghphccmgmomaaGreat

/-
  Proved here: what package durable's Now, Durable, due, Closing, Owed and Left answer of a clock; what each call answers of none.
  Conditions: none.
-/
namespace Go.Proofs.YtlghphccmgmomaaGreat
open Go Go.RowKit
set_option maxRecDepth 100000

set_option maxHeartbeats 400000 in
theorem cknow_any {S : List Nat} {w : World} {p o : Nat} {c : Ck} (h : Cm S w p o c) : Calls Tryz.prog 21 #[.pointer (some ⟨p, 0, none⟩)] w fun e w' => e = .returned (.int .u64 (c.now : Nat)) ∧ w = w' := by
  have H := Lib.hid (uload p 0 _ w h.reads.1)
  clear h
  go_enter Tryz.func21, Tryz.ntmps21
  go_wp2_with fail
  refine H.out.mono ?_
  rintro e w' ⟨rfl, rfl⟩
  go_wp2
  go_ret
  exact ⟨rfl, rfl⟩
theorem u64_wrapD (x : Nat) (h : x < 18446744073709551616) : IntKind.u64.wrap (x : Int) = (x : Int) := by
  simp [IntKind.wrap, IntKind.signed, IntKind.bits]
  omega
theorem u64_up (x : Nat) (h : x + 1 < 18446744073709551616) : IntKind.u64.wrap ((x : Int) + 1) = ((x + 1 : Nat) : Int) := by
  have := u64_wrapD (x + 1) h
  simpa using this
/-- What a list of a call's own leaves. -/
def OwnI (w : World) (l : List Int) (e : Ending) (w' : World) : Prop := ∃ V, e = .returned V ∧ w'.ownsRow w.heap.size 3 1 V l.length (encI l) ∧ Below w.heap.size w w'
set_option maxHeartbeats 400000 in
set_option maxRecDepth 100000 in
theorem cloneI_any (w : World) (A : Option Addr) (n c : Nat) (l : List Int) (hl : l.length = n) (hr : RowI w A l) (hA : A = none → c = 0) :
    Calls Tryz.prog 96 #[.slice A n c] w (OwnI w l) := by
  rcases A with _ | a
  · have h0 : l.length = 0 := by
      rcases Nat.eq_zero_or_pos l.length with h | h
      · exact h
      · obtain ⟨_, _, e, _⟩ := hr.2 h
        cases e
    obtain rfl : l = [] := List.eq_nil_of_length_eq_zero h0
    obtain rfl : n = 0 := by simpa using hl.symm
    obtain rfl := hA rfl
    clear hr hl hA h0
    have hnil : (binOp .eql 120 (.slice none 0 0) (.slice none 0 0)).run Tryz.prog w = .ok (.bool true) w := Lib.run_eql_slice_nil w 120 3 none 0 0 0 0 Tryz.underlying120
    go_enter Tryz.func96, Tryz.ntmps96
    go_wp2
    go_ret
    exact ⟨_, rfl, ⟨rfl, .inl ⟨rfl, rfl⟩⟩, Below.refl _ _⟩
  · have hb0 : Below w.heap.size w (w.alloc (.cells #[] 3)) := (Below.refl _ _).alloc (Nat.le_refl _) _
    obtain ⟨V, w2, hrun, hown, hg, _⟩ := run_appI (w.alloc (.cells #[] 3)) w.heap.size 0 _ [] (World.ownsRow_made (e := 3) (size := 1) w #[] 0 (Nat.le_refl _) (by simp) (by simp)) (some a) n c l hl (hr.below hb0) (by intro h; cases h) (by have := hr.1; omega) (by simp)
    have HRUN := Lib.hid hrun
    have HO : Hid (w2.ownsRow w.heap.size 3 1 V l.length (encI l)) := (by show World.ownsRow _ _ _ _ _ _ _; rw [hl]; simpa using hown)
    have HB : Hid (Below w.heap.size w w2) := hb0.grown hg (by simp) (fun k hk => by simp [Value.ownBlock] at hk; omega)
    have hnil : (binOp .eql 120 (.slice (some a) n c) (.slice none 0 0)).run Tryz.prog w = .ok (.bool false) w := Lib.run_eql_slice_nil w 120 3 (some a) n c 0 0 Tryz.underlying120
    clear hrun hown hg hl hr hb0
    go_enter Tryz.func96, Tryz.ntmps96
    go_wp2_with (at_builtin; refine wpList_app rfl (.tmp 5) (.tmp 6) 120 rfl rfl rfl HRUN.out ?_)
    go_ret
    exact ⟨V, rfl, HO.out, HB.out⟩
theorem rowI_owed {S : List Nat} {w : World} {p o : Nat} {c : Ck} (h : Cm S w p o c) : RowI w (some ⟨o, 0, none⟩) c.owed :=
  ⟨by have := h.ok.four; omega, fun _ => ⟨o, 0, rfl, h.lt_o, fun k hk => by rw [Nat.zero_add]; exact h.readO k hk⟩⟩
set_option maxHeartbeats 400000 in
theorem ckowed_any {S : List Nat} {w : World} {p o : Nat} {c : Ck} (h : Cm S w p o c) : Calls Tryz.prog 48 #[.pointer (some ⟨p, 0, none⟩)] w (OwnI w c.owed) := by
  have H := Lib.hid (cloneI_any w (some ⟨o, 0, none⟩) c.owed.length c.owed.length c.owed rfl (rowI_owed h) (by intro h; cases h))
  have hs := h.reads.2.2.1
  generalize c.owed.length = n at *
  clear h
  go_enter Tryz.func48, Tryz.ntmps48
  go_wp2_with fail
  refine H.out.mono ?_
  rintro e w' ⟨V, rfl, ho, hb⟩
  have HO := Lib.hid ho
  have HB := Lib.hid hb
  clear ho hb
  go_wp2
  go_ret
  exact ⟨V, rfl, HO.out, HB.out⟩
end Go.Proofs.YtlghphccmgmomaaGreat
