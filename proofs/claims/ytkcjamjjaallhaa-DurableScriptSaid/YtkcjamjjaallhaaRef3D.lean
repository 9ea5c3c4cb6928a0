/-
  Proved here: what chapter 3's own Cut answers and leaves.
  Conditions: a device of at most 258 lines; a list that lies in memory of its own.
-/
import Derived.Test.YtkcjamjjaallhaaRef3C
namespace Go.Proofs.Ytkcjamjjaallhaa
open Go Go.RowKit

def mapI (h : Nat → Cl → Cl) (st : List Cl) (i : Nat) : List Cl := (st.mapIdx h).take i ++ st.drop i
theorem mapI_len (h : Nat → Cl → Cl) (st : List Cl) (i : Nat) : (mapI h st i).length = st.length := by simp [mapI]; omega
theorem mapI_zero (h : Nat → Cl → Cl) (st : List Cl) : mapI h st 0 = st := by simp [mapI]
theorem mapI_all (h : Nat → Cl → Cl) (st : List Cl) (i : Nat) (hi : st.length ≤ i) : mapI h st i = st.mapIdx h := by simp [mapI, List.take_of_length_le, List.drop_of_length_le, hi]
theorem mapI_at (h : Nat → Cl → Cl) (st : List Cl) (i : Nat) {c : Cl} (hc : st[i]? = some c) : (mapI h st i)[i]? = some c := by
  obtain ⟨hi, rfl⟩ := List.getElem?_eq_some_iff.1 hc
  have hl : ((st.mapIdx h).take i).length = i := by rw [List.length_take, List.length_mapIdx]; omega
  rw [mapI, List.getElem?_append_right (by omega), hl, Nat.sub_self, List.getElem?_drop, Nat.add_zero, List.getElem?_eq_getElem hi]
theorem mapI_set (h : Nat → Cl → Cl) (st : List Cl) (i : Nat) {c : Cl} (hc : st[i]? = some c) : (mapI h st i).set i (h i c) = mapI h st (i + 1) := by
  obtain ⟨hi, rfl⟩ := List.getElem?_eq_some_iff.1 hc
  have hl : ((st.mapIdx h).take i).length = i := by rw [List.length_take, List.length_mapIdx]; omega
  have hi' : i < (st.mapIdx h).length := by rw [List.length_mapIdx]; exact hi
  rw [mapI, mapI, List.take_succ_eq_append_getElem hi', List.set_append_right _ _ (by omega), hl, Nat.sub_self, List.drop_eq_getElem_cons hi, List.set_cons_zero, List.append_assoc, List.getElem_mapIdx]
  rfl
/-- The numbers below n of which f is true. -/
def rl (f : Nat → Bool) : Nat → List Int
  | 0 => []
  | n + 1 => rl f n ++ if f n then [(n : Int)] else []
theorem rl_len (f : Nat → Bool) (n : Nat) : (rl f n).length ≤ n := by
  induction n with
  | zero => simp [rl]
  | succ n ih => simp only [rl, List.length_append]; split <;> simp <;> omega
/-- What the chapter's Cut makes of a line. -/
def Cl.rcut (kb : Bool) (c : Cl) : Cl := if (c.v != c.p) && kb then { c with p := c.v, on := false } else { c with v := c.p, on := false }
def lostB (st : List Cl) (keep : List Int) (i : Nat) : Bool := ((clAt st (i : Int)).v != (clAt st (i : Int)).p) && !keep.any (· == (i : Int))
theorem Turns.then_below {p q : Nat} {w wr w' : World} (h : Turns p q w wr) (hb : Below w.heap.size wr w') : Turns p q w w' :=
  ⟨hb.os.trans h.os, hb.tape.trans h.tape, hb.output.trans h.output, Nat.le_trans h.size hb.size, fun k h1 h2 hk => (hb.block k hk).trans (h.block k h1 h2 hk)⟩
/-- What the chapter's Cut leaves. -/
def CuttedR (w : World) (p q : Nat) (st : List Cl) (cs : List Int) (keep : List Int) (e : Ending) (w' : World) : Prop :=
  ∃ v, e = .returned v ∧ w'.ownsRow w.heap.size 3 1 v (rl (lostB st keep) st.length).length (encI (rl (lostB st keep) st.length)) ∧ DvR w' p q (st.mapIdx fun i c => c.rcut (keep.any (· == (i : Int)))) (bump cs 4) ∧ Turns p q w w'
end Go.Proofs.Ytkcjamjjaallhaa
