/-
  Proved here: what package nvm's Cut answers and leaves.
  Conditions: a device of at most 258 lines; a list of at most 2^27 numbers that lies in memory of its own.
-/
import Derived.Test.YtkcjamjjaallhaaNvmE
namespace Go.Proofs.Ytkcjamjjaallhaa
open Go Go.RowKit

/-- Line x, if there is one, written back. -/
def keepOne (st : List Cl) (x : Int) : List Cl :=
  if x < 0 then st else match st[x.toNat]? with
    | some c => st.set x.toNat { c with p := c.v }
    | none => st
def keepAll (st : List Cl) (keep : List Int) : List Cl := keep.foldl keepOne st
def Cl.cut (c : Cl) : Cl := ({ c with v := c.p } : Cl).stop
theorem keepOne_len (st : List Cl) (x : Int) : (keepOne st x).length = st.length := by
  unfold keepOne
  split
  · rfl
  · split
    · rw [List.length_set]
    · rfl
theorem keepAll_len (st : List Cl) (keep : List Int) : (keepAll st keep).length = st.length := by
  induction keep generalizing st with
  | nil => rfl
  | cons x keep ih => exact (ih (keepOne st x)).trans (keepOne_len st x)
theorem keepAll_take (st : List Cl) (keep : List Int) (k : Nat) (hk : k < keep.length) : keepAll st (keep.take (k + 1)) = keepOne (keepAll st (keep.take k)) (keep.getD k 0) := by
  rw [List.take_succ_eq_append_getElem hk, keepAll, List.foldl_append]
  simp [keepAll, List.getD, List.getElem?_eq_getElem hk]
theorem keepOne_out (st : List Cl) (x : Int) (h : x < 0 ∨ (st.length : Int) ≤ x) : keepOne st x = st := by
  unfold keepOne
  split
  · rfl
  · rw [List.getElem?_eq_none (by omega)]
theorem keepOne_in (st : List Cl) (i : Nat) {c : Cl} (hc : st[i]? = some c) : keepOne st (i : Int) = st.set i { c with p := c.v } := by
  unfold keepOne
  rw [if_neg (by omega), Int.toNat_natCast, hc]

/-- What Cut leaves. -/
def Cutted (w : World) (p q : Nat) (st : List Cl) (cs : List Int) (keep : List Int) (e : Ending) (w' : World) : Prop :=
  ∃ v, e = .returned (.tuple #[v, .int .i64 0]) ∧ w'.ownsRow w.heap.size 3 1 v (looseL (keepAll st keep)).length (encI (looseL (keepAll st keep))) ∧ DvP w' p q ((keepAll st keep).map Cl.cut) (bump cs 4) ∧ Turns p q w w'
theorem Cutted.mk' {w : World} {p q : Nat} {st : List Cl} {cs keep : List Int} {v : Value} {w' : World} (h1 : w'.ownsRow w.heap.size 3 1 v (looseL (keepAll st keep)).length (encI (looseL (keepAll st keep)))) (h2 : DvP w' p q ((keepAll st keep).map Cl.cut) (bump cs 4)) (h3 : Turns p q w w') :
    Cutted w p q st cs keep (.returned (.tuple #[v, .int .i64 0])) w' := ⟨v, rfl, h1, h2, h3⟩
theorem own_turns {w w' : World} {base n : Nat} {v : Value} {xs : List Value} {e : TypeId} {p q : Nat} (h : w.ownsRow base e 1 v n xs) (ht : Turns p q w w') (hp : p < base) (hq : q < base) : w'.ownsRow base e 1 v n xs := by
  refine ⟨h.1, h.2.imp id fun ⟨g, cap, cur, h1, h2, h3, h4⟩ => ⟨g, cap, cur, h1, h2, (ht.block g (by omega) (by omega) (lt_of_heap h3)).trans h3, h4⟩⟩

end Go.Proofs.Ytkcjamjjaallhaa
