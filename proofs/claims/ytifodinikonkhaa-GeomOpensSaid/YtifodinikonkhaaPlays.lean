/-
  Proved here: what the statements' own large, play and some answer and leave, of acts that came in.
  Conditions: lists of at most 100 bytes and numbers each, where they are played.
-/
import Derived.Test.YtifodinikonkhaaActs
import Derived.Deep.QuietTactic
import Derived.BigQuiet
import Derived.IntWalk
import Derived.WalkSmall
namespace Go.Proofs.Ytifodinikonkhaa
open Go Go.RowKit

def ActV.big (x : ActV) : Bool := decide (100 < x.n) || decide (100 < x.m)
def largeB (len : Nat) (xs : List ActV) : Bool := decide (80 < len) || xs.any ActV.big
theorem IsActs.at_ {w : World} {a : Option Addr} {len : Nat} {xs : List ActV} (h : IsActs w a len xs) {i : Nat} (hi : i < len) : ∃ x b off, xs[i]? = some x ∧ a = some ⟨b, off, none⟩ ∧ b < w.heap.size ∧ x.ok w ∧ ∀ j v, x.cells[j]? = some v → w.cell? ⟨b, off + i * 5 + j, none⟩ = some v := by
  obtain ⟨b, off, e, hb, hc⟩ := h.2.2.1 (by omega)
  have hi' : i < xs.length := by rw [h.1]; exact hi
  exact ⟨xs[i], b, off, List.getElem?_eq_getElem hi', e, hb, h.2.2.2 _ (List.getElem_mem _), fun j v hv => by rw [Nat.add_assoc]; exact hc i _ (List.getElem?_eq_getElem hi') j v hv⟩
theorem cut_any {w : World} {p q : Nat} {s : St} (h : DvS w p q s) (A : Option Addr) (m k : Nat) (keep : List Int) (hk : keep.length = m) (hA : RowI w A keep) (hne : 0 < keep.length → ∀ x, A = some x → x.block ≠ p ∧ x.block ≠ q) :
    Calls Try.prog 35 #[.pointer (some ⟨p, 0, none⟩), .slice A m k] w fun e w' => ∃ v, e = .returned (.tuple #[v, .int .i64 0]) ∧ w'.ownsRow w.heap.size 3 1 v (looseL (keepAll s.1 keep)).length (encI (looseL (keepAll s.1 keep))) ∧ DvS w' p q (s.cut keep) ∧ Turns p q w w' :=
  (cut_ok h A m k keep hk hA hne)
def St.play (s : St) (x : ActV) : St :=
  if x.kd = 0 then s.store x.line x.off x.b else if x.kd = 1 then s.flush x.line else if x.kd = 2 then s.fence else if x.kd = 3 then s.back x.line else if x.kd = 4 then s.cut x.keep else s
def St.playAll (s : St) (xs : List ActV) : St := xs.foldl St.play s
/-- What an act played leaves. -/
def Played (p q : Nat) (s : St) (w : World) (e : Ending) (w' : World) : Prop := e = .returned (.tuple #[]) ∧ DvS w' p q s ∧ Turns p q w w'
/-- What some leaves. -/
def Somed (w : World) (s : St) (e : Ending) (w' : World) : Prop := ∃ p q, e = .returned (.pointer (some ⟨p, 0, none⟩)) ∧ w.heap.size ≤ p ∧ w.heap.size ≤ q ∧ DvS w' p q s ∧ Below w.heap.size w w'
def s8 : St := (fresh 8, five0)
theorem largeB_false {len : Nat} {xs : List ActV} (h : largeB len xs = false) : len ≤ 80 ∧ ∀ x ∈ xs, x.n ≤ 100 ∧ x.m ≤ 100 := by
  simp only [largeB, Bool.or_eq_false_iff, decide_eq_false_iff_not, List.any_eq_false, ActV.big, Bool.or_eq_true, decide_eq_true_eq, not_or] at h
  exact ⟨by omega, fun x hx => by have := h.2 x hx; omega⟩
end Go.Proofs.Ytifodinikonkhaa
