/-
  Proved here: a clock and a device beside forty marks, as the law DurableCloses has them.
  Conditions: none.
-/
import Derived.Test.YtkcjamjjaallhaaDurI
import Derived.Test.YtkcjamjjaallhaaDurK
namespace Go.Proofs.Ytkcjamjjaallhaa
open Go Go.RowKit

/-- A clock and a device beside forty marks. -/
structure Lb (S : List Nat) (g : Nat) (w0 w : World) (p o dp dq x : Nat) (B : List Bool) (c : Ck) (s : St) : Prop where
  lw : Lw S g w0 w p o dp dq c s
  nb : w.heap[x]? = some (.cells (encB B).toArray 57 (0, 0))
  n40 : B.length = 40
  inx : x ∈ S
  xp : x ≠ p
  xo : x ≠ o
  xd : x ≠ dp
  xq : x ≠ dq
section
variable {S : List Nat} {g : Nat} {w0 w w' : World} {p o dp dq x : Nat} {B : List Bool} {c c' : Ck} {s s' : St}
theorem Lb.lt_x (h : Lb S g w0 w p o dp dq x B c s) : x < w.heap.size := lt_of_heap h.nb
theorem Lb.move (h : Lb S g w0 w p o dp dq x B c s) (hl : Lw S g w0 w' p o dp dq c' s') (hk : Keeps [p, o, dp, dq] w w') : Lb S g w0 w' p o dp dq x B c' s' :=
  ⟨hl, (hk.block x (by simp [h.xp, h.xo, h.xd, h.xq]) h.lt_x).trans h.nb, h.n40, h.inx, h.xp, h.xo, h.xd, h.xq⟩
theorem Lb.below (h : Lb S g w0 w p o dp dq x B c s) (hb : Below w.heap.size w w') : Lb S g w0 w' p o dp dq x B c s := h.move (h.lw.below hb) (Keeps.of_below hb _)
theorem Lb.at_ (h : Lb S g w0 w p o dp dq x B c s) (i : Nat) (hi : i < 40) : w.cell? ⟨x, i, none⟩ = some (.bool (B.getD i false)) := by
  rw [cell_in h.nb]
  simp [encB, List.getD, List.getElem?_eq_getElem (show i < B.length by rw [h.n40]; exact hi)]
theorem Lb.frozen (h : Lb S g w0 w p o dp dq x B c s) (i : Nat) : w.frozen? ⟨x, i, none⟩ = false := frozen_in h.nb i
theorem Lb.set (h : Lb S g w0 w p o dp dq x B c s) (i : Nat) (b : Bool) : Lb S g w0 (w.setCell ⟨x, i, none⟩ (.bool b)) p o dp dq x (B.set i b) c s := by
  refine ⟨h.lw.other h.inx h.xp h.xo h.xd h.xq ((turns_p x x w i (.bool b)).keeps (by simp) (by simp)), ?_, by rw [List.length_set]; exact h.n40, h.inx, h.xp, h.xo, h.xd, h.xq⟩
  rw [heap_setCell_same w x i _ _ _ h.nb]
  simp [encB, List.map_set]
theorem Lb.note (h : Lb S g w0 w p o dp dq x B c s) (t y : Int) : Calls Try.prog 15 #[.pointer (some ⟨p, 0, none⟩), .int .i64 t, .int .i64 y] w fun e w' => e = .returned (.int .i64 (c.noteE t y)) ∧ Lb S g w0 w' p o dp dq x B (c.note t y) s :=
  (h.lw.note_k t y).mono fun _ _ ⟨he, hl, hk⟩ => ⟨he, h.move hl hk⟩
theorem Lb.begin_ (h : Lb S g w0 w p o dp dq x B c s) : Calls Try.prog 17 #[.pointer (some ⟨p, 0, none⟩)] w fun e w' => e = .returned (.int .i64 c.beginE) ∧ Lb S g w0 w' p o dp dq x B c.begin_ s :=
  h.lw.begin_k.mono fun _ _ ⟨he, hl, hk⟩ => ⟨he, h.move hl hk⟩
theorem Lb.step (h : Lb S g w0 w p o dp dq x B c s) (hlt : c.dur + 3 < 18446744073709551616) : Calls Try.prog 19 #[.pointer (some ⟨p, 0, none⟩), .pointer (some ⟨dp, 0, none⟩)] w fun e w' => e = .returned (.tuple #[.int .i64 c.act, .int .i64 c.stepE]) ∧ Lb S g w0 w' p o dp dq x B c.step (c.dev s) :=
  (h.lw.step_k hlt).mono fun _ _ ⟨he, hl, hk⟩ => ⟨he, h.move hl hk⟩
theorem Lb.store (h : Lb S g w0 w p o dp dq x B c s) (a y : Int) (A : Option Addr) (m k : Nat) (l : List UInt8) (hl : l.length = m) (hB : Row w A l) (hB0 : A = none → k = 0) :
    Calls Try.prog 21 #[.pointer (some ⟨dp, 0, none⟩), .int .i64 a, .int .i64 y, .slice A m k] w fun e w' => e = .returned (.int .i64 (err (has s.1 a && fitsAt y m))) ∧ Lb S g w0 w' p o dp dq x B c (s.store a y l) :=
  (h.lw.store_k a y A m k l hl hB hB0).mono fun _ _ ⟨he, hl, hk⟩ => ⟨he, h.move hl hk⟩
end
theorem zero_forty : (Try.prog.info? 57).bind (·.zero) = some (.agg (encB (List.replicate 40 false)).toArray) := by kernel_rfl
theorem lb_new {g p o dp dq n d m x : Nat} {w0 w1 w2 w3 : World} (hz : w0.heap.size = g) (hp : g ≤ p) (ho : g ≤ o) (hc : ∀ S : List Nat, p ∈ S → o ∈ S → Cm S w1 p o (ck0 n d)) (hb1 : Below g w0 w1) (hdp : w1.heap.size ≤ dp) (hdq : w1.heap.size ≤ dq) (hd : DvP w2 dp dq (fresh m) five0) (hb2 : Below w1.heap.size w1 w2)
    (hx : w2.heap.size = x) (hn : w3.heap[x]? = some (.cells (encB (List.replicate 40 false)).toArray 57 (0, 0))) (hb3 : Below x w2 w3) : Lb [p, o, dp, dq, x] g w0 w3 p o dp dq x (List.replicate 40 false) (ck0 n d) (fresh m, five0) := by
  subst hx
  have h1 := hc [p, o] (by simp) (by simp)
  have lp := h1.lt_p
  have lo := h1.lt_o
  have ldp := hd.lt_p
  have ldq := hd.lt_q
  have hs1 := hb1.size
  have hs2 := hb2.size
  have hs3 := hb3.size
  have lx := lt_of_heap hn
  refine ⟨lw_newS hz hc hb1 hdp hdq (hd.below hb3) (hb2.trans (hb3.mono hs2)) (by simp) (by simp) (by simp) (by simp) ?_, hn, by simp, by simp, by omega, by omega, by omega, by omega⟩
  intro y hy
  simp only [List.mem_cons, List.not_mem_nil, or_false] at hy
  rcases hy with rfl | rfl | rfl | rfl | rfl <;> omega
theorem take_get (l : List Bool) (i : Nat) (h : i < 40) : (l.take 40).getD i false = l.getD i false := by simp [List.getD, h]
theorem noLines_take : noLines.take 40 = List.replicate 40 false := by unfold noLines; rw [List.take_replicate]; rfl
theorem Ck.step_owed (c : Ck) : c.begin_.owed.length = c.owed.length ∧ c.step.owed.length = c.owed.length := by
  constructor
  · unfold Ck.begin_
    split
    · simp [Ck.begun]
    · rfl
  · unfold Ck.step
    repeat' split
    all_goals rfl

end Go.Proofs.Ytkcjamjjaallhaa
