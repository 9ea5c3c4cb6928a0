/-
  Proved here: a clock and a device behind a world: which blocks their calls leave as they were.
  Conditions: none.
-/
import Derived.Test.YtkcjamjjaallhaaDurG
import Derived.Test.YtkcjamjjaallhaaLent
namespace Go.Proofs.Ytkcjamjjaallhaa
open Go Go.RowKit

section
variable {S : List Nat} {g : Nat} {w0 w w' : World} {p o dp dq : Nat} {c c' : Ck} {s s' : St}
theorem Lw.note_k (h : Lw S g w0 w p o dp dq c s) (t x : Int) : Calls Try.prog 15 #[.pointer (some ⟨p, 0, none⟩), .int .i64 t, .int .i64 x] w fun e w' => e = .returned (.int .i64 (c.noteE t x)) ∧ Lw S g w0 w' p o dp dq (c.note t x) s ∧ Keeps [p, o, dp, dq] w w' :=
  (cknote_any h.cd.ck t x).mono fun _ _ ⟨he, hc, ht⟩ => ⟨he, h.ck_turned hc ht, ht.keeps (by simp) (by simp)⟩
theorem Lw.begin_k (h : Lw S g w0 w p o dp dq c s) : Calls Try.prog 17 #[.pointer (some ⟨p, 0, none⟩)] w fun e w' => e = .returned (.int .i64 c.beginE) ∧ Lw S g w0 w' p o dp dq c.begin_ s ∧ Keeps [p, o, dp, dq] w w' :=
  (ckbegin_any h.cd.ck (fun x hx => (h.all x hx).2)).mono fun _ _ ⟨he, hc, ht⟩ => ⟨he, h.ck_turned hc ht, ht.keeps (by simp) (by simp)⟩
theorem Lw.step_k (h : Lw S g w0 w p o dp dq c s) (hlt : c.dur + 3 < 18446744073709551616) : Calls Try.prog 19 #[.pointer (some ⟨p, 0, none⟩), .pointer (some ⟨dp, 0, none⟩)] w fun e w' => e = .returned (.tuple #[.int .i64 c.act, .int .i64 c.stepE]) ∧ Lw S g w0 w' p o dp dq c.step (c.dev s) ∧ Keeps [p, o, dp, dq] w w' :=
  (ckstep_any h.cd hlt).mono fun _ _ ⟨he, hc, hd, hk⟩ => ⟨he, h.move hc hd hk, hk⟩
theorem Lw.store_k (h : Lw S g w0 w p o dp dq c s) (x y : Int) (B : Option Addr) (m k : Nat) (l : List UInt8) (hl : l.length = m) (hB : Row w B l) (hB0 : B = none → k = 0) :
    Calls Try.prog 21 #[.pointer (some ⟨dp, 0, none⟩), .int .i64 x, .int .i64 y, .slice B m k] w fun e w' => e = .returned (.int .i64 (err (has s.1 x && fitsAt y m))) ∧ Lw S g w0 w' p o dp dq c (s.store x y l) ∧ Keeps [p, o, dp, dq] w w' :=
  (store_any h.cd.dv x y B m k l hl hB hB0).mono fun _ _ ⟨he, hd, ht⟩ => ⟨he, h.dv_turned hd ht, ht.keeps (by simp) (by simp)⟩
/-- Another block turned. -/
theorem Lw.other (h : Lw S g w0 w p o dp dq c s) {x : Nat} (hx : x ∈ S) (h1 : x ≠ p) (h2 : x ≠ o) (h3 : x ≠ dp) (h4 : x ≠ dq) (hk : Keeps [x] w w') : Lw S g w0 w' p o dp dq c s :=
  ⟨⟨h.cd.ck.keeps hk (by simpa using h1.symm) (by simpa using h2.symm) (by intro y hy; simp at hy; subst hy; exact hx), h.cd.dv.keeps hk (by simpa using h3.symm) (by simpa using h4.symm), h.cd.inp, h.cd.inq, h.cd.pp, h.cd.pq, h.cd.op, h.cd.oq⟩,
    h.bel.trans (hk.below (fun y hy => by simp at hy; subst hy; exact (h.all y hx).1) h.gw), h.sz, fun y hy => ⟨(h.all y hy).1, Nat.lt_of_lt_of_le (h.all y hy).2 hk.size⟩⟩
end
theorem lw_newS {S : List Nat} {g p o dp dq n d m : Nat} {w0 w1 w2 : World} (hz : w0.heap.size = g) (hc : ∀ S : List Nat, p ∈ S → o ∈ S → Cm S w1 p o (ck0 n d)) (hb1 : Below g w0 w1) (hdp : w1.heap.size ≤ dp) (hdq : w1.heap.size ≤ dq) (hd : DvP w2 dp dq (fresh m) five0) (hb2 : Below w1.heap.size w1 w2)
    (i1 : p ∈ S) (i2 : o ∈ S) (i3 : dp ∈ S) (i4 : dq ∈ S) (hS : ∀ x ∈ S, g ≤ x ∧ x < w2.heap.size) : Lw S g w0 w2 p o dp dq (ck0 n d) (fresh m, five0) := by
  have h1 := hc S i1 i2
  have lp := h1.lt_p
  have lo := h1.lt_o
  have hs1 := hb1.size
  exact ⟨⟨h1.below hb2, hd, i3, i4, by omega, by omega, by omega, by omega⟩, hb1.trans (hb2.mono (by omega)), hz, hS⟩
theorem same_arr9 {T U : TypeId} (w : World) (g h : Nat) (x : List UInt8) (hx : x.length = 64) (ha : Arr T w g x) (hb : Arr U w h x) : Calls Try.prog 30 #[.slice (some ⟨g, 0, none⟩) 64 64, .slice (some ⟨h, 0, none⟩) 64 64] w fun e w' => e = .returned (.bool true) ∧ w = w' := by
  have := same_any w (some ⟨g, 0, none⟩) (some ⟨h, 0, none⟩) 64 64 64 64 x x hx hx (ha.row (by omega)) (hb.row (by omega))
  rwa [show (x == x) = true by simp] at this

end Go.Proofs.Ytkcjamjjaallhaa
