/-
  Proved here: a clock and a device behind a world; that the chapter's example, as the statements of chapter 9 ask it, is answered so.
  Conditions: none.
-/
import Derived.Test.YtkcjamjjaallhaaDurF
namespace Go.Proofs.Ytkcjamjjaallhaa
open Go Go.RowKit

/-- A clock and a device behind a world w0 of g blocks; S: blocks behind it, where nothing is left to. -/
structure Lw (S : List Nat) (g : Nat) (w0 w : World) (p o dp dq : Nat) (c : Ck) (s : St) : Prop where
  cd : Cd S w p o dp dq c s
  bel : Below g w0 w
  sz : w0.heap.size = g
  all : ∀ x ∈ S, g ≤ x ∧ x < w.heap.size
section
variable {S : List Nat} {g : Nat} {w0 w w' : World} {p o dp dq : Nat} {c c' : Ck} {s s' : St}
theorem Lw.gw (h : Lw S g w0 w p o dp dq c s) : g ≤ w.heap.size := by have := h.bel.size; have := h.sz; omega
theorem Lw.inp (h : Lw S g w0 w p o dp dq c s) : p ∈ S := h.cd.ck.raw.inp
theorem Lw.ino (h : Lw S g w0 w p o dp dq c s) : o ∈ S := h.cd.ck.raw.ino
theorem Lw.sub (h : Lw S g w0 w p o dp dq c s) : ∀ x ∈ [p, o, dp, dq], x ∈ S := sub4 h.inp h.ino h.cd.inp h.cd.inq
/-- Both turned by a call that keeps all other blocks. -/
theorem Lw.move (h : Lw S g w0 w p o dp dq c s) (hc : Cm S w' p o c') (hd : DvS w' dp dq s') (hk : Keeps [p, o, dp, dq] w w') : Lw S g w0 w' p o dp dq c' s' :=
  ⟨⟨hc, hd, h.cd.inp, h.cd.inq, h.cd.pp, h.cd.pq, h.cd.op, h.cd.oq⟩, h.bel.trans (hk.below (fun x hx => (h.all x (h.sub x hx)).1) h.gw), h.sz, fun x hx => ⟨(h.all x hx).1, Nat.lt_of_lt_of_le (h.all x hx).2 hk.size⟩⟩
theorem Lw.ck_turned (h : Lw S g w0 w p o dp dq c s) (hc : Cm S w' p o c') (ht : Turns p o w w') : Lw S g w0 w' p o dp dq c' s :=
  h.move hc (h.cd.dv.ck ht h.cd.pp h.cd.pq h.cd.op h.cd.oq) (ht.keeps (by simp) (by simp))
theorem Lw.dv_turned (h : Lw S g w0 w p o dp dq c s) (hd : DvS w' dp dq s') (ht : Turns dp dq w w') : Lw S g w0 w' p o dp dq c s' :=
  h.move ⟨h.cd.ck.ok, h.cd.ck.raw.dev ht h.cd.pp h.cd.pq h.cd.op h.cd.oq h.cd.inp h.cd.inq⟩ hd (ht.keeps (by simp) (by simp))
theorem Lw.below (h : Lw S g w0 w p o dp dq c s) (hb : Below w.heap.size w w') : Lw S g w0 w' p o dp dq c s := h.move (h.cd.ck.below hb) (h.cd.dv.below hb) (Keeps.of_below hb _)
theorem Lw.drewN (h : Lw S g w0 w p o dp dq c s) (k : Nat) : Lw S g w0 (w.drewN k) p o dp dq c s := h.below (below_drewN (Below.refl _ _) k)
theorem Lw.drew (h : Lw S g w0 w p o dp dq c s) : Lw S g w0 w.drew p o dp dq c s := h.drewN 1
theorem Lw.note (h : Lw S g w0 w p o dp dq c s) (t x : Int) : Calls Try.prog 15 #[.pointer (some ⟨p, 0, none⟩), .int .i64 t, .int .i64 x] w fun e w' => e = .returned (.int .i64 (c.noteE t x)) ∧ Lw S g w0 w' p o dp dq (c.note t x) s :=
  (cknote_any h.cd.ck t x).mono fun _ _ ⟨he, hc, ht⟩ => ⟨he, h.ck_turned hc ht⟩
theorem Lw.begin_ (h : Lw S g w0 w p o dp dq c s) : Calls Try.prog 17 #[.pointer (some ⟨p, 0, none⟩)] w fun e w' => e = .returned (.int .i64 c.beginE) ∧ Lw S g w0 w' p o dp dq c.begin_ s :=
  (ckbegin_any h.cd.ck (fun x hx => (h.all x hx).2)).mono fun _ _ ⟨he, hc, ht⟩ => ⟨he, h.ck_turned hc ht⟩
theorem Lw.step (h : Lw S g w0 w p o dp dq c s) (hlt : c.dur + 3 < 18446744073709551616) : Calls Try.prog 19 #[.pointer (some ⟨p, 0, none⟩), .pointer (some ⟨dp, 0, none⟩)] w fun e w' => e = .returned (.tuple #[.int .i64 c.act, .int .i64 c.stepE]) ∧ Lw S g w0 w' p o dp dq c.step (c.dev s) :=
  (ckstep_any h.cd hlt).mono fun _ _ ⟨he, hc, hd, hk⟩ => ⟨he, h.move hc hd hk⟩
theorem Lw.store (h : Lw S g w0 w p o dp dq c s) (x y : Int) (B : Option Addr) (m k : Nat) (l : List UInt8) (hl : l.length = m) (hB : Row w B l) (hB0 : B = none → k = 0) :
    Calls Try.prog 21 #[.pointer (some ⟨dp, 0, none⟩), .int .i64 x, .int .i64 y, .slice B m k] w fun e w' => e = .returned (.int .i64 (err (has s.1 x && fitsAt y m))) ∧ Lw S g w0 w' p o dp dq c (s.store x y l) :=
  (store_any h.cd.dv x y B m k l hl hB hB0).mono fun _ _ ⟨he, hd, ht⟩ => ⟨he, h.dv_turned hd ht⟩
end
theorem begin_yes {c : Ck} (h : c.ph = 0) : c.beginE = 0 ∧ c.begin_.dur = c.dur ∧ c.begin_.ph ≠ 0 ∧ c.begin_.now = c.dur + 2 := by
  have e : c.begin_ = c.begun := by unfold Ck.begin_; rw [if_pos h]
  have hn := nx_le (lin 0 c.noted)
  have hp : c.begun.ph ≠ 0 := by show nx (lin 0 c.noted) ≠ 0; omega
  refine ⟨by unfold Ck.beginE; rw [if_pos h], by rw [e]; rfl, by rw [e]; exact hp, ?_⟩
  rw [e]
  unfold Ck.now
  rw [if_neg hp]
  rfl
theorem begin_no {c : Ck} (h : c.ph ≠ 0) : c.beginE = 7 ∧ c.begin_ = c := ⟨by unfold Ck.beginE; rw [if_neg h], by unfold Ck.begin_; rw [if_neg h]⟩
set_option maxHeartbeats 1600000 in
set_option maxRecDepth 100000 in
theorem awake_any (w : World) : Calls Try.prog 8 #[] w fun e w' => e = .returned (.bool true) ∧ Below w.heap.size w w' := by
  have HN : Hid (Calls Try.prog 9 #[.int .i64 1, .int .u64 0] w (MadeC w 1 0)) := cknew_ok 1 0 (by omega) (by omega) (by omega) w
  have e1 : (ck0 1 0).noteE 0 5 = 0 := by decide
  have hp0 : ((ck0 1 0).note 0 5).ph = 0 := by rw [Ck.note_ph]; rfl
  have hd0 : ((ck0 1 0).note 0 5).dur = 0 := by rw [Ck.note_dur]; rfl
  obtain ⟨b1, _, b3, b4⟩ := begin_yes hp0
  rw [hd0] at b4
  obtain ⟨b5, b6⟩ := begin_no b3
  have HE1 := Lib.hid e1
  have HB1 := Lib.hid b1
  have HB4 := Lib.hid b4
  have HB5 := Lib.hid b5
  have HB6 := Lib.hid b6
  have HW0 : Hid ((ck0 1 0).now = 1 ∧ (ck0 1 0).dur = 0) := ⟨rfl, rfl⟩
  clear e1 hp0 hd0 b1 b3 b4 b5 b6
  generalize hc1 : (ck0 1 0).note 0 5 = c1 at *
  have HC1 := Lib.hid hc1
  clear hc1
  go_enter Try.func8, Try.ntmps8
  go_wp2_with fail
  refine HN.out.mono ?_
  rintro e v1 ⟨p, o, rfl, hp, ho, hcm, hb⟩
  have hcm := hcm [p, o] (by simp) (by simp)
  have HG : Hid (∀ x ∈ [p, o], w.heap.size ≤ x) := by intro x hx; simp at hx; rcases hx with rfl | rfl <;> assumption
  have HB := Lib.hid hb
  have HLT : Hid (∀ x ∈ [p, o], x < v1.heap.size) := by intro x hx; simp at hx; rcases hx with rfl | rfl; exact hcm.lt_p; exact hcm.lt_o
  have HCM := Lib.hid hcm
  clear hcm hb hp ho
  go_wp2_with fail
  refine (cknow_any HCM.out).mono ?_
  rw [HW0.out.1]
  rintro e w' ⟨rfl, rfl⟩
  go_wp2_with fail
  refine (ckdur_any HCM.out).mono ?_
  rw [HW0.out.2]
  rintro e w' ⟨rfl, rfl⟩
  go_wp2_with fail
  refine (cknote_any HCM.out 0 5).mono ?_
  rw [HE1.out, HC1.out]
  rintro e v2 ⟨rfl, hc2, ht2⟩
  have HC2 := Lib.hid hc2
  have HT2 := Lib.hid ht2
  clear hc2 ht2
  go_wp2_with fail
  refine (ckbegin_any HC2.out (fun x hx => Nat.lt_of_lt_of_le (HLT.out x hx) HT2.out.size)).mono ?_
  rw [HB1.out]
  rintro e v3 ⟨rfl, hc3, ht3⟩
  have HC3 := Lib.hid hc3
  have HT3 := Lib.hid (HT2.out.trans ht3)
  clear hc3 ht3
  go_wp2_with fail
  refine (cknow_any HC3.out).mono ?_
  rw [HB4.out]
  rintro e w' ⟨rfl, rfl⟩
  go_wp2_with fail
  refine (ckbegin_any HC3.out (fun x hx => Nat.lt_of_lt_of_le (HLT.out x hx) HT3.out.size)).mono ?_
  rw [HB5.out]
  rintro e v4 ⟨rfl, hc4, ht4⟩
  have HT4 := Lib.hid (HT3.out.trans ht4)
  clear hc4 ht4
  go_wp2
  go_ret
  exact ⟨rfl, HB.out.trans (HT4.out.below (HG.out p (by simp)) (HG.out o (by simp)) HB.out.size)⟩

end Go.Proofs.Ytkcjamjjaallhaa
