/-
  Proved here: what chapter 4's own Format leaves of a device; that both tell the same of any bytes; a device and the chapter's own beside one another.
  Conditions: a device of at most 258 lines.
-/
import Derived.Test.YtifodinikonkhaaGeomE
namespace Go.Proofs.Ytifodinikonkhaa
open Go Go.RowKit

set_option maxHeartbeats 800000 in
theorem rformat_few {w : World} {p q : Nat} {s : St} (h : DvT w p q s) (hn : s.1.length < 10) :
    Calls Try.prog 32 #[.pointer (some ⟨p, 0, none⟩)] w fun e w' => e = .returned (.int .i64 2) ∧ w = w' := by
  obtain ⟨cap, hsl, _⟩ := h.slice
  generalize s.1.length = n at *
  have hn' : (n : Int) < 10 := by omega
  clear h
  go_enter Try.func32, Try.ntmps32
  go_wp2
  go_ret
  exact ⟨rfl, rfl⟩
theorem own_row64 {w : World} {B g cap : Nat} {x : List UInt8} (h : w.ownsRow B 5 1 (.slice (some ⟨g, 0, none⟩) x.length cap) x.length (enc x)) (hl : x.length = 64) : Row w (some ⟨g, 0, none⟩) x ∧ B ≤ g := by
  obtain ⟨C, cp, he, hrow⟩ := row_of_own h (by omega)
  injection he with he1 he2 he3
  subst he1
  exact ⟨hrow, own_ge h g rfl⟩
set_option maxHeartbeats 1600000 in
theorem rformat_ok {w : World} {p q : Nat} {s : St} (h : DvT w p q s) (hn : 10 ≤ s.1.length) :
    Calls Try.prog 32 #[.pointer (some ⟨p, 0, none⟩)] w fun e w' => e = .returned (.int .i64 0) ∧ DvT w' p q s.rformat ∧ Turns p q w w' := by
  obtain ⟨cap, hsl, _⟩ := h.slice
  have HS := Lib.hid (rsuper_ok s.1.length hn h.len w)
  have HC := Lib.hid (fun W => rclock_ok 0 (by omega) W)
  have HLs := Lib.hid (superL_len s.1.length)
  have HLc := Lib.hid (clockL_len 0)
  have HF : Hid (s.rformat = ((((s.store 0 0 (superL s.1.length)).store 1 0 (clockL 0)).flush 0).flush 1).rfence) := rfl
  have HD := Lib.hid h
  have HP := Lib.hid h.lt_p
  have HQ := Lib.hid h.lt_q
  generalize s.rformat = t at *
  generalize superL s.1.length = xs at *
  generalize clockL 0 = xc at *
  obtain ⟨n, hn'⟩ : ∃ n, s.1.length = n := ⟨_, rfl⟩
  rw [hn'] at HS hsl
  have hn10 : ¬ (n : Int) < 10 := by omega
  clear h hn hn'
  go_enter Try.func32, Try.ntmps32
  go_wp2_with fail
  refine HS.out.mono ?_
  rintro e w1 ⟨g1, c1, rfl, ho, hb⟩
  obtain ⟨hr1, hg1⟩ := own_row64 ho HLs.out
  have D1 := Lib.hid (HD.out.below hb)
  have T1 := Lib.hid (Turns.of_below hb p q)
  have R1 := Lib.hid hr1
  rw [HLs.out]
  clear ho hb hr1 hsl
  go_wp2_with fail
  refine (rstore_any D1.out 0 0 (some ⟨g1, 0, none⟩) 64 c1 xs HLs.out R1.out (fun _ x h => by cases h; have := HP.out; have := HQ.out; exact ⟨by show g1 ≠ p; omega, by show g1 ≠ q; omega⟩)).mono ?_
  rintro e w2 ⟨rfl, hd, ht⟩
  have D2 := Lib.hid hd
  have T2 := Lib.hid (T1.out.trans ht)
  clear hd ht
  go_wp2_with fail
  refine (HC.out w2).mono ?_
  rintro e w3 ⟨g3, c3, rfl, ho, hb⟩
  obtain ⟨hr3, hg3⟩ := own_row64 ho HLc.out
  have D3 := Lib.hid (D2.out.below hb)
  have T3 := Lib.hid (T2.out.trans (Turns.of_below hb p q))
  have R3 := Lib.hid hr3
  rw [HLc.out]
  clear ho hb hr3
  go_wp2_with fail
  refine (rstore_any D3.out 1 0 (some ⟨g3, 0, none⟩) 64 c3 xc HLc.out R3.out (fun _ x h => by cases h; have := D2.out.lt_p; have := D2.out.lt_q; exact ⟨by show g3 ≠ p; omega, by show g3 ≠ q; omega⟩)).mono ?_
  rintro e w4 ⟨rfl, hd, ht⟩
  have D4 := Lib.hid hd
  have T4 := Lib.hid (T3.out.trans ht)
  clear hd ht
  go_wp2_with fail
  refine (rflush_any D4.out 0).mono ?_
  rintro e w5 ⟨rfl, hd, ht⟩
  have D5 := Lib.hid hd
  have T5 := Lib.hid (T4.out.trans ht)
  clear hd ht
  go_wp2_with fail
  refine (rflush_any D5.out 1).mono ?_
  rintro e w6 ⟨rfl, hd, ht⟩
  have D6 := Lib.hid hd
  have T6 := Lib.hid (T5.out.trans ht)
  clear hd ht
  go_wp2_with fail
  refine (rfence_ok D6.out).mono ?_
  rintro e w7 ⟨rfl, hd, ht⟩
  have D7 := Lib.hid hd
  have T7 := Lib.hid (T6.out.trans ht)
  clear hd ht
  go_wp2
  go_ret
  exact ⟨rfl, by rw [HF.out]; exact D7.out, T7.out⟩

/-- Of any bytes both tell the same: a superblock or not, a clock line or not. -/
theorem both_super (x : List UInt8) : ∃ (N : Nat) (ok : Bool), IsS 15 x N ok ∧ IsS 19 x N ok := by
  rcases Classical.em (∃ k, 10 ≤ k ∧ k ≤ 258 ∧ x = superL k) with ⟨k, h1, h2, rfl⟩ | h
  · refine ⟨k, true, fun W A c _ hw => ?_, fun W A c _ hw => ?_⟩
    · rw [superL_len]; exact issuper_yes A c k h1 h2 W hw
    · rw [superL_len]; exact rissuper_yes A c k h1 h2 W hw
  · have hno : ∀ k, 10 ≤ k → k ≤ 258 → x ≠ superL k := fun k h1 h2 e => h ⟨k, h1, h2, e⟩
    exact ⟨0, false, fun W A c _ hw => issuper_no A _ c x rfl W hw hno, fun W A c _ hw => rissuper_no A _ c x rfl W hw hno⟩
theorem both_clock (x : List UInt8) : ∃ (v : Nat) (fine : Bool), v < 18446744073709551616 ∧ IsC 16 x v fine ∧ IsC 20 x v fine := by
  rcases Classical.em (∃ k, k < 18446744073709551616 ∧ x = clockL k) with ⟨k, h1, rfl⟩ | h
  · refine ⟨k, true, h1, fun W A c _ hw => ?_, fun W A c hc hw => ?_⟩
    · rw [clockL_len]; exact isclock_yes A c k h1 W hw
    · rw [clockL_len] at hc ⊢; exact risclock_yes A c hc k h1 W hw
  · have hno : ∀ k, k < 18446744073709551616 → x ≠ clockL k := fun k h1 e => h ⟨k, h1, e⟩
    exact ⟨0, false, by omega, fun W A c _ hw => isclock_no A _ c x rfl W hw hno, fun W A c hc hw => risclock_no A _ c hc x rfl W hw hno⟩
theorem Sim.lineV {s r : St} (h : Sim s r) (i : Nat) : Go.Proofs.Ytifodinikonkhaa.lineV s i = Go.Proofs.Ytifodinikonkhaa.lineV r i := by
  unfold Go.Proofs.Ytifodinikonkhaa.lineV
  rw [← h.len]
  split
  · exact (h.at_ i ‹_›).1
  · rfl
/-- A device and the chapter's own, both made by the call, apart from one another. -/
structure Both (w0 w : World) (p q p' q' : Nat) (s r : St) : Prop where
  d : DvS w p q s
  e : DvT w p' q' r
  b : Below w0.heap.size w0 w
  hp : w0.heap.size ≤ p
  hq : w0.heap.size ≤ q
  hp' : w0.heap.size ≤ p'
  hq' : w0.heap.size ≤ q'
  n1 : p ≠ p'
  n2 : p ≠ q'
  n3 : q ≠ p'
  n4 : q ≠ q'
theorem Both.below {w0 w w' : World} {p q p' q' : Nat} {s r : St} (h : Both w0 w p q p' q' s r) (hb : Below w.heap.size w w') : Both w0 w' p q p' q' s r :=
  ⟨h.d.below hb, h.e.below hb, h.b.trans (hb.mono h.b.size), h.hp, h.hq, h.hp', h.hq', h.n1, h.n2, h.n3, h.n4⟩
theorem Both.turnD {w0 w w' : World} {p q p' q' : Nat} {s r s' : St} (h : Both w0 w p q p' q' s r) (hd : DvS w' p q s') (ht : Turns p q w w') : Both w0 w' p q p' q' s' r :=
  ⟨hd, h.e.turns ht (Ne.symm h.n1) (Ne.symm h.n3) (Ne.symm h.n2) (Ne.symm h.n4), h.b.trans (ht.below h.hp h.hq h.b.size), h.hp, h.hq, h.hp', h.hq', h.n1, h.n2, h.n3, h.n4⟩
theorem Both.turnE {w0 w w' : World} {p q p' q' : Nat} {s r r' : St} (h : Both w0 w p q p' q' s r) (he : DvT w' p' q' r') (ht : Turns p' q' w w') : Both w0 w' p q p' q' s r' :=
  ⟨h.d.turns ht h.n1 h.n2 h.n3 h.n4, he, h.b.trans (ht.below h.hp' h.hq' h.b.size), h.hp, h.hq, h.hp', h.hq', h.n1, h.n2, h.n3, h.n4⟩
theorem Both.mk' {w0 w1 w2 : World} {n p q p' q' : Nat} (hp : w0.heap.size ≤ p) (hq : w0.heap.size ≤ q) (hd : DvP w1 p q (fresh n) five0) (hb : Below w0.heap.size w0 w1) (hp' : w1.heap.size ≤ p') (hq' : w1.heap.size ≤ q') (he : DvR w2 p' q' (fresh n) five0) (hb2 : Below w1.heap.size w1 w2) :
    Both w0 w2 p q p' q' (fresh n, five0) (fresh n, five0) :=
  ⟨hd.below hb2, he, hb.trans (hb2.mono hb.size), hp, hq, Nat.le_trans hb.size hp', Nat.le_trans hb.size hq', by have := hd.lt_p; omega, by have := hd.lt_p; omega, by have := hd.lt_q; omega, by have := hd.lt_q; omega⟩

end Go.Proofs.Ytifodinikonkhaa
