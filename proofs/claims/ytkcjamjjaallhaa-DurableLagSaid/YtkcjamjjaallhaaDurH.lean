/-
  Proved here: how a clock's epochs rise; a new clock and a new device behind a world.
  Conditions: none.
-/
import Derived.Test.YtkcjamjjaallhaaDurG
import Derived.Test.YtkcjamjjaallhaaNum
namespace Go.Proofs.Ytkcjamjjaallhaa
open Go Go.RowKit

theorem Ck.lag_note (c : Ck) (t x : Int) : (c.note t x).dur = c.dur ∧ (c.note t x).now = c.now := ⟨c.note_dur t x, by unfold Ck.now; rw [c.note_ph, c.note_dur]⟩
theorem Ck.lag_begin (c : Ck) : c.begin_.dur = c.dur ∧ c.now ≤ c.begin_.now := by
  rcases Nat.eq_zero_or_pos c.ph with e | e
  · obtain ⟨_, h2, _, h4⟩ := begin_yes e
    refine ⟨h2, ?_⟩
    rw [h4]
    unfold Ck.now
    rw [if_pos e]
    omega
  · rw [(begin_no (by omega)).2]
    exact ⟨rfl, Nat.le_refl _⟩
theorem Ck.ok.lag_step {c : Ck} (h : c.ok) : c.dur ≤ c.step.dur ∧ c.step.dur ≤ c.dur + 1 ∧ c.now ≤ c.step.now := by
  have h5 := h.ph
  unfold Ck.step
  split
  · exact ⟨Nat.le_refl _, by omega, Nat.le_refl _⟩
  rename_i h0
  split
  · have := nx_le c.left.tail
    refine ⟨Nat.le_refl _, by simp, ?_⟩
    unfold Ck.now
    rw [if_neg h0, if_neg (by show nx c.left.tail ≠ 0; omega)]
    exact Nat.le_refl _
  split
  · exact ⟨Nat.le_refl _, by simp, by unfold Ck.now; simp [h0]⟩
  split
  · exact ⟨Nat.le_refl _, by simp, by unfold Ck.now; simp [h0]⟩
  split
  · exact ⟨Nat.le_refl _, by simp, by unfold Ck.now; simp [h0]⟩
  · exact ⟨by simp, Nat.le_refl _, by unfold Ck.now; simp [h0]⟩
theorem closing_idle {S : List Nat} {w : World} {p o : Nat} {c : Ck} (h : Cm S w p o c) (e : c.ph = 0) : Calls Try.prog 33 #[.pointer (some ⟨p, 0, none⟩)] w fun e w' => e = .returned (.tuple #[.int .u64 0, .bool false]) ∧ w = w' := by
  have := ckclosing_any h
  simpa [e] using this
theorem closing_busy {S : List Nat} {w : World} {p o : Nat} {c : Ck} (h : Cm S w p o c) (e : c.ph ≠ 0) : Calls Try.prog 33 #[.pointer (some ⟨p, 0, none⟩)] w fun e w' => e = .returned (.tuple #[.int .u64 ((c.dur + 1 : Nat) : Int), .bool true]) ∧ w = w' := by
  have := ckclosing_any h
  rw [if_neg e, decide_eq_false e] at this
  exact this
theorem lw_new {g p o dp dq n d m : Nat} {w0 w1 w2 : World} (hz : w0.heap.size = g) (hp : g ≤ p) (ho : g ≤ o) (hc : ∀ S : List Nat, p ∈ S → o ∈ S → Cm S w1 p o (ck0 n d)) (hb1 : Below g w0 w1) (hdp : w1.heap.size ≤ dp) (hdq : w1.heap.size ≤ dq) (hd : DvP w2 dp dq (fresh m) five0) (hb2 : Below w1.heap.size w1 w2) :
    Lw [p, o, dp, dq] g w0 w2 p o dp dq (ck0 n d) (fresh m, five0) := by
  have h1 := hc [p, o, dp, dq] (by simp) (by simp)
  have lp := h1.lt_p
  have lo := h1.lt_o
  have ldp := hd.lt_p
  have ldq := hd.lt_q
  have hs1 := hb1.size
  have hs2 := hb2.size
  refine ⟨⟨h1.below hb2, hd, by simp, by simp, by omega, by omega, by omega, by omega⟩, hb1.trans (hb2.mono (by omega)), hz, fun x hx => ?_⟩
  simp only [List.mem_cons, List.not_mem_nil, or_false] at hx
  rcases hx with rfl | rfl | rfl | rfl <;> omega
theorem u64_up2 (x : Nat) (h : x + 2 < 18446744073709551616) : IntKind.u64.wrap ((x : Int) + 2) = ((x + 2 : Nat) : Int) := by
  have := u64_wrap (x + 2) h
  simpa using this

end Go.Proofs.Ytkcjamjjaallhaa
