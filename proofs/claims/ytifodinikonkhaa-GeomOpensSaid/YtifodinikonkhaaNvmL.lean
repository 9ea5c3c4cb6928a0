/-
  Proved here: what the law NvmKeeps asks, of lines alone.
  Conditions: none.
-/
import Derived.Test.YtifodinikonkhaaNvmK
namespace Go.Proofs.Ytifodinikonkhaa
open Go Go.RowKit

/-- A line of which X is seen and lasts, and is what is on its way, if something is. -/
def Kept (X : List UInt8) (c : Cl) : Prop := c.v = X ∧ c.p = X ∧ (c.on = true → c.f = X)
theorem Kept.flush {X : List UInt8} {c : Cl} (h : Kept X c) : Kept X c.flush := ⟨h.1, h.2.1, fun _ => h.1⟩
theorem Kept.back {X : List UInt8} {c : Cl} (h : Kept X c) : Kept X c.back := ⟨h.1, h.1, fun h => by cases h⟩
theorem Kept.keep {X : List UInt8} {c : Cl} (h : Kept X c) : Kept X { c with p := c.v } := ⟨h.1, h.1, h.2.2⟩
theorem Kept.cut {X : List UInt8} {c : Cl} (h : Kept X c) : Kept X c.cut := ⟨h.2.1, h.2.1, fun h => by cases h⟩
theorem Kept.fence {X : List UInt8} {c : Cl} (h : Kept X c) : Kept X c.fence := by
  unfold Cl.fence
  split
  · exact ⟨h.1, h.2.2 ‹_›, fun h => by cases h⟩
  · exact h
theorem kept_set {X : List UInt8} {st : List Cl} {x : Int} {k : Nat} {c : Cl} (h : has st x = true) (hk : Kept X (clAt st (k : Int))) (hc : x = (k : Int) → Kept X c) : Kept X (clAt (st.set x.toNat c) (k : Int)) := by
  obtain ⟨i, rfl, hi⟩ := has_true h
  rw [Int.toNat_natCast, clAt_set _ _ _ _ hi]
  split
  · exact hc (by omega)
  · exact hk
theorem keepOne_kept {X : List UInt8} {st : List Cl} (x : Int) {k : Nat} (hk : Kept X (clAt st (k : Int))) : Kept X (clAt (keepOne st x) (k : Int)) := by
  cases h : has st x with
  | false => rw [keepOne_out _ _ (has_false h)]; exact hk
  | true =>
    obtain ⟨i, rfl, hi⟩ := has_true h
    rw [keepOne_in _ _ (clAt_some hi)]
    have := kept_set (c := { clAt st (i : Int) with p := (clAt st (i : Int)).v }) h hk (fun e => by have : i = k := by omega
                                                                                                    subst this
                                                                                                    exact hk.keep)
    simpa using this
theorem keepAll_kept {X : List UInt8} {k : Nat} (keep : List Int) {st : List Cl} (hk : Kept X (clAt st (k : Int))) : Kept X (clAt (keepAll st keep) (k : Int)) := by
  induction keep generalizing st with
  | nil => exact hk
  | cons x keep ih => exact ih (keepOne_kept x hk)
theorem play_kept {X : List UInt8} {s : St} {k : Nat} (x : ActV) (hl : k < s.1.length) (hk : Kept X (clAt s.1 (k : Int))) (hx : ¬ (x.kd = 0 ∧ x.line = (k : Int))) : Kept X (clAt (s.play x).1 (k : Int)) := by
  unfold St.play
  split
  · unfold St.store
    split
    · rename_i h1 h2
      rw [Bool.and_eq_true] at h2
      exact kept_set h2.1 hk (fun e => absurd ⟨h1, e⟩ hx)
    · exact hk
  split
  · unfold St.flush
    split
    · exact kept_set ‹_› hk (fun e => by rw [e]; exact hk.flush)
    · exact hk
  split
  · rw [St.fence_at _ _ hl]; exact hk.fence
  split
  · unfold St.back
    split
    · exact kept_set ‹_› hk (fun e => by rw [e]; exact hk.back)
    · exact hk
  split
  · unfold St.cut
    rw [clAt_map _ _ _ (by rw [keepAll_len]; exact hl)]
    exact (keepAll_kept _ hk).cut
  · exact hk
/-- The state behind the acts that NvmKeeps plays. -/
def St.playBut (s : St) (k : Nat) (x : ActV) : St := if x.kd = 0 ∧ x.line = (k : Int) then s else s.play x
theorem playBut_kept {X : List UInt8} {s : St} {k : Nat} (x : ActV) (hl : k < s.1.length) (hk : Kept X (clAt s.1 (k : Int))) : Kept X (clAt (s.playBut k x).1 (k : Int)) := by
  unfold St.playBut
  split
  · exact hk
  · exact play_kept x hl hk ‹_›
theorem flushed_kept (s : St) (k : Nat) (hl : k < s.1.length) : Kept (clAt (s.flush (k : Int)).1 (k : Int)).v (clAt (s.flush (k : Int)).fence.1 (k : Int)) := by
  rw [St.fence_at _ _ (by rw [St.flush_len]; exact hl), St.flush_at _ _ _ hl, if_pos rfl]
  exact ⟨rfl, rfl, fun h => by cases h⟩

end Go.Proofs.Ytifodinikonkhaa
