/-
  Proved here: what package durable's Step answers and leaves, of a clock and of a device.
  Conditions: epochs below 2^64 - 3.

-/
import Derived.Test.YtkcjamjjaallhaaDurE
namespace Go.Proofs.Ytkcjamjjaallhaa
open Go Go.RowKit

theorem fnv1 (p : Nat) : fnv 1 p = .func (.func 65) #[.pointer (some ⟨p, 0, none⟩)] #[] := rfl
def SteppedTo (S : List Nat) (p o dp dq : Nat) (c : Ck) (s : St) (w : World) (e : Ending) (w' : World) : Prop :=
  e = .returned (.tuple #[.int .i64 c.act, .int .i64 c.stepE]) ∧ Cm S w' p o c.step ∧ DvS w' dp dq (c.dev s) ∧ Keeps [p, o, dp, dq] w w'
set_option maxHeartbeats 800000 in
set_option maxRecDepth 100000 in
theorem ckstep_1 {S : List Nat} {w : World} {p o dp dq : Nat} {c : Ck} {s : St} (h : Cd S w p o dp dq c s) (e : c.ph = 1) : Calls Try.prog 19 #[.pointer (some ⟨p, 0, none⟩), .pointer (some ⟨dp, 0, none⟩)] w (SteppedTo S p o dp dq c s w) := by
  have hf := h.ck.reads.2.2.2
  have H := Lib.hid (ckflushf_any h e)
  have hq1 := eq_func w (.func 65) #[.pointer (some ⟨p, 0, none⟩)] #[]
  have HFIN : Hid (∀ a w', StepTo S p o dp dq c s w (.returned (.int .i64 a)) w' → SteppedTo S p o dp dq c s w (.returned (.tuple #[.int .i64 a, .int .i64 0])) w') := fun a w' ⟨h1, h2⟩ => by
    refine ⟨?_, h2⟩
    unfold Ck.stepE
    rw [if_neg (by omega)]
    cases h1
    rfl
  have HA : Hid (∀ e w', StepTo S p o dp dq c s w e w' → ∃ a, e = .returned (.int .i64 a)) := fun e w' h => ⟨_, h.1⟩
  rw [e, fnv1] at hf
  clear h e
  generalize StepTo S p o dp dq c s w = Q at *
  generalize SteppedTo S p o dp dq c s w = R at *
  go_enter Try.func19, Try.ntmps19
  go_wp2_with fail
  refine H.out.mono ?_
  rintro e w' hs
  obtain ⟨a, rfl⟩ := HA.out e w' hs
  have HE := Lib.hid (HFIN.out a w' hs)
  clear hs
  go_wp2
  exact HE.out
set_option maxHeartbeats 800000 in
set_option maxRecDepth 100000 in
theorem ckstep_2 {S : List Nat} {w : World} {p o dp dq : Nat} {c : Ck} {s : St} (h : Cd S w p o dp dq c s) (e : c.ph = 2) : Calls Try.prog 19 #[.pointer (some ⟨p, 0, none⟩), .pointer (some ⟨dp, 0, none⟩)] w (SteppedTo S p o dp dq c s w) := by
  have hf := h.ck.reads.2.2.2
  have H := Lib.hid (ckfence_any h e)
  have hq1 := eq_func w (.func 66) #[.pointer (some ⟨p, 0, none⟩)] #[]
  have HFIN : Hid (∀ a w', StepTo S p o dp dq c s w (.returned (.int .i64 a)) w' → SteppedTo S p o dp dq c s w (.returned (.tuple #[.int .i64 a, .int .i64 0])) w') := fun a w' ⟨h1, h2⟩ => by
    refine ⟨?_, h2⟩
    unfold Ck.stepE
    rw [if_neg (by omega)]
    cases h1
    rfl
  have HA : Hid (∀ e w', StepTo S p o dp dq c s w e w' → ∃ a, e = .returned (.int .i64 a)) := fun e w' h => ⟨_, h.1⟩
  rw [e, fnv2] at hf
  clear h e
  generalize StepTo S p o dp dq c s w = Q at *
  generalize SteppedTo S p o dp dq c s w = R at *
  go_enter Try.func19, Try.ntmps19
  go_wp2_with fail
  refine H.out.mono ?_
  rintro e w' hs
  obtain ⟨a, rfl⟩ := HA.out e w' hs
  have HE := Lib.hid (HFIN.out a w' hs)
  clear hs
  go_wp2
  exact HE.out
set_option maxHeartbeats 800000 in
set_option maxRecDepth 100000 in
theorem ckstep_3 {S : List Nat} {w : World} {p o dp dq : Nat} {c : Ck} {s : St} (h : Cd S w p o dp dq c s) (e : c.ph = 3) : Calls Try.prog 19 #[.pointer (some ⟨p, 0, none⟩), .pointer (some ⟨dp, 0, none⟩)] w (SteppedTo S p o dp dq c s w) := by
  have hf := h.ck.reads.2.2.2
  have H := Lib.hid (ckstorec_any h e)
  have hq1 := eq_func w (.func 78) #[.pointer (some ⟨p, 0, none⟩)] #[]
  have HFIN : Hid (∀ a w', StepTo S p o dp dq c s w (.returned (.int .i64 a)) w' → SteppedTo S p o dp dq c s w (.returned (.tuple #[.int .i64 a, .int .i64 0])) w') := fun a w' ⟨h1, h2⟩ => by
    refine ⟨?_, h2⟩
    unfold Ck.stepE
    rw [if_neg (by omega)]
    cases h1
    rfl
  have HA : Hid (∀ e w', StepTo S p o dp dq c s w e w' → ∃ a, e = .returned (.int .i64 a)) := fun e w' h => ⟨_, h.1⟩
  rw [e, fnv3] at hf
  clear h e
  generalize StepTo S p o dp dq c s w = Q at *
  generalize SteppedTo S p o dp dq c s w = R at *
  go_enter Try.func19, Try.ntmps19
  go_wp2_with fail
  refine H.out.mono ?_
  rintro e w' hs
  obtain ⟨a, rfl⟩ := HA.out e w' hs
  have HE := Lib.hid (HFIN.out a w' hs)
  clear hs
  go_wp2
  exact HE.out
set_option maxHeartbeats 800000 in
set_option maxRecDepth 100000 in
theorem ckstep_4 {S : List Nat} {w : World} {p o dp dq : Nat} {c : Ck} {s : St} (h : Cd S w p o dp dq c s) (e : c.ph = 4) : Calls Try.prog 19 #[.pointer (some ⟨p, 0, none⟩), .pointer (some ⟨dp, 0, none⟩)] w (SteppedTo S p o dp dq c s w) := by
  have hf := h.ck.reads.2.2.2
  have H := Lib.hid (ckflushc_any h e)
  have hq1 := eq_func w (.func 84) #[.pointer (some ⟨p, 0, none⟩)] #[]
  have HFIN : Hid (∀ a w', StepTo S p o dp dq c s w (.returned (.int .i64 a)) w' → SteppedTo S p o dp dq c s w (.returned (.tuple #[.int .i64 a, .int .i64 0])) w') := fun a w' ⟨h1, h2⟩ => by
    refine ⟨?_, h2⟩
    unfold Ck.stepE
    rw [if_neg (by omega)]
    cases h1
    rfl
  have HA : Hid (∀ e w', StepTo S p o dp dq c s w e w' → ∃ a, e = .returned (.int .i64 a)) := fun e w' h => ⟨_, h.1⟩
  rw [e, fnv4] at hf
  clear h e
  generalize StepTo S p o dp dq c s w = Q at *
  generalize SteppedTo S p o dp dq c s w = R at *
  go_enter Try.func19, Try.ntmps19
  go_wp2_with fail
  refine H.out.mono ?_
  rintro e w' hs
  obtain ⟨a, rfl⟩ := HA.out e w' hs
  have HE := Lib.hid (HFIN.out a w' hs)
  clear hs
  go_wp2
  exact HE.out
set_option maxHeartbeats 800000 in
set_option maxRecDepth 100000 in
theorem ckstep_5 {S : List Nat} {w : World} {p o dp dq : Nat} {c : Ck} {s : St} (h : Cd S w p o dp dq c s) (e : c.ph = 5) (hlt : c.dur + 3 < 18446744073709551616) : Calls Try.prog 19 #[.pointer (some ⟨p, 0, none⟩), .pointer (some ⟨dp, 0, none⟩)] w (SteppedTo S p o dp dq c s w) := by
  have hf := h.ck.reads.2.2.2
  have H := Lib.hid (ckfencec_any h e hlt)
  have hq1 := eq_func w (.func 88) #[.pointer (some ⟨p, 0, none⟩)] #[]
  have HFIN : Hid (∀ a w', StepTo S p o dp dq c s w (.returned (.int .i64 a)) w' → SteppedTo S p o dp dq c s w (.returned (.tuple #[.int .i64 a, .int .i64 0])) w') := fun a w' ⟨h1, h2⟩ => by
    refine ⟨?_, h2⟩
    unfold Ck.stepE
    rw [if_neg (by omega)]
    cases h1
    rfl
  have HA : Hid (∀ e w', StepTo S p o dp dq c s w e w' → ∃ a, e = .returned (.int .i64 a)) := fun e w' h => ⟨_, h.1⟩
  rw [e, fnv5] at hf
  clear h hlt e
  generalize StepTo S p o dp dq c s w = Q at *
  generalize SteppedTo S p o dp dq c s w = R at *
  go_enter Try.func19, Try.ntmps19
  go_wp2_with fail
  refine H.out.mono ?_
  rintro e w' hs
  obtain ⟨a, rfl⟩ := HA.out e w' hs
  have HE := Lib.hid (HFIN.out a w' hs)
  clear hs
  go_wp2
  exact HE.out
set_option maxHeartbeats 800000 in
set_option maxRecDepth 100000 in
theorem ckstep_0 {S : List Nat} {w : World} {p o dp dq : Nat} {c : Ck} {s : St} (h : Cd S w p o dp dq c s) (e : c.ph = 0) : Calls Try.prog 19 #[.pointer (some ⟨p, 0, none⟩), .pointer (some ⟨dp, 0, none⟩)] w (SteppedTo S p o dp dq c s w) := by
  have hf := h.ck.reads.2.2.2
  have hq1 := eq_nilfunc w
  have HFIN : Hid (SteppedTo S p o dp dq c s w (.returned (.tuple #[.int .i64 0, .int .i64 12])) w) := by
    refine ⟨by unfold Ck.stepE Ck.act; rw [if_pos e, if_pos e], ?_, ?_, Keeps.refl _ _⟩
    · unfold Ck.step; rw [if_pos e]; exact h.ck
    · unfold Ck.dev; rw [if_pos e]; exact h.dv
  rw [e, fnv_zero] at hf
  clear h e
  generalize hR : SteppedTo S p o dp dq c s w = R at *
  go_enter Try.func19, Try.ntmps19
  go_wp2
  exact HFIN.out
theorem ckstep_any {S : List Nat} {w : World} {p o dp dq : Nat} {c : Ck} {s : St} (h : Cd S w p o dp dq c s) (hlt : c.dur + 3 < 18446744073709551616) : Calls Try.prog 19 #[.pointer (some ⟨p, 0, none⟩), .pointer (some ⟨dp, 0, none⟩)] w (SteppedTo S p o dp dq c s w) := by
  have h5 := h.ck.ok.ph
  rcases (by omega : c.ph = 0 ∨ c.ph = 1 ∨ c.ph = 2 ∨ c.ph = 3 ∨ c.ph = 4 ∨ c.ph = 5) with e | e | e | e | e | e
  · exact ckstep_0 h e
  · exact ckstep_1 h e
  · exact ckstep_2 h e
  · exact ckstep_3 h e
  · exact ckstep_4 h e
  · exact ckstep_5 h e hlt

end Go.Proofs.Ytkcjamjjaallhaa
