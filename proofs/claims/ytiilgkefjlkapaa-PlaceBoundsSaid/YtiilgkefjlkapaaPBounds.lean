/-
Proved here: for every text the law PlaceBounds returns true, and the text reads as it did: buckets lie from 0 to 7 and are the checksum's rest, levels lie from 1 to 4, and a key is above level k just if the checksum's k highest bits are ones (texts of over 4,096 bytes: the law asks the chapter's examples alone).
  Conditions: none beyond the given statement's.
-/
import Derived.Test.YtiilgkefjlkapaaRows
import Derived.Test.YtiilgkefjlkapaaPlace11
import Derived.IntWalk
import Derived.WalkSmall
import Derived.Deep.QuietTactic
import Derived.BigQuiet
import Derived.WalkKit
import Derived.ProofKit
import Derived.OpenShut
import Derived.ShutString
import Derived.Below
import Derived.ChangeOld
namespace Go.Proofs.Ytiilgkefjlkapaa.placeBounds
open Go.ChangeShapes Go.WideShapes Go.ChangeAt Go.RowKit
open Go.ChangeMaps (open_string shut_string)
set_option linter.unusedVariables false      -- a walk need not use every 'w<i>' (that an integer argument fits its kind)

theorem own : ownKnob Try.prog.godebug = none := by kernel_rfl

theorem dec_eq {p : Prop} [Decidable p] {q : Bool} (h : p ↔ q = true) : decide p = q := by
  cases q <;> simp at h ⊢ <;> exact h
theorem lvl_tops {c : Nat} (hc : c < 4294967296) : decide (1 < (lvl c : Int)) = ((c : Int) / 2147483648 == 1) ∧ decide (2 < (lvl c : Int)) = ((c : Int) / 1073741824 == 3) ∧ decide (3 < (lvl c : Int)) = ((c : Int) / 536870912 == 7) := by
  rcases Nat.lt_or_ge c 2147483648 with h | h
  · rw [lvl_one h]
    exact ⟨dec_eq (by simp; omega), dec_eq (by simp; omega), dec_eq (by simp; omega)⟩
  rcases Nat.lt_or_ge c 3221225472 with h2 | h2
  · rw [lvl_two (by omega) h2]
    exact ⟨dec_eq (by simp; omega), dec_eq (by simp; omega), dec_eq (by simp; omega)⟩
  rcases Nat.lt_or_ge c 3758096384 with h3 | h3
  · rw [lvl_three (by omega) h3]
    exact ⟨dec_eq (by simp; omega), dec_eq (by simp; omega), dec_eq (by simp; omega)⟩
  · rw [lvl_four (by omega)]
    exact ⟨dec_eq (by simp; omega), dec_eq (by simp; omega), dec_eq (by simp; omega)⟩
set_option maxHeartbeats 800000 in
theorem walk (a0 : ByteArray) (w : World) (w0 : a0.size ≤ maxLen) :
    Calls Try.prog 4 #[.string a0] w fun e w' => e = .returned (.bool true) ∧ Below w.heap.size w w' := by
  by_cases hlong : 4096 < a0.size
  · have hl : (4096 : Int) < (a0.size : Int) := by omega
    clear hlong w0
    go_enter Try.func4, Try.ntmps4
    go_wp2_with fail
    refine (awake11_any _).mono ?_
    rintro e w' ⟨rfl, hb⟩
    go_wp2
    go_ret
    exact ⟨rfl, hb⟩
  · have hl : ¬ (4096 : Int) < (a0.size : Int) := by omega
    have hs : a0.size ≤ 1073741824 := by omega
    have H1 := Lib.hid (bucket_any a0 hs)
    have H2 := Lib.hid (level_any a0 hs)
    have H3 := Lib.hid (text_any a0 hs)
    have hc := addS_lt (c := 0) (l := a0.data.toList) (by omega)
    generalize addS 0 a0.data.toList = c at *
    obtain ⟨b, hb⟩ : ∃ b, c % 8 = b := ⟨_, rfl⟩
    obtain ⟨n, hn⟩ : ∃ n, lvl c = n := ⟨_, rfl⟩
    have hb8 : b < 8 := by omega
    rw [hb] at H1
    rw [hn] at H2
    have hbc : (b : Int) = (c : Int) % 8 := by omega
    have hn0 := lvl_bounds c
    have ht := lvl_tops hc
    rw [hn] at hn0 ht
    obtain ⟨h1, h2, h3⟩ := ht
    have hn1 : 1 ≤ (n : Int) := by omega
    have hn4 : (n : Int) ≤ 4 := by omega
    clear hlong w0 hs hb hn hn0
    go_enter Try.func4, Try.ntmps4
    go_wp2_with fail
    refine (H1.out _).mono ?_
    rintro e w1 ⟨rfl, hb1⟩
    go_wp2_with fail
    refine (H2.out _).mono ?_
    rintro e w2 ⟨rfl, hb2⟩
    go_wp2_with fail
    refine (H3.out _).mono ?_
    rintro e w3 ⟨rfl, hb3⟩
    go_wp2_with fail
    refine (awake11_any _).mono ?_
    rintro e w4 ⟨rfl, hb4⟩
    go_wp2
    go_ret
    exact ⟨rfl, ((hb1.trans (hb2.mono hb1.size)).trans (hb3.mono (Nat.le_trans hb1.size hb2.size))).trans (hb4.mono (Nat.le_trans hb1.size (Nat.le_trans hb2.size hb3.size)))⟩

/-! ### THE ROW's STEP: WRITTEN OUT: LEAVE IT -/
set_option maxRecDepth 100000 in
theorem lifted (os : Os) (started : os.Started) (H : Type) (enc : TypeId × Value → H) :
    ReturnsInHanded {} Try.checked os 4 .any (Rows.placeBoundsSpec.pre6 enc Try.prog Try.f4 Rows.placeBoundsRow.domain false) (Rows.placeBoundsSpec.post enc Try.prog Try.f4 false true false false) := by
  refine returnsInHanded_of_change (C := Try.checked) own started (by kernel_rfl) Try.func4
    (ChangeSpec.witness6 (enc := enc) (C := Try.checked) false ⟨#[], #[.string ByteArray.empty], []⟩ 8 (by kernel_rfl) (by kernel_rfl) (by kernel_rfl) (by kernel_rfl)) ?_
  intro W base args ds gs before hval0 hW hcnd _
  have hval : ∀ (j : Nat) t v, Try.f4.params[j]? = some t → args[j]? = some v → Value.okWide Try.prog W .any base t v := hval0
  have hW' := hW
  obtain ⟨p, q, hA0, hV, rfl, hfz, hnd⟩ := hW
  have hA : DataW.TrodAll enc Try.prog W 0 (fun _ => true) true Try.f4.params.toList args.toList ds p := hA0
  rw [Try.params4] at hA hval
  obtain ⟨v0, vs0, d0, ds0, p0, q0, hargs, rfl, rfl, h0, r0⟩ := trodAll_cons hA
  obtain ⟨rfl, rfl, rfl⟩ := trodAll_nil r0
  obtain rfl : args = #[v0] := by cases args; simp_all
  obtain ⟨rfl, rfl⟩ := trodVars_none hV
  obtain ⟨a0, rfl, rfl, rfl, w0⟩ := open_string Try.underlying9 (hval 0 9 v0 rfl rfl) h0
  clear hA0 hval0
  refine (walk a0 W w0).mono fun e W' ⟨he, bel⟩ => ?_
  subst he
  exact ⟨_, rfl, _, _, _, [], _, [], hW', trodAll_mk1 (shut_bool Try.underlying4 _), (trodAll_cons_mk (shut_string Try.underlying9 w0) trodAll_mk0), rfl, bel.frame _, fun h => by cases h⟩

theorem over : Rows.placeBoundsRow.holds Try.pinned (OpenSpec.ofChange Rows.placeBoundsSpec) :=
  OpenClaim.holds_of_wide 4 Try.f4 rfl rfl rfl rfl rfl rfl rfl ⟨rfl, rfl, rfl, rfl, rfl⟩ rfl rfl rfl rfl rfl (by kernel_rfl) Try.func4 (by kernel_rfl)
    (of_decide_eq_true (by kernel_rfl)) (by unfold Func.isWrapper; first | (rw [if_pos (by decide +kernel)]; kernel_rfl) | (rw [if_neg (by decide +kernel)]; exact ⟨rfl, rfl⟩))
    (fun os started H enc _ => lifted os started H enc)

/-- ████ THE STATEMENT ████ -/
theorem proved : Rows.PlaceBoundsSaid :=
  over
#print axioms proved
end Go.Proofs.Ytiilgkefjlkapaa.placeBounds
