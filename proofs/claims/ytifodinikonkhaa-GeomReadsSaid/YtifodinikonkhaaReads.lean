/-
Proved here: GeomReads answers true for all bytes: of any bytes it is told whether they are a superblock, or a clock.
Conditions: none.
-/
import Derived.Test.YtifodinikonkhaaRows
import Derived.Test.YtifodinikonkhaaRef4B
import Derived.IntWalk
import Derived.WalkSmall
import Derived.Deep.QuietTactic
import Derived.BigQuiet
import Derived.WalkKit
import Derived.ProofKit
import Derived.OpenShut
import Derived.ShutString
import Derived.ChangeOld
import Derived.Below
namespace Go.Proofs.Ytifodinikonkhaa.geomReads
open Go.ChangeShapes Go.WideShapes Go.ChangeAt Go.RowKit
open Go.ChangeMaps (open_string shut_string)
set_option linter.unusedVariables false

theorem own : ownKnob Try.prog.godebug = none := by kernel_rfl
theorem laidOut : laidOutB Try.prog = true := by kernel_rfl

theorem cap_ge {w : World} {a : Option Addr} {len cap : Nat} {zs : List Int} (h : IsRow .u8 w a len cap zs) : len ≤ cap := by
  rcases h with ⟨rfl, rfl, rfl, rfl⟩ | ⟨x, rfl, hlc, _⟩
  · exact Nat.le_refl _
  · exact hlc

set_option maxHeartbeats 800000 in
theorem short (A : Option Addr) (n c : Nat) (l : List UInt8) (w : World) (hl : l.length = n) (hr : Row w A l) (hc0 : A = none → c = 0) (hnc : n ≤ c) (hn : n ≤ 1024) :
    Calls Try.prog 4 #[.slice A n c] w fun e w' => e = .returned (.bool true) ∧ Below w.heap.size w w' := by
  have HLEND := Lib.hid (lend_any w A n c l hl hr hc0)
  have HL := Lib.hid hl
  have HR := Lib.hid hr
  have hn4 : ¬ (1024 : Int) < (n : Int) := by omega
  obtain ⟨N, ok, HS1, HS2⟩ : ∃ (N : Nat) (ok : Bool), (∀ W g, Row W (some ⟨g, 0, none⟩) l → Calls Try.prog 15 #[.slice (some ⟨g, 0, none⟩) n (n + 5)] W fun e w' => e = .returned (.tuple #[.int .i64 N, .bool ok]) ∧ Below W.heap.size W w') ∧ (∀ W, Row W A l → Calls Try.prog 19 #[.slice A n c] W fun e w' => e = .returned (.tuple #[.int .i64 N, .bool ok]) ∧ Below W.heap.size W w') := by
    rcases Classical.em (∃ k, 10 ≤ k ∧ k ≤ 258 ∧ l = superL k) with ⟨k, h1, h2, rfl⟩ | h
    · have hn64 : n = 64 := by rw [← hl, superL_len]
      subst hn64
      exact ⟨k, true, fun W g hw => issuper_yes _ _ k h1 h2 W hw, fun W hw => rissuper_yes A c k h1 h2 W hw⟩
    · have hno : ∀ k, 10 ≤ k → k ≤ 258 → l ≠ superL k := fun k h1 h2 e => h ⟨k, h1, h2, e⟩
      exact ⟨0, false, fun W g hw => issuper_no _ n _ l hl W hw hno, fun W hw => rissuper_no A n c l hl W hw hno⟩
  obtain ⟨v, fine, HC1, HC2⟩ : ∃ (v : Nat) (fine : Bool), (∀ W g, Row W (some ⟨g, 0, none⟩) l → Calls Try.prog 16 #[.slice (some ⟨g, 0, none⟩) n (n + 5)] W fun e w' => e = .returned (.tuple #[.int .u64 v, .bool fine]) ∧ Below W.heap.size W w') ∧ (∀ W, Row W A l → Calls Try.prog 20 #[.slice A n c] W fun e w' => e = .returned (.tuple #[.int .u64 v, .bool fine]) ∧ Below W.heap.size W w') := by
    rcases Classical.em (∃ k, k < 18446744073709551616 ∧ l = clockL k) with ⟨k, h1, rfl⟩ | h
    · have hn64 : n = 64 := by rw [← hl, clockL_len]
      subst hn64
      exact ⟨k, true, fun W g hw => isclock_yes _ _ k h1 W hw, fun W hw => risclock_yes A c hnc k h1 W hw⟩
    · have hno : ∀ k, k < 18446744073709551616 → l ≠ clockL k := fun k h1 e => h ⟨k, h1, e⟩
      exact ⟨0, false, fun W g hw => isclock_no _ n _ l hl W hw hno, fun W hw => risclock_no A n c hnc l hl W hw hno⟩
  have H1 := Lib.hid HS1
  have H2 := Lib.hid HS2
  have H3 := Lib.hid HC1
  have H4 := Lib.hid HC2
  have hNN : ((N : Int) == (N : Int)) = true := by simp
  have hvv : ((v : Int) == (v : Int)) = true := by simp
  have hoo : (ok == ok) = true := by simp
  have hff : (fine == fine) = true := by simp
  clear hl hr hc0 HS1 HS2 HC1 HC2
  go_enter Try.func4, Try.ntmps4
  go_wp2_with fail
  refine HLEND.out.mono ?_
  rintro e w1 ⟨g, rfl, hg, hlent, hb1⟩
  have B1 := Lib.hid hb1
  have L1 := Lib.hid hlent
  clear hlent hb1
  go_wp2_with fail
  refine (H1.out w1 g (L1.out.row (by have := HL.out; omega))).mono ?_
  rintro e w2 ⟨rfl, hb⟩
  have B2 := Lib.hid (B1.out.trans (hb.mono B1.out.size))
  have L2 : Hid (Lent w2 g l) := Blk.below L1.out hb (Blk.lt L1.out)
  clear hb
  go_wp2_with fail
  refine (H2.out w2 (HR.out.below B2.out)).mono ?_
  rintro e w3 ⟨rfl, hb⟩
  have B3 := Lib.hid (B2.out.trans (hb.mono B2.out.size))
  have L3 : Hid (Lent w3 g l) := Blk.below L2.out hb (Blk.lt L2.out)
  clear hb
  go_wp2_with fail
  refine (H3.out w3 g (L3.out.row (by have := HL.out; omega))).mono ?_
  rintro e w4 ⟨rfl, hb⟩
  have B4 := Lib.hid (B3.out.trans (hb.mono B3.out.size))
  have L4 : Hid (Lent w4 g l) := Blk.below L3.out hb (Blk.lt L3.out)
  clear hb
  go_wp2_with fail
  refine (H4.out w4 (HR.out.below B4.out)).mono ?_
  rintro e w5 ⟨rfl, hb⟩
  have B5 := Lib.hid (B4.out.trans (hb.mono B4.out.size))
  have L5 : Hid (Lent w5 g l) := Blk.below L4.out hb (Blk.lt L4.out)
  have HK := Lib.hid (kept_any w5 g A n c l HL.out (by omega) L5.out (HR.out.below B5.out))
  clear hb
  go_wp2_with fail
  refine HK.out.mono ?_
  rintro e w' ⟨rfl, rfl⟩
  go_wp2_with fail
  refine (awake_any _).mono ?_
  rintro e w6 ⟨rfl, hb6⟩
  go_wp2
  go_ret
  exact ⟨rfl, B5.out.trans (hb6.mono B5.out.size)⟩

theorem walk (a0 : Option Addr) (len0 cap0 : Nat) (z0 : List Int) (w : World) (w0 : IsRow .u8 w a0 len0 cap0 z0) :
    Calls Try.prog 4 #[.slice a0 len0 cap0] w fun e w' => e = .returned (.bool true) ∧ Below w.heap.size w w' := by
  rcases Nat.lt_or_ge 1024 len0 with h0 | h0
  · have hl : (1024 : Int) < (len0 : Int) := by omega
    clear h0 w0
    go_enter Try.func4, Try.ntmps4
    go_wp2_with fail
    refine (awake_any _).mono ?_
    rintro e w' ⟨rfl, hb⟩
    go_wp2
    go_ret
    exact ⟨rfl, hb⟩
  · obtain ⟨l0, e0, r0, c0⟩ := w0.row (by omega)
    exact short a0 len0 cap0 l0 w e0 r0 c0 (cap_ge w0) h0

/-! ### THE ROW's STEP: WRITTEN OUT: LEAVE IT -/
set_option maxRecDepth 100000 in
theorem lifted (os : Os) (started : os.Started) (H : Type) (enc : TypeId × Value → H) :
    ReturnsInHanded {} Try.checked os 4 .any (Rows.geomReadsSpec.pre6 enc Try.prog Try.f4 Rows.geomReadsRow.domain false) (Rows.geomReadsSpec.post enc Try.prog Try.f4 false true false false) := by
  refine returnsInHanded_of_change (C := Try.checked) own started (by kernel_rfl) Try.func4
    (ChangeSpec.witness6 (enc := enc) (C := Try.checked) false ⟨#[], #[.slice none 0 0], []⟩ 8 (by kernel_rfl) (by kernel_rfl) (by kernel_rfl) (by kernel_rfl)) ?_
  intro W base args ds gs before hval0 hW hcnd _
  have hval : ∀ (j : Nat) t v, Try.f4.params[j]? = some t → args[j]? = some v → Value.okWide Try.prog W .any base t v := hval0
  have hW' := hW
  obtain ⟨p, q, hA0, hV, rfl, hfz, hnd⟩ := hW
  have hA : DataW.TrodAll enc Try.prog W 0 (fun _ => true) true Try.f4.params.toList args.toList ds p := hA0
  rw [Try.params4] at hA hval
  obtain ⟨v0, vs0, d0, ds0, p0, q0, hargs, rfl, rfl, h0, r0⟩ := trodAll_cons hA
  obtain ⟨rfl, rfl, rfl⟩ := trodAll_nil r0
  obtain rfl : args = #[v0] := by cases args; simp_all
  obtain ⟨rfl, rfl⟩ := trodVars_none hV
  obtain ⟨a0, len0, cap0, rfl⟩ := okWide_slice Try.underlying23 (hval 0 23 v0 rfl rfl)
  have k0 := h0
  have lt0 : ∀ x ∈ p0, x.block < W.heap.size := by obtain ⟨m, hm⟩ := k0; exact DataW.trod_lt m _ _ _ hm
  obtain ⟨z0, w0⟩ : ∃ zs, IsRow .u8 W a0 len0 cap0 zs := by
    obtain ⟨fuel, hf⟩ := h0
    rcases open_ints Try.underlying23 Try.underlying5 (by kernel_rfl) hf with ⟨hcs, _⟩ | ⟨x, l, c, zs, hcs, _, hl, hm, hz, _, hcell, hwz⟩
    · simp [Value.cells] at hcs
      obtain ⟨rfl, rfl, rfl⟩ := hcs
      exact ⟨[], .inl ⟨rfl, rfl, rfl, rfl⟩⟩
    · simp [Value.cells] at hcs
      obtain ⟨rfl, rfl, rfl⟩ := hcs
      exact ⟨zs, .inr ⟨_, rfl, hl, hm, by simpa using hz, hcell, hwz⟩⟩
  clear hA0 hval0
  refine (walk a0 len0 cap0 z0 W w0).mono fun e W' ⟨he, bel⟩ => ?_
  subst he
  exact ⟨_, rfl, _, _, _, [], _, [], hW', trodAll_mk1 (shut_bool Try.underlying4 _), (trodAll_cons_mk (Below.trod laidOut (by kernel_rfl) (of_decide_eq_true (by kernel_rfl)) k0 bel lt0) trodAll_mk0), rfl, bel.frame _, fun h => by cases h⟩

theorem over : Rows.geomReadsRow.holds Try.pinned (OpenSpec.ofChange Rows.geomReadsSpec) :=
  OpenClaim.holds_of_wide 4 Try.f4 rfl rfl rfl rfl rfl rfl rfl ⟨rfl, rfl, rfl, rfl, rfl⟩ rfl rfl rfl rfl rfl (by kernel_rfl) Try.func4 (by kernel_rfl)
    (of_decide_eq_true (by kernel_rfl)) (by unfold Func.isWrapper; first | (rw [if_pos (by decide +kernel)]; kernel_rfl) | (rw [if_neg (by decide +kernel)]; exact ⟨rfl, rfl⟩))
    (fun os started H enc _ => lifted os started H enc)

/-- ████ THE STATEMENT ████ -/
theorem proved : Rows.GeomReadsSaid := over
#print axioms proved
end Go.Proofs.Ytifodinikonkhaa.geomReads
