/-
  Proved here: for every row of bytes and every two numbers the law CodeGets returns true, and the row reads as it did: Get answers as the chapter says, an error or the number that the bytes encode, and leaves what it was given, spare room too (rows of over 1,024 bytes: the law asks the chapter's example alone).
  Conditions: none beyond the given statement's.
-/
import Derived.Test.YtifjgdhhfhfecaaRows
import Derived.Test.YtifjgdhhfhfecaaRef2
import Derived.Test.YtifjgdhhfhfecaaOver
import Derived.Test.YtifjgdhhfhfecaaAwake2
import Derived.WalkKit
import Derived.ProofKit
import Derived.OpenShut
import Derived.ShutString
import Derived.ChangeOld
import Derived.Below
namespace Go.Proofs.Ytifjgdhhfhfecaa.codeGets
open Go.ChangeShapes Go.WideShapes Go.ChangeAt Go.RowKit
open Go.ChangeMaps (open_string shut_string)
set_option linter.unusedVariables false

theorem own : ownKnob Try.prog.godebug = none := by kernel_rfl
theorem laidOut : laidOutB Try.prog = true := by kernel_rfl

theorem cap_ge {w : World} {a : Option Addr} {len cap : Nat} {zs : List Int} (h : IsRow .u8 w a len cap zs) : len ≤ cap := by
  rcases h with ⟨rfl, rfl, rfl, rfl⟩ | ⟨x, rfl, hlc, _⟩
  · exact Nat.le_refl _
  · exact hlc

set_option maxHeartbeats 800000 in
theorem short (A : Option Addr) (n c : Nat) (l : List UInt8) (p k : Int) (w : World) (hl : l.length = n) (hr : Row w A l) (hc0 : A = none → c = 0) (hnc : n ≤ c) (hn : n ≤ 1024) :
    Calls Try.prog 4 #[.slice A n c, .int .i64 p, .int .i64 k] w fun e w' => e = .returned (.bool true) ∧ Below w.heap.size w w' := by
  have HLEND := Lib.hid (lend_any w A n c l hl hr hc0)
  have HL := Lib.hid hl
  have HR := Lib.hid hr
  have hn4 : ¬ (1024 : Int) < (n : Int) := by omega
  obtain ⟨v, x, HV⟩ : ∃ (v : Nat) (x : Int), ∀ w1 g, Lent w1 g l → Row w1 A l → (Calls Try.prog 16 #[.slice (some ⟨g, 0, none⟩) n (n + 5), .int .i64 p, .int .i64 k] w1 fun e w' => e = .returned (.tuple #[.int .u64 (v : Nat), .int .i64 x]) ∧ w1 = w') ∧ (Calls Try.prog 17 #[.slice A n c, .int .i64 p, .int .i64 k] w1 fun e w' => e = .returned (.tuple #[.int .u64 (v : Nat), .int .i64 x]) ∧ w1 = w') := by
    rcases Classical.em (chk n p k = 0) with h | h
    · obtain ⟨a, m, rfl, rfl, h1, h8, ha⟩ := chk_nat h
      exact ⟨le (cut l a m), 0, fun w1 g hg hw => ⟨get_ok _ n (n + 5) l hl a m h1 h8 ha w1 (hg.row (by omega)), rget_ok A n c l hl a m h1 h8 ha hnc w1 hw⟩⟩
    · exact ⟨0, chk n p k, fun w1 g hg hw => ⟨get_bad _ n (n + 5) (by omega) p k h w1, rget_bad A n c (by omega) p k h w1⟩⟩
  have HVV := Lib.hid HV
  have hvv : ((v : Int) == (v : Int)) = true := by simp
  have hxx : (x == x) = true := by simp
  clear hl hr hc0 HV
  go_enter Try.func4, Try.ntmps4
  go_wp2_with fail
  refine HLEND.out.mono ?_
  rintro e w1 ⟨g, rfl, hg, hlent, hb1⟩
  have hrA := HR.out.below hb1
  obtain ⟨HG1, HG2⟩ := HVV.out w1 g hlent hrA
  have H1 := Lib.hid HG1
  have H2 := Lib.hid HG2
  have H3 := Lib.hid (kept_any w1 g A n c l HL.out (by omega) hlent hrA)
  have HB1 := Lib.hid hb1
  clear HG1 HG2 hlent hrA hb1
  go_wp2_with fail
  refine H1.out.mono ?_
  rintro e w' ⟨rfl, rfl⟩
  go_wp2_with fail
  refine H2.out.mono ?_
  rintro e w' ⟨rfl, rfl⟩
  go_wp2_with fail
  refine (num_any x w1).mono ?_
  rintro e w' ⟨rfl, rfl⟩
  go_wp2_with fail
  refine H3.out.mono ?_
  rintro e w' ⟨rfl, rfl⟩
  go_wp2_with fail
  refine (awake_any _).mono ?_
  rintro e w3 ⟨rfl, hb3⟩
  go_wp2
  go_ret
  exact ⟨rfl, HB1.out.trans (hb3.mono HB1.out.size)⟩

theorem walk (a0 : Option Addr) (len0 cap0 : Nat) (z0 : List Int) (a1 : Int) (a2 : Int) (w : World) (w0 : IsRow .u8 w a0 len0 cap0 z0) (w1 : (Lit.int .i64 a1).wf = true) (w2 : (Lit.int .i64 a2).wf = true) :
    Calls Try.prog 4 #[.slice a0 len0 cap0, .int .i64 a1, .int .i64 a2] w fun e w' => e = .returned (.bool true) ∧ Below w.heap.size w w' := by
  rcases Nat.lt_or_ge 1024 len0 with h0 | h0
  · have hl : (1024 : Int) < (len0 : Int) := by omega
    clear h0 w0 w1 w2
    go_enter Try.func4, Try.ntmps4
    go_wp2_with fail
    refine (awake_any _).mono ?_
    rintro e w' ⟨rfl, hb⟩
    go_wp2
    go_ret
    exact ⟨rfl, hb⟩
  · obtain ⟨l0, e0, r0, c0⟩ := w0.row (by omega)
    exact short a0 len0 cap0 l0 a1 a2 w e0 r0 c0 (cap_ge w0) h0

/-! ### THE ROW's STEP: WRITTEN OUT: LEAVE IT -/
set_option maxRecDepth 100000 in
theorem lifted (os : Os) (started : os.Started) (H : Type) (enc : TypeId × Value → H) :
    ReturnsInHanded {} Try.checked os 4 .any (Rows.codeGetsSpec.pre6 enc Try.prog Try.f4 Rows.codeGetsRow.domain false) (Rows.codeGetsSpec.post enc Try.prog Try.f4 false true false false) := by
  refine returnsInHanded_of_change (C := Try.checked) own started (by kernel_rfl) Try.func4
    (ChangeSpec.witness6 (enc := enc) (C := Try.checked) false ⟨#[], #[.slice none 0 0, .int .i64 0, .int .i64 0], []⟩ 8 (by kernel_rfl) (by kernel_rfl) (by kernel_rfl) (by kernel_rfl)) ?_
  intro W base args ds gs before hval0 hW hcnd _
  have hval : ∀ (j : Nat) t v, Try.f4.params[j]? = some t → args[j]? = some v → Value.okWide Try.prog W .any base t v := hval0
  have hW' := hW
  obtain ⟨p, q, hA0, hV, rfl, hfz, hnd⟩ := hW
  have hA : DataW.TrodAll enc Try.prog W 0 (fun _ => true) true Try.f4.params.toList args.toList ds p := hA0
  rw [Try.params4] at hA hval
  obtain ⟨v0, vs0, d0, ds0, p0, q0, hargs, rfl, rfl, h0, r0⟩ := trodAll_cons hA
  obtain ⟨v1, vs1, d1, ds1, p1, q1, rfl, rfl, rfl, h1, r1⟩ := trodAll_cons r0
  obtain ⟨v2, vs2, d2, ds2, p2, q2, rfl, rfl, rfl, h2, r2⟩ := trodAll_cons r1
  obtain ⟨rfl, rfl, rfl⟩ := trodAll_nil r2
  obtain rfl : args = #[v0, v1, v2] := by cases args; simp_all
  obtain ⟨rfl, rfl⟩ := trodVars_none hV
  obtain ⟨a0, len0, cap0, rfl⟩ := okWide_slice Try.underlying22 (hval 0 22 v0 rfl rfl)
  have k0 := h0
  have lt0 : ∀ x ∈ p0, x.block < W.heap.size := by obtain ⟨m, hm⟩ := k0; exact DataW.trod_lt m _ _ _ hm
  obtain ⟨z0, w0⟩ : ∃ zs, IsRow .u8 W a0 len0 cap0 zs := by
    obtain ⟨fuel, hf⟩ := h0
    rcases open_ints Try.underlying22 Try.underlying5 (by kernel_rfl) hf with ⟨hcs, _⟩ | ⟨x, l, c, zs, hcs, _, hl, hm, hz, _, hcell, hwz⟩
    · simp [Value.cells] at hcs
      obtain ⟨rfl, rfl, rfl⟩ := hcs
      exact ⟨[], .inl ⟨rfl, rfl, rfl, rfl⟩⟩
    · simp [Value.cells] at hcs
      obtain ⟨rfl, rfl, rfl⟩ := hcs
      exact ⟨zs, .inr ⟨_, rfl, hl, hm, by simpa using hz, hcell, hwz⟩⟩
  obtain ⟨a1, rfl, rfl, rfl, w1⟩ := open_int Try.underlying3 (hval 1 3 v1 rfl rfl) h1
  obtain ⟨a2, rfl, rfl, rfl, w2⟩ := open_int Try.underlying3 (hval 2 3 v2 rfl rfl) h2
  clear hA0 hval0
  refine (walk a0 len0 cap0 z0 a1 a2 W w0 w1 w2).mono fun e W' ⟨he, bel⟩ => ?_
  subst he
  exact ⟨_, rfl, _, _, _, [], _, [], hW', trodAll_mk1 (shut_bool Try.underlying4 _), (trodAll_cons_mk (Below.trod laidOut (by kernel_rfl) (of_decide_eq_true (by kernel_rfl)) k0 bel lt0) (trodAll_cons_mk (shut_int Try.underlying3 w1) (trodAll_cons_mk (shut_int Try.underlying3 w2) trodAll_mk0))), rfl, bel.frame _, fun h => by cases h⟩

theorem over : Rows.codeGetsRow.holds Try.pinned (OpenSpec.ofChange Rows.codeGetsSpec) :=
  OpenClaim.holds_of_wide 4 Try.f4 rfl rfl rfl rfl rfl rfl rfl ⟨rfl, rfl, rfl, rfl, rfl⟩ rfl rfl rfl rfl rfl (by kernel_rfl) Try.func4 (by kernel_rfl)
    (of_decide_eq_true (by kernel_rfl)) (by unfold Func.isWrapper; first | (rw [if_pos (by decide +kernel)]; kernel_rfl) | (rw [if_neg (by decide +kernel)]; exact ⟨rfl, rfl⟩))
    (fun os started H enc _ => lifted os started H enc)

/-- ████ THE STATEMENT ████ -/
theorem proved : Rows.CodeGetsSaid := over
#print axioms proved
end Go.Proofs.Ytifjgdhhfhfecaa.codeGets
