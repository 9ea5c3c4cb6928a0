/-
  Proved here: for every row of bytes and every number the law SumTells returns true, and the row reads as it did: Sum, Text and Add answer as the chapter says (rows of over 4,096 bytes: the law asks the chapter's example alone).
  Conditions: none beyond the given statement's.
-/
import Derived.Test.YtijfehafimkagaaRows
import Derived.Test.YtijfehafimkagaaRef
import Derived.WalkKit
import Derived.ProofKit
import Derived.OpenShut
import Derived.ShutString
import Derived.ChangeOld
import Derived.Below
namespace Go.Proofs.Ytijfehafimkagaa.sumTells
open Go.ChangeShapes Go.WideShapes Go.ChangeAt Go.RowKit
open Go.ChangeMaps (open_string shut_string)
set_option linter.unusedVariables false

theorem own : ownKnob Try.prog.godebug = none := by kernel_rfl
theorem laidOut : laidOutB Try.prog = true := by kernel_rfl

set_option maxHeartbeats 800000 in
theorem short (A : Option Addr) (n c1 : Nat) (l : List UInt8) (c : Nat) (hc : c < 4294967296) (w : World) (hl : l.length = n) (hr : Row w A l) (hc1 : A = none → c1 = 0) (h1 : n ≤ 4096) :
    Calls Try.prog 3 #[.slice A n c1, .int .u32 c] w fun e w' => e = .returned (.bool true) ∧ Below w.heap.size w w' := by
  have HLEND := Lib.hid (lend_any w A n c1 l hl hr hc1)
  have HL := Lib.hid hl
  have HR := Lib.hid hr
  have hn4 : ¬ (4096 : Int) < (n : Int) := by omega
  obtain ⟨R, hR⟩ : ∃ R, addS 0 l = R := ⟨_, rfl⟩
  obtain ⟨Q, hQ⟩ : ∃ Q, addS c l = Q := ⟨_, rfl⟩
  have HE := Lib.hid (And.intro hR hQ)
  have hRR : ((R : Int) == (R : Int)) = true := by simp
  have hQQ : ((Q : Int) == (Q : Int)) = true := by simp
  clear hl hr hc1 hR hQ
  go_enter Try.func3, Try.ntmps3
  go_wp2_with fail
  refine HLEND.out.mono ?_
  rintro e w1 ⟨g, rfl, hg, hlent, hb1⟩
  have hrow1 := Lent.row hlent (by have := HL.out; omega)
  have HS1 := sum_any (some ⟨g, 0, none⟩) n (n + 5) l HL.out w1 hrow1
  have HS2 := rsum_any w1 A n c1 l HL.out (HR.out.below hb1)
  rw [HE.out.1] at HS1 HS2
  have H1 := Lib.hid HS1
  have H2 := Lib.hid HS2
  have HLE := Lib.hid hlent
  have HB1 := Lib.hid hb1
  have HRW := Lib.hid hrow1
  clear HS1 HS2 hlent hb1 hrow1
  go_wp2_with fail
  refine H1.out.mono ?_
  rintro e w' ⟨rfl, rfl⟩
  go_wp2_with fail
  refine H2.out.mono ?_
  rintro e w' ⟨rfl, rfl⟩
  have hcv := run_conv w1 A n c1 l HL.out (HR.out.below HB1.out)
  have HT := text_any ⟨l.toArray⟩ (by have := HL.out; simp only [ByteArray.size, List.size_toArray]; omega) w1
  rw [show (⟨l.toArray⟩ : ByteArray).data.toList = l by simp, HE.out.1] at HT
  obtain ⟨S, hS⟩ : ∃ S : ByteArray, (⟨l.toArray⟩ : ByteArray) = S := ⟨_, rfl⟩
  rw [hS] at hcv HT
  have HTT := Lib.hid HT
  clear HT hS
  go_wp2_with fail
  refine HTT.out.mono ?_
  rintro e w2 ⟨rfl, hb2⟩
  have hb12 : Below w.heap.size w w2 := HB1.out.trans (hb2.mono HB1.out.size)
  have hrA := HR.out.below hb12
  have hrw2 := HRW.out.below hb2
  have hle2 : Lent w2 g l := Blk.below HLE.out hb2 (Blk.lt HLE.out)
  have HS3 := rsum_any w2 A n c1 l HL.out hrA
  have HS4 := add_any c hc (some ⟨g, 0, none⟩) n (n + 5) l HL.out w2 hrw2
  have HS5 := radd_any c hc A n c1 l HL.out w2 hrA
  have HS6 := kept_any w2 g A n c1 l HL.out (by omega) hle2 hrA
  rw [HE.out.1] at HS3
  rw [HE.out.2] at HS4 HS5
  have H3 := Lib.hid HS3
  have H4 := Lib.hid HS4
  have H5 := Lib.hid HS5
  have H6 := Lib.hid HS6
  have HB := Lib.hid hb12
  clear HS3 HS4 HS5 HS6 hb12 hrA hrw2 hle2 hb2 hcv
  go_wp2_with fail
  refine H3.out.mono ?_
  rintro e w' ⟨rfl, rfl⟩
  go_wp2_with fail
  refine H4.out.mono ?_
  rintro e w' ⟨rfl, rfl⟩
  go_wp2_with fail
  refine H5.out.mono ?_
  rintro e w' ⟨rfl, rfl⟩
  go_wp2_with fail
  refine H6.out.mono ?_
  rintro e w' ⟨rfl, rfl⟩
  go_wp2_with fail
  refine (awake_any _).mono ?_
  rintro e w3 ⟨rfl, hb3⟩
  go_wp2
  go_ret
  exact ⟨rfl, HB.out.trans (hb3.mono HB.out.size)⟩

theorem walk (a0 : Option Addr) (len0 cap0 : Nat) (z0 : List Int) (a1 : Int) (w : World) (w0 : IsRow .u8 w a0 len0 cap0 z0) (w1 : (Lit.int .u32 a1).wf = true) :
    Calls Try.prog 3 #[.slice a0 len0 cap0, .int .u32 a1] w fun e w' => e = .returned (.bool true) ∧ Below w.heap.size w w' := by
  rcases Nat.lt_or_ge 4096 len0 with h0 | h0
  · have hl : (4096 : Int) < (len0 : Int) := by omega
    clear h0 w0 w1
    go_enter Try.func3, Try.ntmps3
    go_wp2_with fail
    refine (awake_any _).mono ?_
    rintro e w' ⟨rfl, hb⟩
    go_wp2
    go_ret
    exact ⟨rfl, hb⟩
  · obtain ⟨l0, e0, r0, c0⟩ := w0.row (by omega)
    have hb := bounds_u32 w1
    obtain ⟨c, rfl⟩ : ∃ c : Nat, a1 = (c : Int) := ⟨a1.toNat, by omega⟩
    exact short a0 len0 cap0 l0 c (by omega) w e0 r0 c0 h0

/-! ### THE ROW's STEP: WRITTEN OUT: LEAVE IT -/
set_option maxRecDepth 100000 in
theorem lifted (os : Os) (started : os.Started) (H : Type) (enc : TypeId × Value → H) :
    ReturnsInHanded {} Try.checked os 3 .any (Rows.sumTellsSpec.pre6 enc Try.prog Try.f3 Rows.sumTellsRow.domain false) (Rows.sumTellsSpec.post enc Try.prog Try.f3 false true false false) := by
  refine returnsInHanded_of_change (C := Try.checked) own started (by kernel_rfl) Try.func3
    (ChangeSpec.witness6 (enc := enc) (C := Try.checked) false ⟨#[], #[.slice none 0 0, .int .u32 0], []⟩ 8 (by kernel_rfl) (by kernel_rfl) (by kernel_rfl) (by kernel_rfl)) ?_
  intro W base args ds gs before hval0 hW hcnd _
  have hval : ∀ (j : Nat) t v, Try.f3.params[j]? = some t → args[j]? = some v → Value.okWide Try.prog W .any base t v := hval0
  have hW' := hW
  obtain ⟨p, q, hA0, hV, rfl, hfz, hnd⟩ := hW
  have hA : DataW.TrodAll enc Try.prog W 0 (fun _ => true) true Try.f3.params.toList args.toList ds p := hA0
  rw [Try.params3] at hA hval
  obtain ⟨v0, vs0, d0, ds0, p0, q0, hargs, rfl, rfl, h0, r0⟩ := trodAll_cons hA
  obtain ⟨v1, vs1, d1, ds1, p1, q1, rfl, rfl, rfl, h1, r1⟩ := trodAll_cons r0
  obtain ⟨rfl, rfl, rfl⟩ := trodAll_nil r1
  obtain rfl : args = #[v0, v1] := by cases args; simp_all
  obtain ⟨rfl, rfl⟩ := trodVars_none hV
  obtain ⟨a0, len0, cap0, rfl⟩ := okWide_slice Try.underlying22 (hval 0 22 v0 rfl rfl)
  have k0 := h0
  have lt0 : ∀ x ∈ p0, x.block < W.heap.size := by obtain ⟨m, hm⟩ := k0; exact DataW.trod_lt m _ _ _ hm
  obtain ⟨z0, w0⟩ : ∃ zs, IsRow .u8 W a0 len0 cap0 zs := by
    obtain ⟨fuel, hf⟩ := h0
    rcases open_ints Try.underlying22 Try.underlying5 (by kernel_rfl) hf with ⟨hcs, _⟩ | ⟨x, l, c, zs, hcs, _, hl, hm, hz, _, hcell, hwz⟩
    · simp [Value.cells] at hcs
      obtain ⟨rfl, rfl, rfl⟩ := hcs
      exact ⟨[], .inl ⟨rfl, rfl, rfl, rfl⟩⟩
    · simp [Value.cells] at hcs
      obtain ⟨rfl, rfl, rfl⟩ := hcs
      exact ⟨zs, .inr ⟨_, rfl, hl, hm, by simpa using hz, hcell, hwz⟩⟩
  obtain ⟨a1, rfl, rfl, rfl, w1⟩ := open_int Try.underlying23 (hval 1 23 v1 rfl rfl) h1
  clear hA0 hval0
  refine (walk a0 len0 cap0 z0 a1 W w0 w1).mono fun e W' ⟨he, bel⟩ => ?_
  subst he
  exact ⟨_, rfl, _, _, _, [], _, [], hW', trodAll_mk1 (shut_bool Try.underlying4 _), (trodAll_cons_mk (Below.trod laidOut (by kernel_rfl) (of_decide_eq_true (by kernel_rfl)) k0 bel lt0) (trodAll_cons_mk (shut_int Try.underlying23 w1) trodAll_mk0)), rfl, bel.frame _, fun h => by cases h⟩

theorem over : Rows.sumTellsRow.holds Try.pinned (OpenSpec.ofChange Rows.sumTellsSpec) :=
  OpenClaim.holds_of_wide 3 Try.f3 rfl rfl rfl rfl rfl rfl rfl ⟨rfl, rfl, rfl, rfl, rfl⟩ rfl rfl rfl rfl rfl (by kernel_rfl) Try.func3 (by kernel_rfl)
    (of_decide_eq_true (by kernel_rfl)) (by unfold Func.isWrapper; first | (rw [if_pos (by decide +kernel)]; kernel_rfl) | (rw [if_neg (by decide +kernel)]; exact ⟨rfl, rfl⟩))
    (fun os started H enc _ => lifted os started H enc)

/-- ████ THE STATEMENT ████ -/
theorem proved : Rows.SumTellsSaid := over
#print axioms proved
end Go.Proofs.Ytijfehafimkagaa.sumTells
