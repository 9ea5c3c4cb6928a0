/-
Proved here: LimboScript, for every list of acts: each call of a bag answers as the document says.
  Conditions: none.
-/
import Derived.Test.YtfonjkbdonbjdaaRows
import Derived.Test.YtfonjkbdonbjdaaAct10
import Derived.Test.YtfonjkbdonbjdaaAwake10
import Derived.IntWalk
import Derived.WalkSmall
import Derived.Deep.QuietTactic
import Derived.BigQuiet
import Derived.WalkKit
import Derived.ProofKit
import Derived.OpenShut
import Derived.ShutString
import Derived.ChangeOld
import Derived.Below
namespace Go.Proofs.Ytfonjkbdonbjdaa.limboScript
open Go.ChangeShapes Go.WideShapes Go.ChangeAt Go.RowKit
open Go.ChangeMaps (open_string shut_string)
set_option linter.unusedVariables false

theorem own : ownKnob Try.prog.godebug = none := by kernel_rfl
theorem laidOut : laidOutB Try.prog = true := by kernel_rfl

set_option maxRecDepth 100000 in
set_option maxHeartbeats 1600000 in
theorem many (a0 : Option Addr) (len0 cap0 : Nat) (w : World) (hl : 120 < len0) (hlen : len0 ≤ 2 ^ 63 - 1) :
    Calls Try.prog 3 #[.slice a0 len0 cap0] w fun e w' => e = .returned (.bool true) ∧ Below w.heap.size w w' := by
  have h1 : (120 : Int) < (len0 : Int) := by omega
  have HAW := Lib.hid (awake_any w)
  clear hl
  go_enter Try.func3, Try.ntmps3
  go_wp2_with fail
  refine HAW.out.mono ?_
  rintro e w' ⟨rfl, hb⟩
  have HB := Lib.hid hb
  clear hb
  go_wp2
  go_ret
  exact ⟨rfl, HB.out⟩
theorem stepN_le (x : ActP) (n : Nat) : stepN x n ≤ n + 1 := by unfold stepN; split <;> omega
set_option maxRecDepth 100000 in
set_option maxHeartbeats 8000000 in
theorem scripted (a0 : Option Addr) (len0 cap0 : Nat) (z0 : List ActP) (w : World) (w1 : IsActs w a0 len0 z0) (hl : len0 ≤ 120) :
    Calls Try.prog 3 #[.slice a0 len0 cap0] w fun e w' => e = .returned (.bool true) ∧ Below w.heap.size w w' := by
  have h1 : ¬ (120 : Int) < (len0 : Int) := by omega
  have HN := Lib.hid (bgnew_any w)
  have HR4 := Lib.hid (fun w1 => rdnew_ok 4 (by omega) (by omega) w1)
  unfold MadeRd at HR4
  have HV4 := Lib.hid (fun w1 => r8new_ok 4 (by omega) (by omega) w1)
  unfold MadeR8 at HV4
  have HA := Lib.hid w1
  have HZ := Lib.hid zero_entry
  have HAW := Lib.hid (fun w1 => awake_any w1)
  have hl1 : len0 ≤ 120 := hl
  obtain ⟨g, hg⟩ : ∃ g, w.heap.size = g := ⟨_, rfl⟩
  have HG := Lib.hid hg
  rw [hg] at HN ⊢
  clear w1 hl
  go_enter Try.func3, Try.ntmps3
  go_wp2_with fail
  refine HN.out.mono ?_
  rintro e v1 ⟨rfl, hb1, hl1'⟩
  have HB1 := Lib.hid hb1
  have HL1 := Lib.hid hl1'
  have hrb := rb_new v1 g
  obtain ⟨v2, hv2⟩ : ∃ v2, v1.alloc (.cells #[.slice none 0 0] 29) = v2 := ⟨_, rfl⟩
  have hbl2 : Below v1.heap.size v1 v2 := by rw [← hv2]; exact (Below.refl _ _).alloc (Nat.le_refl _) _
  rw [hv2] at hrb
  obtain ⟨r, hr⟩ : ∃ r, v1.heap.size = r := ⟨_, rfl⟩
  have HRB := Lib.hid hrb
  have HBL2 := Lib.hid hbl2
  have HR := Lib.hid hr
  clear hb1 hl1' hrb hbl2
  go_wp2_with fail
  refine (HR4.out v2).mono ?_
  rintro e v3 ⟨a, b, rfl, ha, hb, hrd, hb3⟩
  have HA3 := Lib.hid ha
  have HB3 := Lib.hid hb
  have HRD := Lib.hid hrd
  have HBL3 := Lib.hid hb3
  clear ha hb hrd hb3
  go_wp2_with fail
  refine (HV4.out v3).mono ?_
  rintro e v4 ⟨c, d, rfl, hc, hd, hrr, hb4⟩
  have HFO := Lib.hid (fo_new HG.out HB1.out (Nat.le_refl _) HL1.out (Nat.le_refl _) HRB.out HBL2.out HA3.out HB3.out HRD.out HBL3.out hc hd hrr hb4)
  rw [HR.out] at HFO
  clear hc hd hrr hb4
  go_wp2
  clear hv2 hr hg
  go_loopg [9] len0 (fun gk s9 wx => ∃ (i q s n : Nat) (L : List En) (R : List Nat), i + gk = len0 ∧ s9 = .int .i64 i ∧ Hid (n ≤ 1 + i) ∧ Hid (Fo w g wx g q r s a b c d L L R n R n))
  case atStart => exact ⟨0, g, r, 1, [], _, by omega, rfl, Nat.le_refl _, HFO⟩
  case round =>
    obtain ⟨i, q, s, n, L, R, hin, rfl, HNL, HF⟩ := hrel
    cases gk with
    | zero =>
      obtain rfl : i = len0 := by omega
      have hii : ¬ (i : Int) < (i : Int) := by omega
      have HRY : Hid (Calls Try.prog 17 #[.pointer (some ⟨g, 0, none⟩), .pointer none, .int .u64 9223372036854775808] wr fun y w' => y = .returned (.tuple #[.agg #[.int .i64 0, .int .i64 0, .int .u64 0, .int .u64 0, .int .i64 0], .bool false]) ∧ Below wr.heap.size wr w') := ready_says (first_nilr wr g 9223372036854775808)
      go_wp2_with fail
      refine HRY.out.mono ?_
      rintro e w2 ⟨rfl, hb2⟩
      have HF2 := Lib.hid (HF.out.below hb2)
      obtain ⟨g2, hg2⟩ : ∃ g2, w2.heap.size = g2 := ⟨_, rfl⟩
      have HG2 := Lib.hid hg2
      clear hb2 hg2
      go_wp2_with (first
        | ((with_reducible show wpList _ _ _ (⟨some 11, .alloc _, _, _, _, _⟩ :: _) _ _); refine wpList_alloc_var (o := ⟨some 11, _, _, _, _, _⟩) rfl 40 rfl g2 HG2.out _ HZ.out ?_; intro w3 H3 X3)
        | ((with_reducible show wpList _ _ _ (⟨none, .store _ (.tmp 11) _, _, _, _, _⟩ :: _) _ _); refine wpList_store_whole (o := ⟨none, .store 40 (.tmp 11) (.tmp 74), _, _, _, _⟩) rfl _ _ _ rfl rfl g2 #[.int .i64 0, .int .i64 0, .int .u64 0, .int .u64 0, .int .i64 0] rfl rfl 40 _ H3.out size_entry rfl (ones5 _ _ _ _ _) ?_; intro w4 H4 X4; have HF4 := Lib.hid (HF2.out.below (HG2.out.symm ▸ X3.out.trans X4.out)))
        | fail)
      have HF4d : Hid (Fo w g w4.drew g q r s a b c d L L R n R n) := HF4.out.drewN 1
      have HAL := Lib.hid (bgall_any HF4d.out.bg)
      unfold RowToE at HAL
      obtain ⟨A2, cap2, _, _, hrd⟩ := HF4d.out.rb.reads
      have HRD2 := Lib.hid hrd
      have hc4 := (hrd _ (Below.refl _ _)).1
      have hlen := HF4.out.bg.most
      clear hrd
      go_region_with (first
        | (go_at_call 13; refine HAL.out.mono ?_; rintro e w5 ⟨V, rfl, ho5, hb5⟩; obtain ⟨_, A1, cap1, rfl, _, hr5, _⟩ := rowE_of_own ho5 (by omega); have HR5 := Lib.hid hr5; have HB5 := Lib.hid hb5; have hc5 := (HRD2.out w5 hb5).1; clear ho5 hr5 hb5)
        | (go_at_call 14; refine (samee_any _ _ _ _ _ _ L rfl HR5.out (HRD2.out w5 HB5.out).2).mono ?_; rintro e w6 ⟨rfl, k6, rfl⟩)
        | (go_at_call 8; refine (HAW.out _).mono ?_; rintro e w7 ⟨rfl, hb7⟩; have HB7 : Hid (Below g w w7) := (HF4d.out.bel.trans (HB5.out.mono HF4d.out.gw)).trans ((below_drewN (Below.refl g w5) k6).trans (hb7.mono (Nat.le_trans HF4d.out.gw HB5.out.size))); clear hb7))
      all_goals
        go_wp2
        go_ret
        exact ⟨rfl, HB7.out⟩
    | succ gk =>
      have hii : (i : Int) < (len0 : Int) := by omega
      obtain ⟨x, b0, off, hx, rfl, _, c0, c1, c2, c3, c4, c5, c6, c7⟩ := (HA.out.below (HG.out.symm ▸ HF.out.bel)).at_ (i := i) (by omega)
      have HAC := Lib.hid (act_any HF.out (by have := HNL.out; omega) x)
      have hnn : stepN x n ≤ 1 + (i + 1) := by have := stepN_le x n; have := HNL.out; omega
      have HNN := Lib.hid hnn
      generalize stepL x R L = L' at *
      generalize stepR x R n = R' at *
      generalize stepN x n = n' at *
      clear hx hnn
      go_wp2_with fail
      refine HAC.out.mono ?_
      rintro e w2 ⟨rfl, q2, s2, hf2⟩
      have HF2 := Lib.hid hf2
      have HAL := Lib.hid (bgall_any hf2.bg)
      unfold RowToE at HAL
      have hlen := hf2.bg.most
      clear hf2
      go_wp2_with fail
      refine HAL.out.mono ?_
      rintro e w3 ⟨V, rfl, ho3, hb3⟩
      obtain ⟨_, A1, cap1, rfl, _, hr3, _⟩ := rowE_of_own ho3 (by omega)
      have HO3 := Lib.hid ho3
      have HB3 := Lib.hid hb3
      have HF3 := Lib.hid (HF2.out.below hb3)
      obtain ⟨A2, cap2, _, _, hrd⟩ := HF3.out.rb.reads
      have hc3 := (hrd w3 (Below.refl _ _)).1
      have HSM : Hid (∀ k, Calls Try.prog 14 #[.slice A1 L'.length cap1, .slice A2 L'.length cap2] (w3.drewN k) fun e w' => e = .returned (.bool true) ∧ ∃ m, w' = w3.drewN m) := fun k => (samee_any _ _ _ _ _ _ L' rfl (hr3.below (below_drewN (Below.refl _ _) k)) (hrd _ (below_drewN (Below.refl _ _) k)).2).mono fun _ _ hh => by
        obtain ⟨h1, m, h2⟩ := hh
        exact ⟨h1, k + m, by rw [h2]; simp [World.drewN, Nat.add_assoc]⟩
      have HLN : Hid (∀ k, Calls Try.prog 15 #[.pointer (some ⟨g, 0, none⟩)] (w3.drewN k) fun e w' => e = .returned (.int .i64 (L'.length : Nat)) ∧ ∃ m, w' = w3.drewN m) := fun k => (bglen_any (HF3.out.drewN k).bg).mono fun _ _ hh => ⟨hh.1, k, hh.2.symm⟩
      have hnn : ((L'.length : Int) != (L'.length : Int)) = false := by simp
      clear hrd hr3 ho3 hb3
      go_wp2
      go_quiet (first
        | (go_at_call 14; exact HSM.out _)
        | (go_at_call 15; exact HLN.out _))
      have HOV := Lib.hid (overe_sp (w3.drewN nq) w2.heap.size L'.length (.slice A1 L'.length cap1) L' rfl (by omega) (own_keep (w := w3) HO3.out (below_drewN (Below.refl _ _) nq)) HB3.out.size)
      go_wp2_with fail
      refine HOV.out.mono ?_
      rintro e w5 ⟨rfl, hb5⟩
      have HF5 := Lib.hid (HF2.out.below (HB3.out.trans ((below_drewN (Below.refl w2.heap.size w3) nq).trans hb5)))
      clear hb5
      go_wp2
      go_roundg gk
      case measure => omega
      case rel => exact ⟨i + 1, q2, s2, n', L', R', by omega, by go_num, HNN, HF5⟩
theorem walk (a0 : Option Addr) (len0 cap0 : Nat) (z0 : List ActP) (w : World) (w0 : IsActs w a0 len0 z0) :
    Calls Try.prog 3 #[.slice a0 len0 cap0] w fun e w' => e = .returned (.bool true) ∧ Below w.heap.size w w' := by
  rcases Nat.lt_or_ge 120 len0 with h | h
  · exact many a0 len0 cap0 w h (by have := w0.2.1; unfold maxLen at this; omega)
  · exact scripted a0 len0 cap0 z0 w w0 h

set_option maxRecDepth 100000 in
theorem lifted (os : Os) (started : os.Started) (H : Type) (enc : TypeId × Value → H) :
    ReturnsInHanded {} Try.checked os 3 .any (Rows.limboScriptSpec.pre6 enc Try.prog Try.f3 Rows.limboScriptRow.domain false) (Rows.limboScriptSpec.post enc Try.prog Try.f3 false true false false) := by
  refine returnsInHanded_of_change (C := Try.checked) own started (by kernel_rfl) Try.func3
    (ChangeSpec.witness6 (enc := enc) (C := Try.checked) false ⟨#[], #[.slice none 0 0], []⟩ 8 (by kernel_rfl) (by kernel_rfl) (by kernel_rfl) (by kernel_rfl)) ?_
  intro W base args ds gs before hval0 hW hcnd _
  have hval : ∀ (j : Nat) t v, Try.f3.params[j]? = some t → args[j]? = some v → Value.okWide Try.prog W .any base t v := hval0
  have hW' := hW
  obtain ⟨p, q, hA0, hV, rfl, hfz, hnd⟩ := hW
  have hA : DataW.TrodAll enc Try.prog W 0 (fun _ => true) true Try.f3.params.toList args.toList ds p := hA0
  rw [Try.params3] at hA hval
  obtain ⟨v0, vs0, d0, ds0, p0, q0, hargs, rfl, rfl, h0, r0⟩ := trodAll_cons hA
  obtain ⟨rfl, rfl, rfl⟩ := trodAll_nil r0
  obtain rfl : args = #[v0] := by cases args; simp_all
  obtain ⟨rfl, rfl⟩ := trodVars_none hV
  obtain ⟨a0, len0, cap0, rfl⟩ := okWide_slice Try.underlying22 (hval 0 22 v0 rfl rfl)
  have k0 := h0
  have lt0 : ∀ x ∈ p0, x.block < W.heap.size := by obtain ⟨m, hm⟩ := k0; exact DataW.trod_lt m _ _ _ hm
  obtain ⟨z0, w0⟩ : ∃ zs, IsActs W a0 len0 zs := by
    obtain ⟨fuel, hf⟩ := h0
    exact isActs_of hf
  clear hA0 hval0
  refine (walk a0 len0 cap0 z0 W w0).mono fun e W' ⟨he, bel⟩ => ?_
  subst he
  exact ⟨_, rfl, _, _, _, [], _, [], hW', trodAll_mk1 (shut_bool Try.underlying4 _), (trodAll_cons_mk (Below.trod laidOut (by kernel_rfl) (of_decide_eq_true (by kernel_rfl)) k0 bel lt0) trodAll_mk0), rfl, bel.frame _, fun h => by cases h⟩

theorem over : Rows.limboScriptRow.holds Try.pinned (OpenSpec.ofChange Rows.limboScriptSpec) :=
  OpenClaim.holds_of_wide 3 Try.f3 rfl rfl rfl rfl rfl rfl rfl ⟨rfl, rfl, rfl, rfl, rfl⟩ rfl rfl rfl rfl rfl (by kernel_rfl) Try.func3 (by kernel_rfl)
    (of_decide_eq_true (by kernel_rfl)) (by unfold Func.isWrapper; first | (rw [if_pos (by decide +kernel)]; kernel_rfl) | (rw [if_neg (by decide +kernel)]; exact ⟨rfl, rfl⟩))
    (fun os started H enc _ => lifted os started H enc)

theorem proved : Rows.LimboScriptSaid := over
#print axioms proved
end Go.Proofs.Ytfonjkbdonbjdaa.limboScript
