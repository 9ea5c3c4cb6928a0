/-
  Proved here: PallocApart, the full form.
  Conditions: none.
-/
import Derived.Test.YtjebpggoajfjkaaRows
import Derived.Test.YtjebpggoajfjkaaPoolQ
import Derived.IntWalk
import Derived.WalkSmall
import Derived.Deep.QuietTactic
import Derived.BigQuiet
import Derived.WalkKit
import Derived.ProofKit
import Derived.OpenShut
import Derived.ShutString
import Derived.ChangeOld
import Derived.Below
namespace Go.Proofs.Ytjebpggoajfjkaa.pallocApart
open Go.ChangeShapes Go.WideShapes Go.ChangeAt Go.RowKit
open Go.ChangeMaps (open_string shut_string)
set_option linter.unusedVariables false

theorem own : ownKnob Try.prog.godebug = none := by kernel_rfl
theorem laidOut : laidOutB Try.prog = true := by kernel_rfl

set_option maxRecDepth 100000 in
set_option maxHeartbeats 4000000 in
theorem walk (a0 : Int) (a1 : Option Addr) (len1 cap1 : Nat) (z1 : List ActP) (w : World) (w0 : (Lit.int .i64 a0).wf = true) (w1 : IsActs w a1 len1 z1) :
    Calls Try.prog 4 #[.int .i64 a0, .slice a1 len1 cap1] w fun e w' => e = .returned (.bool true) ∧ Below w.heap.size w w' := by
  have hlen := w1.2.1
  unfold maxLen at hlen
  rcases Nat.lt_or_ge 60 len1 with hl | hl
  · have h1 : (60 : Int) < (len1 : Int) := by omega
    have HAW := Lib.hid (awake_any w)
    clear w0 w1 hl
    go_enter Try.func4, Try.ntmps4
    go_wp2_with fail
    refine HAW.out.mono ?_
    rintro e w' ⟨rfl, hb⟩
    have HB := Lib.hid hb
    clear hb
    go_wp2
    go_ret
    exact ⟨rfl, HB.out⟩
  · have h1 : ¬ (60 : Int) < (len1 : Int) := by omega
    have HPD := Lib.hid (played_any w a0 a1 len1 cap1 z1 w1)
    unfold PlayedTo at HPD
    generalize playedL (1 + low a0 32) z1 = L at *
    generalize 1 + low a0 32 = n at *
    have HGG : Hid (w.heap.size = w.heap.size) := rfl
    obtain ⟨g, hg⟩ : ∃ g, w.heap.size = g := ⟨_, rfl⟩
    rw [hg] at HPD ⊢
    have HG := Lib.hid hg
    clear w0 w1 hl hg HGG
    go_enter Try.func4, Try.ntmps4
    go_wp2_with fail
    refine HPD.out.mono ?_
    rintro e v1 ⟨p, q, rfl, hp, hq, hpl, hb⟩
    have HP := Lib.hid hp
    have HQ := Lib.hid hq
    have hn1 := hpl.one
    have hn2 := hpl.most
    have HP1 := Lib.hid hpl
    have HPO := Lib.hid hpl.pool
    have HLL : Hid (L.length ≤ 256) := by have h1 := pool_len hpl.pool; have h2 := hpl.most; show L.length ≤ 256; omega
    have HB := Lib.hid hb
    have HR1 : Hid (Turns p q v1 v1) := Turns.refl _ _ _
    clear hp hq hpl hb
    go_wp2_with fail
    refine (taken_he HP1.out).mono ?_
    rintro e v2 ⟨AT, capT, rfl, hh, hpl, ht⟩
    have HHT2 := Lib.hid hh
    have HP2 := Lib.hid hpl
    have HR2 : Hid (Turns p q v1 v2) := HR1.out.trans ht
    clear hpl ht hh
    go_wp2_with fail
    refine (slabs_he HP2.out).mono ?_
    rintro e v3 ⟨AS, capS, rfl, hh, hpl, ht⟩
    have HHS3 := Lib.hid hh
    have HP3 := Lib.hid hpl
    have HR3 : Hid (Turns p q v1 v3) := HR2.out.trans ht
    have HHT3 := Lib.hid (HHT2.out.turns ht)
    clear hpl ht hh
    clear HP2 HR2 HHT2
    obtain ⟨m, hm⟩ : ∃ m, L.length = m := ⟨_, rfl⟩
    rw [hm]
    have HM := Lib.hid hm
    have hm2 : m ≤ 256 := by have := HLL.out; omega
    clear hm
    go_wp2
    go_loopg [8, 9] m (fun gk s8 s9 wx => ∃ (i k : Nat) (a : Int), i + gk = m ∧ s9 = .int .i64 i ∧ s8 = .int .i64 a ∧ wx = v3.drewN k ∧ Hid (∀ h : i < L.length, a ≤ (L[i]).1))
    case atStart => exact ⟨0, 0, 0, by omega, rfl, rfl, rfl, fun h => (apart_first HPO.out h)⟩
    case round =>
      obtain ⟨i, k, a, hin, rfl, rfl, rfl, HA⟩ := hrel
      cases gk with
      | zero =>
        obtain rfl : i = m := by omega
        have hii : ¬ (i : Int) < (i : Int) := by omega
        have HR4 : Hid (Turns p q v1 (v3.drewN k)) := HR3.out.drewN k
        go_wp2_with fail
        refine (awake_he HG.out HP.out HQ.out HB.out HR4.out).mono ?_
        rintro e w' ⟨rfl, hb⟩
        have HBE := Lib.hid hb
        clear hb
        go_wp2
        go_ret
        exact ⟨rfl, HBE.out⟩
      | succ gk =>
        have hii : (i : Int) < (m : Int) := by omega
        have hil : i < L.length := by have := HM.out; omega
        obtain ⟨b, off, rfl, hc1, hc2⟩ := HHT3.out.at_ hil
        obtain ⟨j, hj, hsl, hcl, hho, hx1, hx2, hsp⟩ := apart_at HPO.out hil
        obtain ⟨b3, o3, rfl, hc3⟩ := HHS3.out.gt (i := j) (by rw [slabsL_len]; omega)
        rw [slabsL_at _ _ _ hj, hcl] at hc3
        have hat : decide (L[i].1 < a) = false := decide_eq_false (by have := HA.out hil; omega)
        have HNX : Hid (∀ h : i + 1 < L.length, L[i].1 + spanN L[i].2 ≤ (L[i + 1]).1) := fun h => apart_next HPO.out hil h
        have HSO := Lib.hid (fun w' => slabof_any L[i].1 w')
        have HHO := Lib.hid (fun w' => home_any L[i].1 L[i].2 w')
        have HSP := Lib.hid (fun w' => span_any L[i].2 w')
        rw [hsl] at HSO
        rw [hho] at HHO
        have hjn : (j : Int) < (n : Int) := by omega
        generalize L[i].1 = x at *
        generalize L[i].2 = y at *
        generalize spanN y = s at *
        have hyy : (y != y) = false := by simp
        have hge : ¬ (n : Int) ≤ (j : Int) := by omega
        have hged : decide ((n : Int) ≤ (j : Int)) = false := decide_eq_false (by omega)
        have hgen : decide (n ≤ j) = false := decide_eq_false (by omega)
        clear hsl hcl hho HA
        go_wp2_with fail
        refine (HSO.out _).mono ?_
        rintro e w' ⟨rfl, rfl⟩
        go_wp2
        go_quiet ((go_at_call 28; exact (HHO.out _).mono fun _ _ hh => ⟨hh.1, _, hh.2.symm⟩))
        rename_i nq1
        go_wp2
        go_quiet ((go_at_call 29; exact (HSP.out _).mono fun _ _ hh => ⟨hh.1, _, hh.2.symm⟩))
        go_wp2
        go_roundg gk
        case measure => omega
        case rel => exact ⟨i + 1, _, x + s, by omega, by go_num, rfl, rfl, HNX⟩

set_option maxRecDepth 100000 in
theorem lifted (os : Os) (started : os.Started) (H : Type) (enc : TypeId × Value → H) :
    ReturnsInHanded {} Try.checked os 4 .any (Rows.pallocApartSpec.pre6 enc Try.prog Try.f4 Rows.pallocApartRow.domain false) (Rows.pallocApartSpec.post enc Try.prog Try.f4 false true false false) := by
  refine returnsInHanded_of_change (C := Try.checked) own started (by kernel_rfl) Try.func4
    (ChangeSpec.witness6 (enc := enc) (C := Try.checked) false ⟨#[], #[.int .i64 0, .slice none 0 0], []⟩ 8 (by kernel_rfl) (by kernel_rfl) (by kernel_rfl) (by kernel_rfl)) ?_
  intro W base args ds gs before hval0 hW hcnd _
  have hval : ∀ (j : Nat) t v, Try.f4.params[j]? = some t → args[j]? = some v → Value.okWide Try.prog W .any base t v := hval0
  have hW' := hW
  obtain ⟨p, q, hA0, hV, rfl, hfz, hnd⟩ := hW
  have hA : DataW.TrodAll enc Try.prog W 0 (fun _ => true) true Try.f4.params.toList args.toList ds p := hA0
  rw [Try.params4] at hA hval
  obtain ⟨v0, vs0, d0, ds0, p0, q0, hargs, rfl, rfl, h0, r0⟩ := trodAll_cons hA
  obtain ⟨v1, vs1, d1, ds1, p1, q1, rfl, rfl, rfl, h1, r1⟩ := trodAll_cons r0
  obtain ⟨rfl, rfl, rfl⟩ := trodAll_nil r1
  obtain rfl : args = #[v0, v1] := by cases args; simp_all
  obtain ⟨rfl, rfl⟩ := trodVars_none hV
  obtain ⟨a0, rfl, rfl, rfl, w0⟩ := open_int Try.underlying3 (hval 0 3 v0 rfl rfl) h0
  obtain ⟨a1, len1, cap1, rfl⟩ := okWide_slice Try.underlying22 (hval 1 22 v1 rfl rfl)
  have k1 := h1
  have lt1 : ∀ x ∈ p1, x.block < W.heap.size := by obtain ⟨m, hm⟩ := k1; exact DataW.trod_lt m _ _ _ hm
  obtain ⟨z1, w1⟩ : ∃ zs, IsActs W a1 len1 zs := by
    obtain ⟨fuel, hf⟩ := h1
    exact isActs_of hf
  clear hA0 hval0
  refine (walk a0 a1 len1 cap1 z1 W w0 w1).mono fun e W' ⟨he, bel⟩ => ?_
  subst he
  exact ⟨_, rfl, _, _, _, [], _, [], hW', trodAll_mk1 (shut_bool Try.underlying4 _), (trodAll_cons_mk (shut_int Try.underlying3 w0) (trodAll_cons_mk (Below.trod laidOut (by kernel_rfl) (of_decide_eq_true (by kernel_rfl)) k1 bel lt1) trodAll_mk0)), rfl, bel.frame _, fun h => by cases h⟩

theorem over : Rows.pallocApartRow.holds Try.pinned (OpenSpec.ofChange Rows.pallocApartSpec) :=
  OpenClaim.holds_of_wide 4 Try.f4 rfl rfl rfl rfl rfl rfl rfl ⟨rfl, rfl, rfl, rfl, rfl⟩ rfl rfl rfl rfl rfl (by kernel_rfl) Try.func4 (by kernel_rfl)
    (of_decide_eq_true (by kernel_rfl)) (by unfold Func.isWrapper; first | (rw [if_pos (by decide +kernel)]; kernel_rfl) | (rw [if_neg (by decide +kernel)]; exact ⟨rfl, rfl⟩))
    (fun os started H enc _ => lifted os started H enc)

theorem proved : Rows.PallocApartSaid := over
#print axioms proved
end Go.Proofs.Ytjebpggoajfjkaa.pallocApart
