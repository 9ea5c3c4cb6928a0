/-
  Proved here: PallocLeast, the full form.
  Conditions: none.
-/
import Derived.Test.YtjebpggoajfjkaaRows
import Derived.Test.YtjebpggoajfjkaaPoolQ
import Derived.IntWalk
import Derived.WalkSmall
import Derived.Deep.QuietTactic
import Derived.BigQuiet
import Derived.WalkKit
import Derived.ProofKit
import Derived.OpenShut
import Derived.ShutString
import Derived.ChangeOld
import Derived.Below
namespace Go.Proofs.Ytjebpggoajfjkaa.pallocLeast
open Go.ChangeShapes Go.WideShapes Go.ChangeAt Go.RowKit
open Go.ChangeMaps (open_string shut_string)
set_option linter.unusedVariables false

theorem own : ownKnob Try.prog.godebug = none := by kernel_rfl
theorem laidOut : laidOutB Try.prog = true := by kernel_rfl

set_option maxRecDepth 100000 in
set_option maxHeartbeats 4000000 in
theorem walk (a0 : Int) (a1 : Option Addr) (len1 cap1 : Nat) (z1 : List ActP) (a2 : Int) (w : World) (w0 : (Lit.int .i64 a0).wf = true) (w1 : IsActs w a1 len1 z1) (w2 : (Lit.int .i64 a2).wf = true) :
    Calls Try.prog 10 #[.int .i64 a0, .slice a1 len1 cap1, .int .i64 a2] w fun e w' => e = .returned (.bool true) ∧ Below w.heap.size w w' := by
  have hlen := w1.2.1
  unfold maxLen at hlen
  rcases Nat.lt_or_ge 60 len1 with hl | hl
  · have h1 : (60 : Int) < (len1 : Int) := by omega
    have HAW := Lib.hid (awake_any w)
    clear w0 w1 w2 hl
    go_enter Try.func10, Try.ntmps10
    go_wp2_with fail
    refine HAW.out.mono ?_
    rintro e w' ⟨rfl, hb⟩
    have HB := Lib.hid hb
    clear hb
    go_wp2
    go_ret
    exact ⟨rfl, HB.out⟩
  · have h1 : ¬ (60 : Int) < (len1 : Int) := by omega
    have HPD := Lib.hid (played_any w a0 a1 len1 cap1 z1 w1)
    unfold PlayedTo at HPD
    generalize playedL (1 + low a0 32) z1 = L at *
    generalize 1 + low a0 32 = n at *
    have HLW : Hid (Calls Try.prog 30 #[.int .i64 a2, .int .i64 4] w fun e w' => e = .returned (.int .i64 (low a2 4 : Nat)) ∧ w = w') := low_any a2 4 w (by omega) (by omega)
    have hc4 := low_lt a2 (n := 4) (by omega)
    generalize low a2 4 = c at *
    have HCC : Hid (0 ≤ (c : Int) ∧ (c : Int) ≤ 3) := ⟨by omega, by omega⟩
    have HGG : Hid (w.heap.size = w.heap.size) := rfl
    obtain ⟨g, hg⟩ : ∃ g, w.heap.size = g := ⟨_, rfl⟩
    rw [hg] at HPD ⊢
    have HG := Lib.hid hg
    clear w0 w1 w2 hl hg HGG
    go_enter Try.func10, Try.ntmps10
    go_wp2_with fail
    refine HLW.out.mono ?_
    rintro e w' ⟨rfl, rfl⟩
    go_wp2_with fail
    refine HPD.out.mono ?_
    rintro e v1 ⟨p, q, rfl, hp, hq, hpl, hb⟩
    have HP := Lib.hid hp
    have HQ := Lib.hid hq
    have hn1 := hpl.one
    have hn2 := hpl.most
    have HP1 := Lib.hid hpl
    have HPO := Lib.hid hpl.pool
    have HLL : Hid (L.length ≤ 256) := by have h1 := pool_len hpl.pool; have h2 := hpl.most; show L.length ≤ 256; omega
    have HB := Lib.hid hb
    have HR1 : Hid (Turns p q v1 v1) := Turns.refl _ _ _
    clear hp hq hpl hb
    have HTK : Hid (∀ w', PlP w' p q n L → Calls Try.prog 15 #[.pointer (some ⟨p, 0, none⟩), .int .i64 c] w' fun e w2 => e = .returned (.tuple #[.int .i64 (takeV n L c), .int .i64 (takeE n L c)]) ∧ PlP w2 p q n (takeL n L c) ∧ Turns p q w' w2) := fun w' h => take_any h c
    go_wp2_with fail
    refine (free_he HP1.out c).mono ?_
    rintro e v2 ⟨AF, capF, rfl, hh, hpl, ht⟩
    have HHF2 := Lib.hid hh
    have HP2 := Lib.hid hpl
    have HR2 : Hid (Turns p q v1 v2) := HR1.out.trans ht
    clear hpl ht hh
    go_wp2_with fail
    refine (slabs_he HP2.out).mono ?_
    rintro e v3 ⟨AS, capS, rfl, hh, hpl, ht⟩
    have HHS3 := Lib.hid hh
    have HP3 := Lib.hid hpl
    have HR3 : Hid (Turns p q v1 v3) := HR2.out.trans ht
    have HHF3 := Lib.hid (HHF2.out.turns ht)
    clear hpl ht hh
    clear HP2 HR2 HHF2
    rcases Classical.em (0 ≤ nextL n L c) with hx | hx
    · have hE : takeE n L c = 0 := by unfold takeE; rw [if_pos HCC.out, if_pos hx]
      have hV : takeV n L c = nextL n L c := by unfold takeV; rw [if_pos ⟨HCC.out, hx⟩]
      rw [hE, hV] at HTK
      have HWH := Lib.hid (next_first (c := c) hn2 hx)
      have HFR := Lib.hid (free_rising n L c)
      have HFH := Lib.hid (next_head (n := n) (L := L) (c := c))
      have HLN : Hid ((freeL n L c).length ≤ 256) := by have := freeL_le n L c; show (freeL n L c).length ≤ 256; omega
      clear hE hV hx
      generalize takeL n L c = M at *
      generalize nextL n L c = x at *
      generalize freeL n L c = fl at *
      obtain ⟨m, hm⟩ : ∃ m, fl.length = m := ⟨_, rfl⟩
      rw [hm]
      have HM := Lib.hid hm
      have hm2 : m ≤ 256 := by have := HLN.out; omega
      clear hm
      go_wp2_with fail
      refine (HTK.out _ HP3.out).mono ?_
      rintro e v4 ⟨rfl, hpl, ht⟩
      have HP4 := Lib.hid hpl
      have HR4 : Hid (Turns p q v1 v4) := HR3.out.trans ht
      have HHF4 := Lib.hid (HHF3.out.turns ht)
      have HHS4 := Lib.hid (HHS3.out.turns ht)
      clear hpl ht
      clear HP3 HR3 HHF3 HHS3
      go_wp2
      go_loopg [12] m (fun gk s12 wx => ∃ i k : Nat, i + gk = m ∧ s12 = .int .i64 i ∧ wx = v4.drewN k)
      case atStart => exact ⟨0, 0, by omega, rfl, rfl⟩
      case round =>
        obtain ⟨i, k, hin, rfl, rfl⟩ := hrel
        have HHSr := Lib.hid (HHS4.out.turns ((Turns.refl p q v4).drewN k))
        have HP5 := Lib.hid (HP4.out.drewN k)
        have HR5 : Hid (Turns p q v1 (v4.drewN k)) := HR4.out.drewN k
        cases gk with
        | zero =>
          obtain rfl : i = m := by omega
          have hii : ¬ (i : Int) < (i : Int) := by omega
          rcases Nat.eq_zero_or_pos i with h0 | h0
          · subst h0
            obtain ⟨j, hj, e, hcl, hbf⟩ := HWH.out (List.eq_nil_of_length_eq_zero HM.out)
            have HX := Lib.hid e
            have HCL := Lib.hid hcl
            have HBF := Lib.hid hbf
            have HSA : Hid (∀ (l : Nat) (hl : l < n), (slabsL n L)[l]'(by rw [slabsL_len]; exact hl) = clsAt L l) := fun l hl => by rw [← getD_in, slabsL_at _ _ _ hl]
            clear e hcl hbf
            go_wp2
            go_loopg [13] j (fun gk s13 wx => ∃ l : Nat, l + gk = j ∧ s13 = .int .i64 l ∧ wx = v4.drewN k)
            case atStart => exact ⟨0, by omega, rfl, rfl⟩
            case round =>
              obtain ⟨l, hlj, rfl, rfl⟩ := hrel
              have hll : (l : Int) < (n : Int) := by omega
              obtain ⟨b, off, rfl, hcell⟩ := HHSr.out.at_ (i := l) (by rw [slabsL_len]; omega)
              rw [HSA.out l (by omega)] at hcell
              cases gk with
              | zero =>
                obtain rfl : l = j := by omega
                rw [HCL.out] at hcell
                have hxe : (x == 2 + 8 * (l : Int)) = true := by rw [HX.out]; simp
                go_wp2_with fail
                refine (awake_he HG.out HP.out HQ.out HB.out HR5.out).mono ?_
                rintro e w' ⟨rfl, hb⟩
                have HBE := Lib.hid hb
                clear hb
                go_wp2
                go_ret
                exact ⟨rfl, HBE.out⟩
              | succ gk =>
                have hne := HBF.out l (by omega)
                have hnf : (clsAt L l == -1) = false := by simpa using hne
                generalize clsAt L l = z at *
                clear hne
                go_wp2
                go_roundg gk
                case measure => omega
                case rel => exact ⟨l + 1, by omega, by go_num, rfl⟩
          · have h00 : (0 : Int) < (i : Int) := by omega
            obtain ⟨b, off, rfl, hcell⟩ := HHF4.out.gt (i := 0) (by have := HM.out; omega)
            rw [← HFH.out (by have := HM.out; omega), Nat.add_zero] at hcell
            have hxx : (x == x) = true := by simp
            go_wp2_with fail
            refine (awake_he HG.out HP.out HQ.out HB.out HR5.out).mono ?_
            rintro e w' ⟨rfl, hb⟩
            have HBE := Lib.hid hb
            clear hb
            go_wp2
            go_ret
            exact ⟨rfl, HBE.out⟩
        | succ gk =>
          have hii : (i : Int) < (m : Int) := by omega
          have hil : i < fl.length := by have := HM.out; omega
          obtain ⟨b, off, rfl, hcell⟩ := HHF4.out.gt hil
          have hfh := HFH.out (by omega)
          rcases Nat.eq_zero_or_pos i with h0 | h0
          · have hgt : decide (fl.getD i 0 < x) = false := by rw [hfh, h0]; simp
            have hz1 : decide ((0 : Int) < (i : Int)) = false := decide_eq_false (by omega)
            have hz2 : decide (0 < i) = false := decide_eq_false (by omega)
            generalize fl.getD i 0 = y at *
            clear hfh h0
            go_wp2
            go_quiet (fail)
            go_wp2
            go_roundg gk
            case measure => omega
            case rel => exact ⟨i + 1, k + nq, by omega, by go_num, rfl⟩
          · obtain ⟨j, hj⟩ : ∃ j, i = j + 1 := ⟨i - 1, by omega⟩
            obtain ⟨b2, off2, e2, hcell2⟩ := HHF4.out.gt (i := j) (by omega)
            simp only [Option.some.injEq, Addr.mk.injEq, and_true] at e2
            obtain ⟨rfl, rfl⟩ := e2
            have hl1 := pw_getD HFR.out (show j < i by omega) hil
            have hl2 := pw_getD HFR.out (show 0 < i by omega) hil
            have hgt : decide (fl.getD i 0 < x) = false := decide_eq_false (by rw [hfh]; omega)
            have hle2 : decide (fl.getD i 0 ≤ fl.getD j 0) = false := decide_eq_false (by omega)
            have hz1 : decide ((0 : Int) < (i : Int)) = true := decide_eq_true (by omega)
            have hz2 : decide (0 < i) = true := decide_eq_true (by omega)
            have hsub : (i : Int) - 1 = (j : Int) := by omega
            have hjm : (j : Int) < (m : Int) := by omega
            generalize fl.getD i 0 = y at *
            generalize fl.getD j 0 = y2 at *
            clear hfh hl1 hl2 hj h0
            go_wp2
            go_quiet (fail)
            go_wp2
            go_roundg gk
            case measure => omega
            case rel => exact ⟨i + 1, k + nq, by omega, by go_num, rfl⟩
    · have hE : takeE n L c = 4 := by unfold takeE; rw [if_pos HCC.out, if_neg hx]
      rw [hE] at HTK
      clear hx hE
      go_wp2_with fail
      refine (HTK.out _ HP3.out).mono ?_
      rintro e v4 ⟨rfl, hpl, ht⟩
      have HP4 := Lib.hid hpl
      have HR4 : Hid (Turns p q v1 v4) := HR3.out.trans ht
      have HHF4 := Lib.hid (HHF3.out.turns ht)
      have HHS4 := Lib.hid (HHS3.out.turns ht)
      clear hpl ht
      clear HP3 HR3 HHF3 HHS3
      go_wp2_with fail
      refine (awake_he HG.out HP.out HQ.out HB.out HR4.out).mono ?_
      rintro e w' ⟨rfl, hb⟩
      have HBE := Lib.hid hb
      clear hb
      go_wp2
      go_ret
      exact ⟨rfl, HBE.out⟩

set_option maxRecDepth 100000 in
theorem lifted (os : Os) (started : os.Started) (H : Type) (enc : TypeId × Value → H) :
    ReturnsInHanded {} Try.checked os 10 .any (Rows.pallocLeastSpec.pre6 enc Try.prog Try.f10 Rows.pallocLeastRow.domain false) (Rows.pallocLeastSpec.post enc Try.prog Try.f10 false true false false) := by
  refine returnsInHanded_of_change (C := Try.checked) own started (by kernel_rfl) Try.func10
    (ChangeSpec.witness6 (enc := enc) (C := Try.checked) false ⟨#[], #[.int .i64 0, .slice none 0 0, .int .i64 0], []⟩ 8 (by kernel_rfl) (by kernel_rfl) (by kernel_rfl) (by kernel_rfl)) ?_
  intro W base args ds gs before hval0 hW hcnd _
  have hval : ∀ (j : Nat) t v, Try.f10.params[j]? = some t → args[j]? = some v → Value.okWide Try.prog W .any base t v := hval0
  have hW' := hW
  obtain ⟨p, q, hA0, hV, rfl, hfz, hnd⟩ := hW
  have hA : DataW.TrodAll enc Try.prog W 0 (fun _ => true) true Try.f10.params.toList args.toList ds p := hA0
  rw [Try.params10] at hA hval
  obtain ⟨v0, vs0, d0, ds0, p0, q0, hargs, rfl, rfl, h0, r0⟩ := trodAll_cons hA
  obtain ⟨v1, vs1, d1, ds1, p1, q1, rfl, rfl, rfl, h1, r1⟩ := trodAll_cons r0
  obtain ⟨v2, vs2, d2, ds2, p2, q2, rfl, rfl, rfl, h2, r2⟩ := trodAll_cons r1
  obtain ⟨rfl, rfl, rfl⟩ := trodAll_nil r2
  obtain rfl : args = #[v0, v1, v2] := by cases args; simp_all
  obtain ⟨rfl, rfl⟩ := trodVars_none hV
  obtain ⟨a0, rfl, rfl, rfl, w0⟩ := open_int Try.underlying3 (hval 0 3 v0 rfl rfl) h0
  obtain ⟨a1, len1, cap1, rfl⟩ := okWide_slice Try.underlying22 (hval 1 22 v1 rfl rfl)
  have k1 := h1
  have lt1 : ∀ x ∈ p1, x.block < W.heap.size := by obtain ⟨m, hm⟩ := k1; exact DataW.trod_lt m _ _ _ hm
  obtain ⟨z1, w1⟩ : ∃ zs, IsActs W a1 len1 zs := by
    obtain ⟨fuel, hf⟩ := h1
    exact isActs_of hf
  obtain ⟨a2, rfl, rfl, rfl, w2⟩ := open_int Try.underlying3 (hval 2 3 v2 rfl rfl) h2
  clear hA0 hval0
  refine (walk a0 a1 len1 cap1 z1 a2 W w0 w1 w2).mono fun e W' ⟨he, bel⟩ => ?_
  subst he
  exact ⟨_, rfl, _, _, _, [], _, [], hW', trodAll_mk1 (shut_bool Try.underlying4 _), (trodAll_cons_mk (shut_int Try.underlying3 w0) (trodAll_cons_mk (Below.trod laidOut (by kernel_rfl) (of_decide_eq_true (by kernel_rfl)) k1 bel lt1) (trodAll_cons_mk (shut_int Try.underlying3 w2) trodAll_mk0))), rfl, bel.frame _, fun h => by cases h⟩

theorem over : Rows.pallocLeastRow.holds Try.pinned (OpenSpec.ofChange Rows.pallocLeastSpec) :=
  OpenClaim.holds_of_wide 10 Try.f10 rfl rfl rfl rfl rfl rfl rfl ⟨rfl, rfl, rfl, rfl, rfl⟩ rfl rfl rfl rfl rfl (by kernel_rfl) Try.func10 (by kernel_rfl)
    (of_decide_eq_true (by kernel_rfl)) (by unfold Func.isWrapper; first | (rw [if_pos (by decide +kernel)]; kernel_rfl) | (rw [if_neg (by decide +kernel)]; exact ⟨rfl, rfl⟩))
    (fun os started H enc _ => lifted os started H enc)

theorem proved : Rows.PallocLeastSaid := over
#print axioms proved
end Go.Proofs.Ytjebpggoajfjkaa.pallocLeast
