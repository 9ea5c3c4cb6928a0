/-
Proved here: DurableCloses, for all lists of notes and of stores beside them: when an epoch has been closed each line that was noted in it has its bytes of then, or newer ones, in the persistent copy, and the clock line says the epoch.
  Conditions: none.
-/
import Derived.Test.YtkcjamjjaallhaaRows
import Derived.Test.YtkcjamjjaallhaaDurJ
import Derived.Test.YtkcjamjjaallhaaActs9
import Derived.IntWalk
import Derived.WalkSmall
import Derived.Deep.QuietTactic
import Derived.BigQuiet
import Derived.WalkKit
import Derived.ProofKit
import Derived.OpenShut
import Derived.ShutString
import Derived.ChangeOld
import Derived.Below
namespace Go.Proofs.Ytkcjamjjaallhaa.durableCloses
open Go.ChangeShapes Go.WideShapes Go.ChangeAt Go.RowKit
open Go.ChangeMaps (open_string shut_string)
set_option linter.unusedVariables false

theorem own : ownKnob Try.prog.godebug = none := by kernel_rfl
theorem laidOut : laidOutB Try.prog = true := by kernel_rfl

set_option maxRecDepth 100000 in
set_option maxHeartbeats 1600000 in
theorem many0 (a0 a1 : Option Addr) (len0 cap0 len1 cap1 : Nat) (w : World) (hl : 120 < len0) : Calls Try.prog 4 #[.slice a0 len0 cap0, .slice a1 len1 cap1] w fun e w' => e = .returned (.bool true) ∧ Below w.heap.size w w' := by
  have h1 : (120 : Int) < (len0 : Int) := by omega
  have HAW := Lib.hid (awake_any w)
  clear hl
  go_enter Try.func4, Try.ntmps4
  go_wp2_with fail
  refine HAW.out.mono ?_
  rintro e w' ⟨rfl, hb⟩
  have HB := Lib.hid hb
  clear hb
  go_wp2
  go_ret
  exact ⟨rfl, HB.out⟩
set_option maxRecDepth 100000 in
set_option maxHeartbeats 1600000 in
theorem many1 (a0 a1 : Option Addr) (len0 cap0 len1 cap1 : Nat) (w : World) (hl : ¬ 120 < len0) (hl1 : 120 < len1) : Calls Try.prog 4 #[.slice a0 len0 cap0, .slice a1 len1 cap1] w fun e w' => e = .returned (.bool true) ∧ Below w.heap.size w w' := by
  have h1 : ¬ (120 : Int) < (len0 : Int) := by omega
  have h2 : (120 : Int) < (len1 : Int) := by omega
  have HAW := Lib.hid (awake_any w)
  clear hl
  go_enter Try.func4, Try.ntmps4
  go_wp2_with fail
  refine HAW.out.mono ?_
  rintro e w' ⟨rfl, hb⟩
  have HB := Lib.hid hb
  clear hb
  go_wp2
  go_ret
  exact ⟨rfl, HB.out⟩
set_option maxRecDepth 100000 in
set_option maxHeartbeats 8000000 in
theorem few (a0 a1 : Option Addr) (len0 cap0 len1 cap1 : Nat) (z0 z1 : List ActP) (w : World) (w0 : IsActs w a0 len0 z0) (w1 : IsActs w a1 len1 z1) (hl : ¬ 120 < len0) (hl1 : ¬ 120 < len1) : Calls Try.prog 4 #[.slice a0 len0 cap0, .slice a1 len1 cap1] w fun e w' => e = .returned (.bool true) ∧ Below w.heap.size w w' := by
  have h1 : ¬ (120 : Int) < (len0 : Int) := by omega
  have h2 : ¬ (120 : Int) < (len1 : Int) := by omega
  have HN : Hid (Calls Try.prog 9 #[.int .i64 4, .int .u64 7] w (MadeC w 4 7)) := cknew_ok 4 7 (by omega) (by omega) (by omega) w
  have HND := Lib.hid (fun w' => (new_ok 40 (by omega) (by omega) w' : Calls Try.prog 12 #[.int .i64 40] w' (Made w' 40)))
  have HZF := Lib.hid zero_forty
  have HNT := Lib.hid noLines_take
  have HA := Lib.hid w0
  have HA1 := Lib.hid w1
  obtain ⟨g, hg⟩ : ∃ g, w.heap.size = g := ⟨_, rfl⟩
  unfold MadeC at HN
  rw [hg] at HN ⊢
  have HG := Lib.hid hg
  have HL := Lib.hid hl
  clear w0 w1 hg hl hl1
  go_enter Try.func4, Try.ntmps4
  go_wp2_with fail
  refine HN.out.mono ?_
  rintro e v1 ⟨p, o, rfl, hp, ho, hcm, hb⟩
  have HC1 := Lib.hid hcm
  have HP := Lib.hid hp
  have HO := Lib.hid ho
  have HB := Lib.hid hb
  clear hcm hp ho hb HN
  go_wp2_with fail
  refine (HND.out v1).mono ?_
  rintro e v2 ⟨dp, dq, rfl, hdp, hdq, hd, hb⟩
  obtain ⟨gx, hgx⟩ : ∃ x, v2.heap.size = x := ⟨_, rfl⟩
  have HLB := Lib.hid (fun w3 hn hb3 => lb_new (x := gx) (w3 := w3) HG.out HP.out HO.out HC1.out HB.out hdp hdq hd hb hgx hn hb3)
  have HGX := Lib.hid hgx
  clear HND HB HP HO HC1 hdp hdq hd hb hgx
  go_wp2_with ((with_reducible show wpList _ _ _ (⟨some 9, .alloc _, _, _, _, _⟩ :: _) _ _); refine wpList_alloc_var (o := ⟨some 9, _, _, _, _, _⟩) rfl 57 rfl gx HGX.out _ HZF.out ?_; intro v3 HA3 HB3)
  have HW : Hid (Lb [p, o, dp, dq, gx] g w v3 p o dp dq gx ((ck0 4 7).noted.take 40) (ck0 4 7) (fresh 40, five0)) := (by
    have := HLB.out v3 HA3.out HB3.out
    rw [← HNT.out] at this
    exact this)
  clear HLB HA3 HB3 HZF HNT HGX
  go_loopg [10, 11] len0 (fun gk s10 s11 wx => ∃ (i : Nat) (c : Ck) (s : St), i + gk = len0 ∧ s10 = .int .i64 i ∧ Hid (ClsA c s ∧ c.owed.length = 4) ∧ Hid (Lb [p, o, dp, dq, gx] g w wx p o dp dq gx (c.noted.take 40) c s))
  case atStart => exact ⟨0, _, _, by omega, rfl, ⟨ClsA.first, rfl⟩, HW⟩
  case round =>
    obtain ⟨i, c, s, hig, rfl, HOA, HWr⟩ := hrel
    clear HW
    cases gk with
    | succ gk =>
      have hii : (i : Int) < (len0 : Int) := by omega
      obtain ⟨y, b, off, hx, hae, hbs, _⟩ := HA.out.at_ (i := i) (by omega)
      have HA1y : Hid (∀ w', Below g w w' → w'.cell? ⟨b, off + i * 4 + 1, none⟩ = some (.int .i64 y.t) ∧ w'.cell? ⟨b, off + i * 4 + 2, none⟩ = some (.int .i64 y.line) ∧ w'.cell? ⟨b, off + i * 4 + 3, none⟩ = some (.int .i64 y.b)) := fun w' hb' => by
        obtain ⟨y', b', off', hx', hae', _, _, c1, c2, c3⟩ := (HA.out.below (HG.out ▸ hb') : IsActs w' a0 len0 z0).at_ (i := i) (by omega)
        rw [hae] at hae'
        cases hae'
        rw [hx] at hx'
        cases hx'
        exact ⟨c1, c2, c3⟩
      subst hae
      have HLW : Hid (Calls Try.prog 13 #[.int .i64 y.line, .int .i64 38] wr fun e w' => e = .returned (.int .i64 (low y.line 38 : Nat)) ∧ wr = w') := low_any y.line 38 wr (by omega) (by omega)
      have HLT := Lib.hid (fun w' => (low_any y.t 4 w' (by omega) (by omega) : Calls Try.prog 13 #[.int .i64 y.t, .int .i64 4] w' fun e w'' => e = .returned (.int .i64 (low y.t 4 : Nat)) ∧ w' = w''))
      have hlt := low_lt y.line (n := 38) (by omega)
      have htt := low_lt y.t (n := 4) (by omega)
      generalize low y.line 38 = k at *
      generalize low y.t 4 = tt at *
      obtain ⟨m, hm⟩ : ∃ m, 2 + k = m := ⟨_, rfl⟩
      have hm1 : (2 : Int) + (k : Int) = (m : Int) := by omega
      have hmb : m < 40 := by omega
      have hm40 : (m : Int) < 40 := by omega
      obtain ⟨X, hX⟩ := u8_of y.b
      have hno := HOA.out.1.note HWr.out.lw.cd.ck.ok m (tt : Int) (by omega) hmb ⟨by omega, by have := HOA.out.2; omega⟩ 5 [X]
      have HNO := Lib.hid hno
      have HOW : Hid ((c.note (tt : Int) (m : Int)).owed.length = 4) := (Ck.note_owed _ _ _).trans HOA.out.2
      have HN1 := Lib.hid (HA1y.out wr HWr.out.lw.bel)
      have c2 := HN1.out.2.1
      have c3 := HN1.out.2.2
      have hba : Below wr.heap.size wr (wr.alloc (.cells #[.int .u8 ((X.toNat : Nat) : Int)] 5)) := (Below.refl _ _).alloc (Nat.le_refl _) _
      have HWB := Lib.hid ((HWr.out.below hba).store (m : Int) 5 (some ⟨wr.heap.size, 0, none⟩) 1 1 [X] rfl (row_one wr X) (by intro h; cases h))
      clear hba
      clear hx hbs hlt htt hm hno
      go_wp2_with fail
      refine HLW.out.mono ?_
      rintro e w' ⟨rfl, rfl⟩
      go_wp2_with fail
      refine HWB.out.mono ?_
      rintro e w2 ⟨rfl, hw2⟩
      have HW2 := Lib.hid hw2
      have c1 := (HA1y.out w2 hw2.lw.bel).1
      clear hw2 HWB c2 c3
      go_wp2_with fail
      refine (HLT.out _).mono ?_
      rintro e w' ⟨rfl, rfl⟩
      go_wp2_with fail
      refine (HW2.out.note (tt : Int) (m : Int)).mono ?_
      rw [HNO.out.2.2]
      rintro e w3 ⟨rfl, hw3⟩
      have hat := hw3.at_ m hmb
      have hfr := hw3.frozen m
      have HW4 := Lib.hid (hw3.set m true)
      have HNE : Hid (((c.noted.take 40).set m true) = (c.note (tt : Int) (m : Int)).noted.take 40) := by show _ = _; rw [HNO.out.2.1, List.take_set]
      clear hw3 c1
      go_wp2
      go_roundg gk
      case measure => omega
      case rel => exact ⟨i + 1, _, _, by omega, by go_num, ⟨HNO.out.1, HOW.out⟩, (by have := HW4.out; rw [HNE.out] at this; exact this)⟩
    | zero =>
      obtain rfl : i = len0 := by omega
      have hii : ¬ (i : Int) < (i : Int) := by omega
      have HOB := Lib.hid HOA.out.1.begun
      have hbg := begin_yes HOA.out.1.ph
      have hrem := rem_begun HOA.out.1.ph 40 (fun i hi => (HOA.out.1.low i hi).2)
      have HBG := Lib.hid HWr.out.begin_
      rw [hbg.1] at HBG
      have HREM := Lib.hid hrem
      generalize c.begin_ = cb at *
      obtain ⟨N, hN⟩ : ∃ N, c.noted = N := ⟨_, rfl⟩
      rw [hN] at HOB HBG
      clear hbg hrem hN
      go_wp2_with fail
      refine HBG.out.mono ?_
      rintro e w3 ⟨rfl, hw3⟩
      have HW3 := Lib.hid hw3
      clear hw3 HBG HOA HWr
      go_wp2
      go_loopg [12, 13, 14, 15] cb.rem (fun gk s12 s13 s14 s15 wx => ∃ (k : Nat) (c : Ck) (s : St), c.rem = gk ∧ k + gk ≤ 44 ∧ s12 = .int .i64 k ∧ Hid (Cls N c s) ∧ Hid (Lb [p, o, dp, dq, gx] g w wx p o dp dq gx (N.take 40) c s))
      case atStart => exact ⟨0, cb, _, rfl, by have := HREM.out; omega, rfl, HOB, HW3⟩
      case round =>
        obtain ⟨k, c, s, hrem, hk44, rfl, HCL, HWr⟩ := hrel
        clear HW3 HOB HREM
        cases gk with
        | succ gk =>
          have hph : c.ph ≠ 0 := fun e => by
            have := (Ck.rem_zero HWr.out.lw.cd.ck.ok).2 e
            omega
          have hdu := HCL.out.dur hph
          have HDU := Lib.hid hdu
          have HPH := Lib.hid hph
          have HX := Lib.hid (ckdur_any HWr.out.lw.cd.ck)
          rw [hdu] at HX
          have hrs := HWr.out.lw.cd.ck.ok.rem hph
          have HRS : Hid (c.step.rem = gk) := by show _ = _; omega
          have HSE : Hid (c.stepE = 0) := by show _ = _; unfold Ck.stepE; rw [if_neg hph]
          have hk50 : ¬ (50 : Int) < (k : Int) := by omega
          clear hph hdu hrs hrem
          rcases Nat.lt_or_ge k len1 with hk1 | hk1
          · have hkk : (k : Int) < (len1 : Int) := by omega
            have HA1r : Hid (IsActs wr a1 len1 z1) := HA1.out.below (HG.out ▸ HWr.out.lw.bel)
            obtain ⟨y, b, off, hx, hae, hbs, _, _, c2, c3⟩ := HA1r.out.at_ hk1
            subst hae
            have HLW : Hid (Calls Try.prog 13 #[.int .i64 y.line, .int .i64 38] wr fun e w' => e = .returned (.int .i64 (low y.line 38 : Nat)) ∧ wr = w') := low_any y.line 38 wr (by omega) (by omega)
            have hlt := low_lt y.line (n := 38) (by omega)
            generalize low y.line 38 = q at *
            obtain ⟨m, hm⟩ : ∃ m, 2 + q = m := ⟨_, rfl⟩
            have hm1 : (2 : Int) + (q : Int) = (m : Int) := by omega
            have hmb : m < 40 := by omega
            have hm40 : (m : Int) < 40 := by omega
            have HM2 : Hid (2 ≤ (m : Int)) := by show _ ≤ _; omega
            obtain ⟨X, hX⟩ := u8_of y.b
            have hat := HWr.out.at_ m hmb
            rw [take_get _ _ hmb] at hat
            clear hx hbs hlt hm
            cases hf : N.getD m false with
            | true =>
              rw [hf] at hat
              have HW5 := HWr
              have HC5 := HCL
              clear hf
              go_wp2_with fail
              refine HX.out.mono ?_
              rintro e w' ⟨rfl, rfl⟩
              go_wp2_with fail
              refine HLW.out.mono ?_
              rintro e w' ⟨rfl, rfl⟩
              go_wp2_with fail
              refine (HW5.out.step (by have := HDU.out; omega)).mono ?_
              rw [HSE.out]
              rintro e w6 ⟨rfl, hw6⟩
              have HW6 := Lib.hid hw6
              have HC6 := Lib.hid (HC5.out.step HW5.out.lw.cd.ck.ok HPH.out)
              clear hw6
              generalize c.act = act at *
              go_wp2
              go_roundg gk
              case measure => omega
              case rel => exact ⟨k + 1, _, _, HRS.out, by omega, by go_num, HC6, HW6⟩
            | false =>
              rw [hf] at hat
              have HC5 := Lib.hid (HCL.out.other (m : Int) 5 [X] HM2.out (by rw [Int.toNat_natCast]; exact hf))
              have hba : Below wr.heap.size wr (wr.alloc (.cells #[.int .u8 ((X.toNat : Nat) : Int)] 5)) := (Below.refl _ _).alloc (Nat.le_refl _) _
              have HWB := Lib.hid ((HWr.out.below hba).store (m : Int) 5 (some ⟨wr.heap.size, 0, none⟩) 1 1 [X] rfl (row_one wr X) (by intro h; cases h))
              clear hba
              clear hf
              go_wp2_with fail
              refine HX.out.mono ?_
              rintro e w' ⟨rfl, rfl⟩
              go_wp2_with fail
              refine HLW.out.mono ?_
              rintro e w' ⟨rfl, rfl⟩
              go_wp2_with fail
              refine HWB.out.mono ?_
              rintro e w5 ⟨rfl, hw5⟩
              have HW5 := Lib.hid hw5
              clear hw5 HWB
              go_wp2_with fail
              refine (HW5.out.step (by have := HDU.out; omega)).mono ?_
              rw [HSE.out]
              rintro e w6 ⟨rfl, hw6⟩
              have HW6 := Lib.hid hw6
              have HC6 := Lib.hid (HC5.out.step HW5.out.lw.cd.ck.ok HPH.out)
              clear hw6
              generalize c.act = act at *
              go_wp2
              go_roundg gk
              case measure => omega
              case rel => exact ⟨k + 1, _, _, HRS.out, by omega, by go_num, HC6, HW6⟩
          · have hkk : ¬ (k : Int) < (len1 : Int) := by omega
            have HW5 := HWr
            have HC5 := HCL
            go_wp2_with fail
            refine HX.out.mono ?_
            rintro e w' ⟨rfl, rfl⟩
            go_wp2_with fail
            refine (HW5.out.step (by have := HDU.out; omega)).mono ?_
            rw [HSE.out]
            rintro e w6 ⟨rfl, hw6⟩
            have HW6 := Lib.hid hw6
            have HC6 := Lib.hid (HC5.out.step HW5.out.lw.cd.ck.ok HPH.out)
            clear hw6
            generalize c.act = act at *
            go_wp2
            go_roundg gk
            case measure => omega
            case rel => exact ⟨k + 1, _, _, HRS.out, by omega, by go_num, HC6, HW6⟩
        | zero =>
          have hph := (Ck.rem_zero HWr.out.lw.cd.ck.ok).1 hrem
          have HPH := Lib.hid hph
          have HX := Lib.hid (ckdur_any HWr.out.lw.cd.ck)
          rw [(HCL.out.q0 hph).2] at HX
          clear hph hrem
          go_wp2_with fail
          refine HX.out.mono ?_
          rintro e w' ⟨rfl, rfl⟩
          go_wp2
          go_loopg [16, 17, 18, 19, 20] 38 (fun gk s16 s17 s18 s19 s20 wx => ∃ i : Nat, i + gk = 40 ∧ 2 ≤ i ∧ s16 = .int .i64 i ∧ Hid (Lb [p, o, dp, dq, gx] g w wx p o dp dq gx (N.take 40) c s))
          case atStart => exact ⟨2, by omega, by omega, rfl, HWr⟩
          case round =>
            obtain ⟨i, hig, hi2, rfl, HWr3⟩ := hrel
            cases gk with
            | succ gk =>
              have hi40 : i < 40 := by omega
              have hii : (i : Int) < 40 := by omega
              have HV := Lib.hid (load_at HWr3.out.lw.cd.dv i (by have := HCL.out.len; omega))
              have HPL := Lib.hid (fun w' (h : DvS w' dp dq s) => durable_at h i (by have := HCL.out.len; omega))
              have HVL := Lib.hid (clAt_ok HWr3.out.lw.cd.dv i (by have := HCL.out.len; omega))
              have HAT := Lib.hid (fun w' (h : Lb [p, o, dp, dq, gx] g w w' p o dp dq gx (N.take 40) c s) => h.at_ i hi40)
              rw [take_get _ _ hi40] at HAT
              cases hf : N.getD i false with
              | true =>
                have hvp := (HCL.out.p3 (.inl HPH.out) i hf).1
                have HVL1 := Lib.hid HVL.out.1
                rw [hf] at HAT
                rw [← hvp] at HPL
                generalize (clAt s.1 (i : Int)).v = V at *
                clear hf hvp HVL
                go_wp2_with fail
                refine HV.out.mono ?_
                rintro e v6 ⟨g6, rfl, _, ha6, hb6⟩
                have HW6 := Lib.hid (HWr3.out.below hb6)
                have HA6 := Lib.hid ha6
                clear ha6 hb6
                go_wp2_with fail
                refine (HPL.out v6 HW6.out.lw.cd.dv).mono ?_
                rintro e v7 ⟨g7, rfl, _, ha7, hb7⟩
                have HW7 := Lib.hid (HW6.out.below hb7)
                have HA67 := Lib.hid (HA6.out.below hb7 HA6.out.lt)
                have HA7 := Lib.hid ha7
                have hat := HAT.out v7 HW7.out
                clear ha7 hb7
                go_wp2_with fail
                refine (same_arr9 v7 g6 g7 V HVL1.out HA67.out HA7.out).mono ?_
                rintro e w' ⟨rfl, rfl⟩
                go_wp2
                go_roundg gk
                case measure => omega
                case rel => exact ⟨i + 1, by omega, by omega, by go_num, HW7⟩
              | false =>
                rw [hf] at HAT
                clear hf
                go_wp2_with fail
                refine HV.out.mono ?_
                rintro e v6 ⟨g6, rfl, _, ha6, hb6⟩
                have HW6 := Lib.hid (HWr3.out.below hb6)
                clear ha6 hb6
                go_wp2_with fail
                refine (HPL.out v6 HW6.out.lw.cd.dv).mono ?_
                rintro e v7 ⟨g7, rfl, _, ha7, hb7⟩
                have HW7 := Lib.hid (HW6.out.below hb7)
                have hat := HAT.out v7 HW7.out
                clear ha7 hb7
                go_wp2
                go_roundg gk
                case measure => omega
                case rel => exact ⟨i + 1, by omega, by omega, by go_num, HW7⟩
            | zero =>
              obtain rfl : i = 40 := by omega
              have HP1 := Lib.hid (durable_at HWr3.out.lw.cd.dv 1 (by have := HCL.out.len; omega))
              rw [at_one, (HCL.out.q0 HPH.out).1] at HP1
              have HNOW : Hid (c.now = 9) := by
                show _ = _
                unfold Ck.now
                rw [if_pos HPH.out, (HCL.out.q0 HPH.out).2]
              have HCLL := Lib.hid (clockL_len 8)
              have HIC := Lib.hid (fun (A : Option Addr) w' (hr : Row w' A (clockL 8)) => (isclock_yes A 64 8 (by omega) w' hr : Calls Try.prog 31 #[.slice A 64 64] w' fun e w'' => e = .returned (.tuple #[.int .u64 8, .bool true]) ∧ Below w'.heap.size w' w''))
              generalize clockL 8 = P at *
              go_wp2_with fail
              refine HP1.out.mono ?_
              rintro e v6 ⟨g6, rfl, _, ha6, hb6⟩
              have HW6 := Lib.hid (HWr3.out.below hb6)
              have HR6 := Lib.hid (ha6.row (by rw [HCLL.out]; omega))
              clear ha6 hb6
              go_wp2_with fail
              refine (HIC.out _ v6 HR6.out).mono ?_
              rintro e v7 ⟨rfl, hb7⟩
              have HW7 := Lib.hid (HW6.out.below hb7)
              have HNW := Lib.hid (cknow_any HW7.out.lw.cd.ck)
              rw [HNOW.out] at HNW
              clear hb7
              go_wp2_with fail
              refine HNW.out.mono ?_
              rintro e w' ⟨rfl, rfl⟩
              go_wp2_with fail
              refine (awake_any v7).mono ?_
              rintro e v8 ⟨rfl, hb8⟩
              have HB8 := Lib.hid (HW7.out.lw.bel.trans (hb8.mono HW7.out.lw.gw))
              clear hb8
              go_wp2
              go_ret
              exact ⟨rfl, HB8.out⟩
theorem walk (a0 : Option Addr) (len0 cap0 : Nat) (z0 : List ActP) (a1 : Option Addr) (len1 cap1 : Nat) (z1 : List ActP) (w : World) (w0 : IsActs w a0 len0 z0) (w1 : IsActs w a1 len1 z1) : Calls Try.prog 4 #[.slice a0 len0 cap0, .slice a1 len1 cap1] w fun e w' => e = .returned (.bool true) ∧ Below w.heap.size w w' := by
  rcases Classical.em (120 < len0) with h | h
  · exact many0 a0 a1 len0 cap0 len1 cap1 w h
  · rcases Classical.em (120 < len1) with h1 | h1
    · exact many1 a0 a1 len0 cap0 len1 cap1 w h h1
    · exact few a0 a1 len0 cap0 len1 cap1 z0 z1 w w0 w1 h h1

set_option maxRecDepth 100000 in
theorem lifted (os : Os) (started : os.Started) (H : Type) (enc : TypeId × Value → H) :
    ReturnsInHanded {} Try.checked os 4 .any (Rows.durableClosesSpec.pre6 enc Try.prog Try.f4 Rows.durableClosesRow.domain false) (Rows.durableClosesSpec.post enc Try.prog Try.f4 false true false false) := by
  refine returnsInHanded_of_change (C := Try.checked) own started (by kernel_rfl) Try.func4
    (ChangeSpec.witness6 (enc := enc) (C := Try.checked) false ⟨#[], #[.slice none 0 0, .slice none 0 0], []⟩ 8 (by kernel_rfl) (by kernel_rfl) (by kernel_rfl) (by kernel_rfl)) ?_
  intro W base args ds gs before hval0 hW hcnd _
  have hval : ∀ (j : Nat) t v, Try.f4.params[j]? = some t → args[j]? = some v → Value.okWide Try.prog W .any base t v := hval0
  have hW' := hW
  obtain ⟨p, q, hA0, hV, rfl, hfz, hnd⟩ := hW
  have hA : DataW.TrodAll enc Try.prog W 0 (fun _ => true) true Try.f4.params.toList args.toList ds p := hA0
  rw [Try.params4] at hA hval
  obtain ⟨v0, vs0, d0, ds0, p0, q0, hargs, rfl, rfl, h0, r0⟩ := trodAll_cons hA
  obtain ⟨v1, vs1, d1, ds1, p1, q1, rfl, rfl, rfl, h1, r1⟩ := trodAll_cons r0
  obtain ⟨rfl, rfl, rfl⟩ := trodAll_nil r1
  obtain rfl : args = #[v0, v1] := by cases args; simp_all
  obtain ⟨rfl, rfl⟩ := trodVars_none hV
  obtain ⟨a0, len0, cap0, rfl⟩ := okWide_slice Try.underlying23 (hval 0 23 v0 rfl rfl)
  have k0 := h0
  have lt0 : ∀ x ∈ p0, x.block < W.heap.size := by obtain ⟨m, hm⟩ := k0; exact DataW.trod_lt m _ _ _ hm
  obtain ⟨z0, w0⟩ : ∃ zs, IsActs W a0 len0 zs := by
    obtain ⟨fuel, hf⟩ := h0
    exact isActs_of hf
  obtain ⟨a1, len1, cap1, rfl⟩ := okWide_slice Try.underlying23 (hval 1 23 v1 rfl rfl)
  have k1 := h1
  have lt1 : ∀ x ∈ p1, x.block < W.heap.size := by obtain ⟨m, hm⟩ := k1; exact DataW.trod_lt m _ _ _ hm
  obtain ⟨z1, w1⟩ : ∃ zs, IsActs W a1 len1 zs := by
    obtain ⟨fuel, hf⟩ := h1
    exact isActs_of hf
  clear hA0 hval0
  refine (walk a0 len0 cap0 z0 a1 len1 cap1 z1 W w0 w1).mono fun e W' ⟨he, bel⟩ => ?_
  subst he
  exact ⟨_, rfl, _, _, _, [], _, [], hW', trodAll_mk1 (shut_bool Try.underlying4 _), (trodAll_cons_mk (Below.trod laidOut (by kernel_rfl) (of_decide_eq_true (by kernel_rfl)) k0 bel lt0) (trodAll_cons_mk (Below.trod laidOut (by kernel_rfl) (of_decide_eq_true (by kernel_rfl)) k1 bel lt1) trodAll_mk0)), rfl, bel.frame _, fun h => by cases h⟩

theorem over : Rows.durableClosesRow.holds Try.pinned (OpenSpec.ofChange Rows.durableClosesSpec) :=
  OpenClaim.holds_of_wide 4 Try.f4 rfl rfl rfl rfl rfl rfl rfl ⟨rfl, rfl, rfl, rfl, rfl⟩ rfl rfl rfl rfl rfl (by kernel_rfl) Try.func4 (by kernel_rfl)
    (of_decide_eq_true (by kernel_rfl)) (by unfold Func.isWrapper; first | (rw [if_pos (by decide +kernel)]; kernel_rfl) | (rw [if_neg (by decide +kernel)]; exact ⟨rfl, rfl⟩))
    (fun os started H enc _ => lifted os started H enc)

theorem proved : Rows.DurableClosesSaid := over
#print axioms proved
end Go.Proofs.Ytkcjamjjaallhaa.durableCloses
