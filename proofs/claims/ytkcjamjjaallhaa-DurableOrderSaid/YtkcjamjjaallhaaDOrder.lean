/-
Proved here: DurableOrder, for all lists of notes and of lines written back: at no moment says the persistent copy of the clock line an epoch of which a noted line's bytes are not persistent.
  Conditions: none.
-/
import Derived.Test.YtkcjamjjaallhaaRows
import Derived.Test.YtkcjamjjaallhaaDurI
import Derived.Test.YtkcjamjjaallhaaActs9
import Derived.IntWalk
import Derived.WalkSmall
import Derived.Deep.QuietTactic
import Derived.BigQuiet
import Derived.WalkKit
import Derived.ProofKit
import Derived.OpenShut
import Derived.ShutString
import Derived.ChangeOld
import Derived.Below
namespace Go.Proofs.Ytkcjamjjaallhaa.durableOrder
open Go.ChangeShapes Go.WideShapes Go.ChangeAt Go.RowKit
open Go.ChangeMaps (open_string shut_string)
set_option linter.unusedVariables false

theorem own : ownKnob Try.prog.godebug = none := by kernel_rfl
theorem laidOut : laidOutB Try.prog = true := by kernel_rfl

set_option maxRecDepth 100000 in
set_option maxHeartbeats 1600000 in
theorem many0 (a0 a1 : Option Addr) (len0 cap0 len1 cap1 : Nat) (w : World) (hl : 120 < len0) : Calls Try.prog 6 #[.slice a0 len0 cap0, .slice a1 len1 cap1] w fun e w' => e = .returned (.bool true) ∧ Below w.heap.size w w' := by
  have h1 : (120 : Int) < (len0 : Int) := by omega
  have HAW := Lib.hid (awake_any w)
  clear hl
  go_enter Try.func6, Try.ntmps6
  go_wp2_with fail
  refine HAW.out.mono ?_
  rintro e w' ⟨rfl, hb⟩
  have HB := Lib.hid hb
  clear hb
  go_wp2
  go_ret
  exact ⟨rfl, HB.out⟩
set_option maxRecDepth 100000 in
set_option maxHeartbeats 1600000 in
theorem many1 (a0 a1 : Option Addr) (len0 cap0 len1 cap1 : Nat) (w : World) (hl : ¬ 120 < len0) (hl1 : 120 < len1) : Calls Try.prog 6 #[.slice a0 len0 cap0, .slice a1 len1 cap1] w fun e w' => e = .returned (.bool true) ∧ Below w.heap.size w w' := by
  have h1 : ¬ (120 : Int) < (len0 : Int) := by omega
  have h2 : (120 : Int) < (len1 : Int) := by omega
  have HAW := Lib.hid (awake_any w)
  clear hl
  go_enter Try.func6, Try.ntmps6
  go_wp2_with fail
  refine HAW.out.mono ?_
  rintro e w' ⟨rfl, hb⟩
  have HB := Lib.hid hb
  clear hb
  go_wp2
  go_ret
  exact ⟨rfl, HB.out⟩
set_option maxRecDepth 100000 in
set_option maxHeartbeats 8000000 in
theorem few (a0 a1 : Option Addr) (len0 cap0 len1 cap1 : Nat) (z0 z1 : List ActP) (w : World) (w0 : IsActs w a0 len0 z0) (w1 : IsActs w a1 len1 z1) (hl : ¬ 120 < len0) (hl1 : ¬ 120 < len1) : Calls Try.prog 6 #[.slice a0 len0 cap0, .slice a1 len1 cap1] w fun e w' => e = .returned (.bool true) ∧ Below w.heap.size w w' := by
  have h1 : ¬ (120 : Int) < (len0 : Int) := by omega
  have h2 : ¬ (120 : Int) < (len1 : Int) := by omega
  have HN : Hid (Calls Try.prog 9 #[.int .i64 1, .int .u64 0] w (MadeC w 1 0)) := cknew_ok 1 0 (by omega) (by omega) (by omega) w
  have HND := Lib.hid (fun w' => (new_ok 30 (by omega) (by omega) w' : Calls Try.prog 12 #[.int .i64 30] w' (Made w' 30)))
  have HA := Lib.hid w0
  have HA1 := Lib.hid w1
  obtain ⟨g, hg⟩ : ∃ g, w.heap.size = g := ⟨_, rfl⟩
  unfold MadeC at HN
  rw [hg] at HN ⊢
  have HG := Lib.hid hg
  have HL := Lib.hid hl
  clear w0 w1 hg hl hl1
  go_enter Try.func6, Try.ntmps6
  go_wp2_with fail
  refine HN.out.mono ?_
  rintro e v1 ⟨p, o, rfl, hp, ho, hcm, hb⟩
  have HC1 := Lib.hid hcm
  have HP := Lib.hid hp
  have HO := Lib.hid ho
  have HB := Lib.hid hb
  clear hcm hp ho hb HN
  go_wp2_with fail
  refine (HND.out v1).mono ?_
  rintro e v2 ⟨dp, dq, rfl, hdp, hdq, hd, hb⟩
  have HW := Lib.hid (lw_new HG.out HP.out HO.out HC1.out HB.out hdp hdq hd hb)
  clear HND HB HP HO HC1 hdp hdq hd hb
  go_wp2
  go_loopg [9, 10] len0 (fun gk s9 s10 wx => ∃ (i : Nat) (c : Ck) (s : St), i + gk = len0 ∧ s9 = .int .i64 i ∧ Hid (OrdA c s ∧ c.dur = 0) ∧ Hid (Lw [p, o, dp, dq] g w wx p o dp dq c s))
  case atStart => exact ⟨0, _, _, by omega, rfl, ⟨OrdA.first, rfl⟩, HW⟩
  case round =>
    obtain ⟨i, c, s, hig, rfl, HOA, HWr⟩ := hrel
    clear HW
    cases gk with
    | succ gk =>
      have hii : (i : Int) < (len0 : Int) := by omega
      have HAr : Hid (IsActs wr a0 len0 z0) := HA.out.below (HG.out ▸ HWr.out.bel)
      obtain ⟨y, b, off, hx, rfl, hbs, _, _, c2, _⟩ := HAr.out.at_ (i := i) (by omega)
      have HLW : Hid (Calls Try.prog 13 #[.int .i64 y.line, .int .i64 28] wr fun e w' => e = .returned (.int .i64 (low y.line 28 : Nat)) ∧ wr = w') := low_any y.line 28 wr (by omega) (by omega)
      have hlt := low_lt y.line (n := 28) (by omega)
      generalize low y.line 28 = k at *
      obtain ⟨m, hm⟩ : ∃ m, 2 + k = m := ⟨_, rfl⟩
      have hm1 : (2 : Int) + (k : Int) = (m : Int) := by omega
      have hmb : m < 30 := by omega
      obtain ⟨X, hX⟩ := u8_of (1 + (i : Int))
      have HST := Lib.hid (fun y b => HOA.out.1.note HWr.out.cd.ck.ok m (by omega) (by omega) y b)
      have HD0 : Hid ((c.note 0 (m : Int)).dur = 0) := (Ck.note_dur _ _ _).trans HOA.out.2
      have hba : Below wr.heap.size wr (wr.alloc (.cells #[.int .u8 ((X.toNat : Nat) : Int)] 5)) := (Below.refl _ _).alloc (Nat.le_refl _) _
      have HWB := Lib.hid ((HWr.out.below hba).store (m : Int) 9 (some ⟨wr.heap.size, 0, none⟩) 1 1 [X] rfl (row_one wr X) (by intro h; cases h))
      clear hx hbs hlt hm hba
      go_wp2_with fail
      refine HLW.out.mono ?_
      rintro e w' ⟨rfl, rfl⟩
      go_wp2_with fail
      refine HWB.out.mono ?_
      rintro e w2 ⟨rfl, hw2⟩
      have HW2 := Lib.hid hw2
      clear hw2 HWB
      go_wp2_with fail
      refine (HW2.out.note 0 (m : Int)).mono ?_
      rintro e w3 ⟨rfl, hw3⟩
      have HW3 := Lib.hid hw3
      clear hw3
      go_wp2
      go_roundg gk
      case measure => omega
      case rel => exact ⟨i + 1, _, _, by omega, by go_num, ⟨HST.out 9 [X], HD0.out⟩, HW3⟩
    | zero =>
      obtain rfl : i = len0 := by omega
      have hii : ¬ (i : Int) < (i : Int) := by omega
      have HOB := Lib.hid HOA.out.1.begun
      have hbg := begin_yes HOA.out.1.ph
      have hrem := rem_begun HOA.out.1.ph 30 (fun i hi => (HOA.out.1.low i hi).2)
      have HBG := Lib.hid HWr.out.begin_
      rw [hbg.1] at HBG
      have HD1 : Hid (c.begin_.dur = 0 ∧ c.begin_.ph ≠ 0) := ⟨hbg.2.1.trans HOA.out.2, hbg.2.2.1⟩
      have HREM := Lib.hid hrem
      generalize c.begin_ = cb at *
      clear hbg hrem
      go_wp2_with fail
      refine HBG.out.mono ?_
      rintro e w3 ⟨rfl, hw3⟩
      have HW3 := Lib.hid hw3
      clear hw3 HBG HOA HWr
      go_wp2
      go_loopg [11, 12, 13, 14, 15] cb.rem (fun gk s11 s12 s13 s14 s15 wx => ∃ (k : Nat) (c : Ck) (s : St), c.rem = gk ∧ k + gk ≤ 34 ∧ s11 = .int .i64 k ∧ Hid (c.dur = if c.ph = 0 then 1 else 0) ∧ Hid (Ord c s) ∧ Hid (Lw [p, o, dp, dq] g w wx p o dp dq c s))
      case atStart => exact ⟨0, cb, _, rfl, by have := HREM.out; omega, rfl, (by show _ = _; rw [if_neg HD1.out.2]; exact HD1.out.1), HOB, HW3⟩
      case round =>
        obtain ⟨k, c, s, hrem, hk34, rfl, HDU, HOR, HWr⟩ := hrel
        clear HW3 HOB HD1 HREM
        have hk60 : (k : Int) < 60 := by omega
        cases gk with
        | zero =>
          have hph := (Ck.rem_zero HWr.out.cd.ck.ok).1 hrem
          have hdu := HDU.out
          rw [if_pos hph] at hdu
          have HX := Lib.hid (ckdur_any HWr.out.cd.ck)
          rw [hdu] at HX
          have HLA := Lib.hid (lasting_any HWr.out.cd.dv (HOR.out.lasts (.inl hph)))
          clear hrem hph hdu
          go_wp2_with fail
          refine HX.out.mono ?_
          rintro e w' ⟨rfl, rfl⟩
          go_wp2_with fail
          refine HX.out.mono ?_
          rintro e w' ⟨rfl, rfl⟩
          go_wp2_with fail
          refine HLA.out.mono ?_
          rintro e w4 ⟨rfl, hb4⟩
          have HB4 := Lib.hid (HWr.out.bel.trans (hb4.mono HWr.out.gw))
          clear hb4
          go_wp2_with fail
          refine (awake_any w4).mono ?_
          rintro e w5 ⟨rfl, hb5⟩
          have HB5 := Lib.hid (HB4.out.trans (hb5.mono (by have := HB4.out.size; have := HG.out; omega)))
          clear hb5
          go_wp2
          go_ret
          exact ⟨rfl, HB5.out⟩
        | succ gk =>
          have hph : c.ph ≠ 0 := fun e => by
            have := (Ck.rem_zero HWr.out.cd.ck.ok).2 e
            omega
          have hdu := HDU.out
          rw [if_neg hph] at hdu
          have HX := Lib.hid (ckdur_any HWr.out.cd.ck)
          rw [hdu] at HX
          have hrs := HWr.out.cd.ck.ok.rem hph
          have HRS : Hid (c.step.rem = gk) := by show _ = _; omega
          have HDS : Hid (c.step.dur = if c.step.ph = 0 then 1 else 0) := by
            show _ = _
            rcases c.step_dur hph with ⟨e1, e2⟩ | ⟨e1, e2⟩
            · rw [if_pos e1, e2, hdu]
            · rw [if_neg e1, e2, hdu]
          have HOS := Lib.hid (HOR.out.step HWr.out.cd.ck.ok hph)
          have HSP := Lib.hid (HWr.out.step (by omega))
          generalize c.step = cs at *
          generalize c.dev s = ss at *
          generalize c.act = act at *
          generalize c.stepE = stE at *
          clear hph hdu hrs hrem HDU HOR
          rcases Nat.lt_or_ge k len1 with hk1 | hk1
          · have hkk : (k : Int) < (len1 : Int) := by omega
            have HA1r : Hid (IsActs wr a1 len1 z1) := HA1.out.below (HG.out ▸ HWr.out.bel)
            obtain ⟨y, b, off, hx, hae, hbs, _⟩ := HA1r.out.at_ hk1
            have HA1y : Hid (∀ w', Below g w w' → w'.cell? ⟨b, off + k * 4 + 2, none⟩ = some (.int .i64 y.line)) := fun w' hb' => by
              obtain ⟨y', b', off', hx', hae', _, _, _, c2, _⟩ := (HA1.out.below (HG.out ▸ hb') : IsActs w' a1 len1 z1).at_ hk1
              rw [hae] at hae'
              cases hae'
              rw [hx] at hx'
              cases hx'
              exact c2
            subst hae
            have HLW := Lib.hid (fun w' => (low_any y.line 30 w' (by omega) (by omega) : Calls Try.prog 13 #[.int .i64 y.line, .int .i64 30] w' fun e w'' => e = .returned (.int .i64 (low y.line 30 : Nat)) ∧ w' = w''))
            generalize low y.line 30 = q at *
            clear hx hbs
            go_wp2_with fail
            refine HX.out.mono ?_
            rintro e w' ⟨rfl, rfl⟩
            go_wp2_with fail
            refine HSP.out.mono ?_
            rintro e v4 ⟨rfl, hw4⟩
            have HW4 := Lib.hid hw4
            have c2 := HA1y.out v4 hw4.bel
            clear hw4
            go_wp2_with fail
            refine (HLW.out _).mono ?_
            rintro e w' ⟨rfl, rfl⟩
            go_wp2_with fail
            refine (back_any HW4.out.cd.dv (q : Int)).mono ?_
            rintro e v5 ⟨rfl, hd5, ht5⟩
            have HW5 := Lib.hid (HW4.out.dv_turned hd5 ht5)
            have HO5 := Lib.hid (HOS.out.back (q : Int))
            clear hd5 ht5 c2 HA1y HA1r HLW
            generalize ss.back (q : Int) = s5 at *
            have HLD := Lib.hid (durable_at HW5.out.cd.dv 1 (by have := HO5.out.len; omega))
            have HTRI := Lib.hid HO5.out.tri
            have HCLN := Lib.hid (clAt_ok HW5.out.cd.dv 1 (by have := HO5.out.len; omega)).2.1
            rw [at_one] at HLD HCLN
            generalize (clAt s5.1 1).p = P at *
            go_wp2_with fail
            refine HLD.out.mono ?_
            rintro e v6 ⟨gb, rfl, hgb, harr, hb6⟩
            have HR6 := Lib.hid (harr.row (by rw [HCLN.out]; omega))
            have HW6 := Lib.hid (HW5.out.below hb6)
            clear hgb harr hb6
            rcases HTRI.out with ht | ⟨v, hv, hv1, rfl⟩ | ⟨rfl, ht⟩
            · go_wp2_with fail
              refine (isclock_no (some ⟨gb, 0, none⟩) 64 64 P HCLN.out v6 HR6.out ht).mono ?_
              rintro e v7 ⟨rfl, hb7⟩
              have HW7 := Lib.hid (HW6.out.below hb7)
              clear hb7
              go_wp2
              go_roundg gk
              case measure => omega
              case rel => exact ⟨k + 1, cs, s5, HRS.out, by omega, by go_num, HDS, HO5, HW7⟩
            · have hv2 : ((v : Int) == 1) = false := by
                have : ¬ (v : Int) = 1 := by omega
                simpa using this
              go_wp2_with fail
              refine (isclock_yes (some ⟨gb, 0, none⟩) 64 v hv v6 HR6.out).mono ?_
              rintro e v7 ⟨rfl, hb7⟩
              have HW7 := Lib.hid (HW6.out.below hb7)
              clear hb7 hv1
              generalize (v : Int) = vv at *
              go_wp2
              go_roundg gk
              case measure => omega
              case rel => exact ⟨k + 1, cs, s5, HRS.out, by omega, by go_num, HDS, HO5, HW7⟩
            · have HLA := Lib.hid (fun w' (h : DvS w' dp dq s5) => lasting_any h ht)
              have HV1 : Hid (Calls Try.prog 31 #[.slice (some ⟨gb, 0, none⟩) 64 64] v6 fun e w' => e = .returned (.tuple #[.int .u64 1, .bool true]) ∧ Below v6.heap.size v6 w') := isclock_yes (some ⟨gb, 0, none⟩) 64 1 (by omega) v6 HR6.out
              clear ht
              go_wp2_with fail
              refine HV1.out.mono ?_
              rintro e v7 ⟨rfl, hb7⟩
              have HW7 := Lib.hid (HW6.out.below hb7)
              clear hb7
              go_wp2_with fail
              refine (HLA.out v7 HW7.out.cd.dv).mono ?_
              rintro e v8 ⟨rfl, hb8⟩
              have HW8 := Lib.hid (HW7.out.below hb8)
              clear hb8
              go_wp2
              go_roundg gk
              case measure => omega
              case rel => exact ⟨k + 1, cs, s5, HRS.out, by omega, by go_num, HDS, HO5, HW8⟩
          · have hkk : ¬ (k : Int) < (len1 : Int) := by omega
            go_wp2_with fail
            refine HX.out.mono ?_
            rintro e w' ⟨rfl, rfl⟩
            go_wp2_with fail
            refine HSP.out.mono ?_
            rintro e v5 ⟨rfl, hw5⟩
            have HW5 := Lib.hid hw5
            have HO5 := HOS
            clear hw5
            generalize ss = s5 at *
            have HLD := Lib.hid (durable_at HW5.out.cd.dv 1 (by have := HO5.out.len; omega))
            have HTRI := Lib.hid HO5.out.tri
            have HCLN := Lib.hid (clAt_ok HW5.out.cd.dv 1 (by have := HO5.out.len; omega)).2.1
            rw [at_one] at HLD HCLN
            generalize (clAt s5.1 1).p = P at *
            go_wp2_with fail
            refine HLD.out.mono ?_
            rintro e v6 ⟨gb, rfl, hgb, harr, hb6⟩
            have HR6 := Lib.hid (harr.row (by rw [HCLN.out]; omega))
            have HW6 := Lib.hid (HW5.out.below hb6)
            clear hgb harr hb6
            rcases HTRI.out with ht | ⟨v, hv, hv1, rfl⟩ | ⟨rfl, ht⟩
            · go_wp2_with fail
              refine (isclock_no (some ⟨gb, 0, none⟩) 64 64 P HCLN.out v6 HR6.out ht).mono ?_
              rintro e v7 ⟨rfl, hb7⟩
              have HW7 := Lib.hid (HW6.out.below hb7)
              clear hb7
              go_wp2
              go_roundg gk
              case measure => omega
              case rel => exact ⟨k + 1, cs, s5, HRS.out, by omega, by go_num, HDS, HO5, HW7⟩
            · have hv2 : ((v : Int) == 1) = false := by
                have : ¬ (v : Int) = 1 := by omega
                simpa using this
              go_wp2_with fail
              refine (isclock_yes (some ⟨gb, 0, none⟩) 64 v hv v6 HR6.out).mono ?_
              rintro e v7 ⟨rfl, hb7⟩
              have HW7 := Lib.hid (HW6.out.below hb7)
              clear hb7 hv1
              generalize (v : Int) = vv at *
              go_wp2
              go_roundg gk
              case measure => omega
              case rel => exact ⟨k + 1, cs, s5, HRS.out, by omega, by go_num, HDS, HO5, HW7⟩
            · have HLA := Lib.hid (fun w' (h : DvS w' dp dq s5) => lasting_any h ht)
              have HV1 : Hid (Calls Try.prog 31 #[.slice (some ⟨gb, 0, none⟩) 64 64] v6 fun e w' => e = .returned (.tuple #[.int .u64 1, .bool true]) ∧ Below v6.heap.size v6 w') := isclock_yes (some ⟨gb, 0, none⟩) 64 1 (by omega) v6 HR6.out
              clear ht
              go_wp2_with fail
              refine HV1.out.mono ?_
              rintro e v7 ⟨rfl, hb7⟩
              have HW7 := Lib.hid (HW6.out.below hb7)
              clear hb7
              go_wp2_with fail
              refine (HLA.out v7 HW7.out.cd.dv).mono ?_
              rintro e v8 ⟨rfl, hb8⟩
              have HW8 := Lib.hid (HW7.out.below hb8)
              clear hb8
              go_wp2
              go_roundg gk
              case measure => omega
              case rel => exact ⟨k + 1, cs, s5, HRS.out, by omega, by go_num, HDS, HO5, HW8⟩
theorem walk (a0 : Option Addr) (len0 cap0 : Nat) (z0 : List ActP) (a1 : Option Addr) (len1 cap1 : Nat) (z1 : List ActP) (w : World) (w0 : IsActs w a0 len0 z0) (w1 : IsActs w a1 len1 z1) : Calls Try.prog 6 #[.slice a0 len0 cap0, .slice a1 len1 cap1] w fun e w' => e = .returned (.bool true) ∧ Below w.heap.size w w' := by
  rcases Classical.em (120 < len0) with h | h
  · exact many0 a0 a1 len0 cap0 len1 cap1 w h
  · rcases Classical.em (120 < len1) with h1 | h1
    · exact many1 a0 a1 len0 cap0 len1 cap1 w h h1
    · exact few a0 a1 len0 cap0 len1 cap1 z0 z1 w w0 w1 h h1

set_option maxRecDepth 100000 in
theorem lifted (os : Os) (started : os.Started) (H : Type) (enc : TypeId × Value → H) :
    ReturnsInHanded {} Try.checked os 6 .any (Rows.durableOrderSpec.pre6 enc Try.prog Try.f6 Rows.durableOrderRow.domain false) (Rows.durableOrderSpec.post enc Try.prog Try.f6 false true false false) := by
  refine returnsInHanded_of_change (C := Try.checked) own started (by kernel_rfl) Try.func6
    (ChangeSpec.witness6 (enc := enc) (C := Try.checked) false ⟨#[], #[.slice none 0 0, .slice none 0 0], []⟩ 8 (by kernel_rfl) (by kernel_rfl) (by kernel_rfl) (by kernel_rfl)) ?_
  intro W base args ds gs before hval0 hW hcnd _
  have hval : ∀ (j : Nat) t v, Try.f6.params[j]? = some t → args[j]? = some v → Value.okWide Try.prog W .any base t v := hval0
  have hW' := hW
  obtain ⟨p, q, hA0, hV, rfl, hfz, hnd⟩ := hW
  have hA : DataW.TrodAll enc Try.prog W 0 (fun _ => true) true Try.f6.params.toList args.toList ds p := hA0
  rw [Try.params6] at hA hval
  obtain ⟨v0, vs0, d0, ds0, p0, q0, hargs, rfl, rfl, h0, r0⟩ := trodAll_cons hA
  obtain ⟨v1, vs1, d1, ds1, p1, q1, rfl, rfl, rfl, h1, r1⟩ := trodAll_cons r0
  obtain ⟨rfl, rfl, rfl⟩ := trodAll_nil r1
  obtain rfl : args = #[v0, v1] := by cases args; simp_all
  obtain ⟨rfl, rfl⟩ := trodVars_none hV
  obtain ⟨a0, len0, cap0, rfl⟩ := okWide_slice Try.underlying23 (hval 0 23 v0 rfl rfl)
  have k0 := h0
  have lt0 : ∀ x ∈ p0, x.block < W.heap.size := by obtain ⟨m, hm⟩ := k0; exact DataW.trod_lt m _ _ _ hm
  obtain ⟨z0, w0⟩ : ∃ zs, IsActs W a0 len0 zs := by
    obtain ⟨fuel, hf⟩ := h0
    exact isActs_of hf
  obtain ⟨a1, len1, cap1, rfl⟩ := okWide_slice Try.underlying23 (hval 1 23 v1 rfl rfl)
  have k1 := h1
  have lt1 : ∀ x ∈ p1, x.block < W.heap.size := by obtain ⟨m, hm⟩ := k1; exact DataW.trod_lt m _ _ _ hm
  obtain ⟨z1, w1⟩ : ∃ zs, IsActs W a1 len1 zs := by
    obtain ⟨fuel, hf⟩ := h1
    exact isActs_of hf
  clear hA0 hval0
  refine (walk a0 len0 cap0 z0 a1 len1 cap1 z1 W w0 w1).mono fun e W' ⟨he, bel⟩ => ?_
  subst he
  exact ⟨_, rfl, _, _, _, [], _, [], hW', trodAll_mk1 (shut_bool Try.underlying4 _), (trodAll_cons_mk (Below.trod laidOut (by kernel_rfl) (of_decide_eq_true (by kernel_rfl)) k0 bel lt0) (trodAll_cons_mk (Below.trod laidOut (by kernel_rfl) (of_decide_eq_true (by kernel_rfl)) k1 bel lt1) trodAll_mk0)), rfl, bel.frame _, fun h => by cases h⟩

theorem over : Rows.durableOrderRow.holds Try.pinned (OpenSpec.ofChange Rows.durableOrderSpec) :=
  OpenClaim.holds_of_wide 6 Try.f6 rfl rfl rfl rfl rfl rfl rfl ⟨rfl, rfl, rfl, rfl, rfl⟩ rfl rfl rfl rfl rfl (by kernel_rfl) Try.func6 (by kernel_rfl)
    (of_decide_eq_true (by kernel_rfl)) (by unfold Func.isWrapper; first | (rw [if_pos (by decide +kernel)]; kernel_rfl) | (rw [if_neg (by decide +kernel)]; exact ⟨rfl, rfl⟩))
    (fun os started H enc _ => lifted os started H enc)

theorem proved : Rows.DurableOrderSaid := over
#print axioms proved
end Go.Proofs.Ytkcjamjjaallhaa.durableOrder
