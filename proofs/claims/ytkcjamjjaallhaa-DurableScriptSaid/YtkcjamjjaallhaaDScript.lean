/-
Proved here: DurableScript, for all numbers and every list of acts: whatever is noted, begun and stepped, and stored beside it, each call answers as the document says, and the device has both copies of each line so.
  Conditions: none.
-/
import Derived.Test.YtkcjamjjaallhaaRows
import Derived.Test.YtkcjamjjaallhaaRef9C
import Derived.IntWalk
import Derived.WalkSmall
import Derived.Deep.QuietTactic
import Derived.BigQuiet
import Derived.WalkKit
import Derived.ProofKit
import Derived.OpenShut
import Derived.ShutString
import Derived.ChangeOld
import Derived.Below
namespace Go.Proofs.Ytkcjamjjaallhaa.durableScript
open Go.ChangeShapes Go.WideShapes Go.ChangeAt Go.RowKit
open Go.ChangeMaps (open_string shut_string)
set_option linter.unusedVariables false

theorem own : ownKnob Try.prog.godebug = none := by kernel_rfl
theorem laidOut : laidOutB Try.prog = true := by kernel_rfl

set_option maxRecDepth 100000 in
set_option maxHeartbeats 1600000 in
theorem many (a0 a1 a2 : Int) (a3 : Option Addr) (len3 cap3 : Nat) (w : World) (hl : 120 < len3) : Calls Try.prog 3 #[.int .i64 a0, .int .u64 a1, .int .i64 a2, .slice a3 len3 cap3] w fun e w' => e = .returned (.bool true) ∧ Below w.heap.size w w' := by
  have h1 : (120 : Int) < (len3 : Int) := by omega
  have HAW := Lib.hid (awake_any w)
  clear hl
  go_enter Try.func3, Try.ntmps3
  go_wp2_with fail
  refine HAW.out.mono ?_
  rintro e w' ⟨rfl, hb⟩
  have HB := Lib.hid hb
  clear hb
  go_wp2
  go_ret
  exact ⟨rfl, HB.out⟩
set_option maxRecDepth 100000 in
set_option maxHeartbeats 3200000 in
theorem refused (a0 a1 a2 : Int) (a3 : Option Addr) (len3 cap3 : Nat) (w : World) (hl : ¬ 120 < len3) (E : Int) (HN : Hid (Calls Try.prog 9 #[.int .i64 a0, .int .u64 a1] w fun e w' => e = .returned (.tuple #[.pointer none, .int .i64 E]) ∧ w = w')) (HR : Hid (Calls Try.prog 10 #[.int .i64 a0, .int .u64 a1] w fun e w' => e = .returned (.tuple #[.pointer none, .int .i64 E]) ∧ w = w')) : Calls Try.prog 3 #[.int .i64 a0, .int .u64 a1, .int .i64 a2, .slice a3 len3 cap3] w fun e w' => e = .returned (.bool true) ∧ Below w.heap.size w w' := by
  have h1 : ¬ (120 : Int) < (len3 : Int) := by omega
  have hEE : (E != E) = false := by simp
  have HLW : Hid (∀ w', Calls Try.prog 13 #[.int .i64 a2, .int .i64 12] w' fun e w'' => e = .returned (.int .i64 (low a2 12 : Nat)) ∧ w' = w'') := fun w' => low_any a2 12 w' (by omega) (by omega)
  have hlt := low_lt a2 (n := 12) (by omega)
  generalize low a2 12 = q at *
  obtain ⟨m, hm⟩ : ∃ m, 1 + q = m := ⟨_, rfl⟩
  have hm1 : (1 : Int) + (q : Int) = (m : Int) := by omega
  have hmb : m ≤ 12 := by omega
  have HND := Lib.hid (fun w' => new_ok m (by omega) (by omega) w')
  have HNV := Lib.hid (fun w' => rnew_ok m (by omega) (by omega) w')
  unfold Made at HND
  unfold MadeR at HNV
  clear hl hlt hm
  go_enter Try.func3, Try.ntmps3
  go_wp2_with fail
  refine HN.out.mono ?_
  rintro e w' ⟨rfl, rfl⟩
  go_wp2_with fail
  refine HR.out.mono ?_
  rintro e w' ⟨rfl, rfl⟩
  go_wp2_with fail
  refine (num_any E _).mono ?_
  rintro e w' ⟨rfl, rfl⟩
  go_wp2_with fail
  refine (HLW.out _).mono ?_
  rintro e w' ⟨rfl, rfl⟩
  go_wp2_with fail
  refine (HND.out w).mono ?_
  rintro e v3 ⟨dp, dq, rfl, _, _, _, hb3⟩
  have HB3 := Lib.hid hb3
  clear hb3
  go_wp2_with fail
  refine (HLW.out _).mono ?_
  rintro e w' ⟨rfl, rfl⟩
  go_wp2_with fail
  refine (HNV.out v3).mono ?_
  rintro e v4 ⟨vp, vq, rfl, _, _, _, hb4⟩
  have HB4 := Lib.hid (HB3.out.trans (hb4.mono HB3.out.size))
  clear hb4
  go_wp2_with fail
  refine (awake_any v4).mono ?_
  rintro e v5 ⟨rfl, hb5⟩
  have HB5 := Lib.hid (HB4.out.trans (hb5.mono HB4.out.size))
  clear hb5
  go_wp2
  go_ret
  exact ⟨rfl, HB5.out⟩
set_option maxRecDepth 100000 in
set_option maxHeartbeats 16000000 in
theorem scripted (n D0 : Nat) (a2 : Int) (a3 : Option Addr) (len3 cap3 : Nat) (z3 : List ActP) (w : World) (w3 : IsActs w a3 len3 z3) (hl : ¬ 120 < len3) (hn1 : 1 ≤ n) (hn4 : n ≤ 4) (hd : D0 ≤ 1152921504606846976) : Calls Try.prog 3 #[.int .i64 n, .int .u64 D0, .int .i64 a2, .slice a3 len3 cap3] w fun e w' => e = .returned (.bool true) ∧ Below w.heap.size w w' := by
  have h1 : ¬ (120 : Int) < (len3 : Int) := by omega
  have HN := Lib.hid (cknew_ok n D0 hn1 hn4 hd w)
  have HNR := Lib.hid (fun w' => r9new_ok n D0 hn1 hn4 hd w')
  have HLW : Hid (∀ w', Calls Try.prog 13 #[.int .i64 a2, .int .i64 12] w' fun e w'' => e = .returned (.int .i64 (low a2 12 : Nat)) ∧ w' = w'') := fun w' => low_any a2 12 w' (by omega) (by omega)
  have hlt := low_lt a2 (n := 12) (by omega)
  generalize low a2 12 = q at *
  obtain ⟨m, hm⟩ : ∃ m, 1 + q = m := ⟨_, rfl⟩
  have hm1 : (1 : Int) + (q : Int) = (m : Int) := by omega
  have hmb : m ≤ 12 := by omega
  have HM0 : Hid (0 < m) := by show 0 < m; omega
  have HND := Lib.hid (fun w' => new_ok m (by omega) (by omega) w')
  have HNV := Lib.hid (fun w' => rnew_ok m (by omega) (by omega) w')
  have HA := Lib.hid w3
  obtain ⟨g, hg⟩ : ∃ g, w.heap.size = g := ⟨_, rfl⟩
  unfold MadeC at HN
  unfold Made9 at HNR
  unfold Made at HND
  unfold MadeR at HNV
  rw [hg] at HN ⊢
  have HG := Lib.hid hg
  have HL := Lib.hid hl
  have HDZ := Lib.hid hd
  clear w3 hg hl hlt hm hn1 hn4 hd
  go_enter Try.func3, Try.ntmps3
  go_wp2_with fail
  refine HN.out.mono ?_
  rintro e v1 ⟨p, o, rfl, hp, ho, hcm, hb⟩
  have HC1 := Lib.hid hcm
  have HP := Lib.hid hp
  have HO := Lib.hid ho
  have HB := Lib.hid hb
  clear hcm hp ho hb HN
  go_wp2_with fail
  refine (HNR.out v1).mono ?_
  rintro e v2 ⟨r, nb, rfl, hr, hnb, hnb2, hrn, hrm, hb2⟩
  have HR1 := Lib.hid hr
  have HR2 := Lib.hid hnb
  have HR3 := Lib.hid hnb2
  have HR4 := Lib.hid hrn
  have HR5 := Lib.hid hrm
  have HB2 := Lib.hid hb2
  clear hr hnb hnb2 hrn hrm hb2 HNR
  go_wp2_with fail
  refine (num_any 0 _).mono ?_
  rintro e w' ⟨rfl, rfl⟩
  go_wp2_with fail
  refine (HLW.out _).mono ?_
  rintro e w' ⟨rfl, rfl⟩
  go_wp2_with fail
  refine (HND.out v2).mono ?_
  rintro e v3 ⟨dp, dq, rfl, hdp, hdq, hd3, hb3⟩
  have HD1 := Lib.hid hdp
  have HD2 := Lib.hid hdq
  have HD3 := Lib.hid hd3
  have HB3 := Lib.hid hb3
  clear hdp hdq hd3 hb3 HND
  go_wp2_with fail
  refine (HLW.out _).mono ?_
  rintro e w' ⟨rfl, rfl⟩
  go_wp2_with fail
  refine (HNV.out v3).mono ?_
  rintro e v4 ⟨vp, vq, rfl, hvp, hvq, hv4, hb4⟩
  have HT0 := Lib.hid (t9_new HG.out HP.out HO.out HC1.out HB.out HR1.out HR2.out HR3.out HR4.out HR5.out HB2.out HD1.out HD2.out HD3.out HB3.out hvp hvq hv4 hb4 HM0.out)
  clear hvp hvq hv4 hb4 HNV HD1 HD2 HD3 HB3 HR1 HR2 HR3 HR4 HR5 HB2 HC1 HB HP HO HM0 HLW
  go_wp2
  go_loopg [17, 19, 20, 21, 22] len3 (fun gk s17 s19 s20 s21 s22 wx => ∃ (i M : Nat) (c : Ck) (s u : St), i + gk = len3 ∧ s17 = .int .i64 i ∧ Hid (M ≤ i) ∧ Hid (c.dur ≤ D0 + i) ∧ Hid (Sim s u) ∧ Hid (T9 [p, o, r, dp, dq, vp, vq] g w wx p o dp dq r vp vq c s c u M))
  case atStart => exact ⟨0, 0, ck0 n D0, _, _, by omega, rfl, Nat.le_refl 0, (by show D0 ≤ D0 + 0; omega), sim_fresh m, HT0⟩
  case round =>
    obtain ⟨i, M, c, s, u, hig, rfl, HMM, HDD, HSM, HTr⟩ := hrel
    clear HT0
    cases gk with
    | zero =>
      obtain rfl : i = len3 := by omega
      have hii : ¬ (i : Int) < (i : Int) := by omega
      go_wp2_with fail
      refine (ckstep_none p wr).mono ?_
      rintro e w' ⟨rfl, rfl⟩
      go_wp2_with fail
      refine HTr.out.alike.mono ?_
      rintro e y3 ⟨rfl, ht3⟩
      have HT3 := Lib.hid ht3
      clear ht3
      go_wp2_with fail
      refine (awake_any y3).mono ?_
      rintro e y4 ⟨rfl, hb4⟩
      have HB4 := Lib.hid (HT3.out.lw.bel.trans (hb4.mono HT3.out.gw))
      clear hb4
      go_wp2
      go_ret
      exact ⟨rfl, HB4.out⟩
    | succ gk =>
      have hii : (i : Int) < (len3 : Int) := by omega
      have HI : Hid (i < 120) := by have := HL.out; show i < 120; omega
      obtain ⟨y, b, off, hx, hae, hbs, _⟩ := HA.out.at_ (i := i) (by omega)
      subst hae
      have HRG : Hid (wr.rangeAt b (off + i * 4) [.int .i64 y.kd, .int .i64 y.t, .int .i64 y.line, .int .i64 y.b]) := fun j v hv => by
        rw [Nat.add_assoc]
        exact act9_at ((HA.out.below (HG.out ▸ HTr.out.lw.bel)) : IsActs wr (some ⟨b, off, none⟩) len3 z3) hx j v hv
      obtain ⟨bx, hbx⟩ : ∃ bx, wr.heap.size = bx := ⟨_, rfl⟩
      have HBS := Lib.hid hbx
      clear hx hbs hbx
      rcases Classical.em (y.kd = 0) with h0 | h0
      · have k0 : (y.kd == 0) = true := by simpa using h0
        clear h0
        have HMz : Hid (M + 1 ≤ i + 1) := by have := HMM.out; show _ ≤ _; omega
        have HDz : Hid ((c.note y.t y.line).dur ≤ D0 + (i + 1)) := by rw [Ck.note_dur]; have := HDD.out; show _ ≤ _; omega
        have hne : (c.noteE y.t y.line != c.noteE y.t y.line) = false := by simp
        go_wp2_with (first | ((with_reducible show wpList _ _ _ (⟨some 86, _, _, _, _, _⟩ :: _) _ _); refine wpList_load_agg (o := ⟨some 86, _, _, _, _, _⟩) rfl 41 (.tmp 85) rfl b (off + i * 4) rfl [.int .i64 y.kd, .int .i64 y.t, .int .i64 y.line, .int .i64 y.b] _ HRG.out Try.underlying41 rfl size_act9 ?_) | ((with_reducible show wpList _ _ _ (⟨some 18, .alloc _, _, _, _, _⟩ :: _) _ _); refine wpList_alloc_var (o := ⟨some 18, _, _, _, _, _⟩) rfl 41 rfl bx HBS.out _ zero_act9 ?_; intro y1 HA1 HB1) | ((with_reducible show wpList _ _ _ (⟨none, .store 41 _ _, _, _, _, _⟩ :: _) _ _); refine wpList_store_whole (o := ⟨none, .store 41 (.tmp 18) (.tmp 86), _, _, _, _⟩) rfl _ _ _ rfl rfl bx #[.int .i64 y.kd, .int .i64 y.t, .int .i64 y.line, .int .i64 y.b] rfl rfl 41 _ HA1.out size_act9 rfl (ones4 y.kd y.t y.line y.b) ?_; intro y2 HA2 HB2; have HT2 := Lib.hid (HTr.out.below (HBS.out.symm ▸ HB1.out.trans HB2.out)); have HBX := Lib.hid (bx9_new HTr.out HBS.out HA2.out); have d0 := HBX.out.c0; have d1 := HBX.out.c1; have d2 := HBX.out.c2; have d3 := HBX.out.c3) | fail)
        have HP := Lib.hid (HT2.out.drew9.note_p y.t y.line)
        have HBXd := Lib.hid HBX.out.drew
        go_region_held3 (fun w' => w'.cell? ⟨bx, 1, none⟩ = some (.int .i64 y.t) ∧ w'.cell? ⟨bx, 2, none⟩ = some (.int .i64 y.line)) (go_keep)
          (first
            | (go_at_call 15; refine HP.out.mono ?_; rintro e y3 ⟨rfl, ht3, hk3⟩; have HT3 := Lib.hid ht3; have HBX3 := Lib.hid (HBXd.out.keeps hk3 HT2.out.lw.sub); have f1 := HBX3.out.c1; have f2 := HBX3.out.c2; have HQ := Lib.hid (ht3.note_r (by have := HMM.out; have := HI.out; omega) y.t y.line); clear ht3 hk3)
            | (go_at_call 11; refine (num_any _ _).mono ?_; rintro e w' ⟨rfl, rfl⟩)
            | (go_at_call 16; refine HQ.out.mono ?_; rintro e y4 ⟨rfl, ht4, hf4⟩; have HTz := Lib.hid ht4; have HBX4 := Lib.hid (HBX3.out.fr hf4 (by simp)); have k1 := HBX4.out.c1; have k2 := HBX4.out.c2; clear ht4 hf4))
        go_wp2_with fail
        refine HTz.out.alike.mono ?_
        rintro e y8 ⟨rfl, ht8⟩
        have HT8 := Lib.hid ht8
        clear ht8
        go_wp2_with fail
        refine (HT8.out.lines HSM.out).mono ?_
        rintro e y9 ⟨rfl, ht9⟩
        have HT9 := Lib.hid ht9
        clear ht9
        go_wp2
        go_roundg gk
        case measure => omega
        case rel => exact ⟨i + 1, _, _, _, _, by omega, by go_num, HMz, HDz, HSM, HT9⟩
      · have k0 : (y.kd == 0) = false := by simpa using h0
        clear h0
        rcases Classical.em (y.kd = 1) with h1' | h1'
        · have k1 : (y.kd == 1) = true := by simpa using h1'
          clear h1'
          have HMz : Hid (M ≤ i + 1) := by have := HMM.out; show _ ≤ _; omega
          have HDz : Hid (c.begin_.dur ≤ D0 + (i + 1)) := by have := begin_dur9 c; have := HDD.out; show _ ≤ _; omega
          have hne : (c.beginE != c.beginE) = false := by simp
          go_wp2_with (first | ((with_reducible show wpList _ _ _ (⟨some 86, _, _, _, _, _⟩ :: _) _ _); refine wpList_load_agg (o := ⟨some 86, _, _, _, _, _⟩) rfl 41 (.tmp 85) rfl b (off + i * 4) rfl [.int .i64 y.kd, .int .i64 y.t, .int .i64 y.line, .int .i64 y.b] _ HRG.out Try.underlying41 rfl size_act9 ?_) | ((with_reducible show wpList _ _ _ (⟨some 18, .alloc _, _, _, _, _⟩ :: _) _ _); refine wpList_alloc_var (o := ⟨some 18, _, _, _, _, _⟩) rfl 41 rfl bx HBS.out _ zero_act9 ?_; intro y1 HA1 HB1) | ((with_reducible show wpList _ _ _ (⟨none, .store 41 _ _, _, _, _, _⟩ :: _) _ _); refine wpList_store_whole (o := ⟨none, .store 41 (.tmp 18) (.tmp 86), _, _, _, _⟩) rfl _ _ _ rfl rfl bx #[.int .i64 y.kd, .int .i64 y.t, .int .i64 y.line, .int .i64 y.b] rfl rfl 41 _ HA1.out size_act9 rfl (ones4 y.kd y.t y.line y.b) ?_; intro y2 HA2 HB2; have HT2 := Lib.hid (HTr.out.below (HBS.out.symm ▸ HB1.out.trans HB2.out)); have HBX := Lib.hid (bx9_new HTr.out HBS.out HA2.out); have d0 := HBX.out.c0; have d1 := HBX.out.c1; have d2 := HBX.out.c2; have d3 := HBX.out.c3) | fail)
          refine HT2.out.begin_p.mono ?_
          rintro e y3 ⟨rfl, ht3⟩
          have HQ := Lib.hid ht3.begin_r
          clear ht3
          go_wp2_with fail
          refine (num_any _ _).mono ?_
          rintro e w' ⟨rfl, rfl⟩
          go_wp2_with fail
          refine HQ.out.mono ?_
          rintro e y4 ⟨rfl, ht4⟩
          have HTz := Lib.hid ht4
          clear ht4
          go_wp2_with fail
          refine HTz.out.alike.mono ?_
          rintro e y8 ⟨rfl, ht8⟩
          have HT8 := Lib.hid ht8
          clear ht8
          go_wp2_with fail
          refine (HT8.out.lines HSM.out).mono ?_
          rintro e y9 ⟨rfl, ht9⟩
          have HT9 := Lib.hid ht9
          clear ht9
          go_wp2
          go_roundg gk
          case measure => omega
          case rel => exact ⟨i + 1, _, _, _, _, by omega, by go_num, HMz, HDz, HSM, HT9⟩
        · have k1 : (y.kd == 1) = false := by simpa using h1'
          clear h1'
          rcases Classical.em (y.kd = 2) with h2 | h2
          · have k2 : (y.kd == 2) = true := by simpa using h2
            clear h2
            have HMz : Hid (M ≤ i + 1) := by have := HMM.out; show _ ≤ _; omega
            have HDz : Hid (c.step.dur ≤ D0 + (i + 1)) := by have := step_dur9 c; have := HDD.out; show _ ≤ _; omega
            have hne : (c.act != c.act) = false := by simp
            have hnf : (c.stepE != c.stepE) = false := by simp
            have HLT : Hid (c.dur + 3 < 18446744073709551616) := by have := HDD.out; have := HDZ.out; have := HI.out; show _ < _; omega
            have HSd := Lib.hid (HSM.out.dev c)
            go_wp2_with (first | ((with_reducible show wpList _ _ _ (⟨some 86, _, _, _, _, _⟩ :: _) _ _); refine wpList_load_agg (o := ⟨some 86, _, _, _, _, _⟩) rfl 41 (.tmp 85) rfl b (off + i * 4) rfl [.int .i64 y.kd, .int .i64 y.t, .int .i64 y.line, .int .i64 y.b] _ HRG.out Try.underlying41 rfl size_act9 ?_) | ((with_reducible show wpList _ _ _ (⟨some 18, .alloc _, _, _, _, _⟩ :: _) _ _); refine wpList_alloc_var (o := ⟨some 18, _, _, _, _, _⟩) rfl 41 rfl bx HBS.out _ zero_act9 ?_; intro y1 HA1 HB1) | ((with_reducible show wpList _ _ _ (⟨none, .store 41 _ _, _, _, _, _⟩ :: _) _ _); refine wpList_store_whole (o := ⟨none, .store 41 (.tmp 18) (.tmp 86), _, _, _, _⟩) rfl _ _ _ rfl rfl bx #[.int .i64 y.kd, .int .i64 y.t, .int .i64 y.line, .int .i64 y.b] rfl rfl 41 _ HA1.out size_act9 rfl (ones4 y.kd y.t y.line y.b) ?_; intro y2 HA2 HB2; have HT2 := Lib.hid (HTr.out.below (HBS.out.symm ▸ HB1.out.trans HB2.out)); have HBX := Lib.hid (bx9_new HTr.out HBS.out HA2.out); have d0 := HBX.out.c0; have d1 := HBX.out.c1; have d2 := HBX.out.c2; have d3 := HBX.out.c3) | fail)
            refine (HT2.out.step_p HLT.out).mono ?_
            rintro e y3 ⟨rfl, ht3⟩
            have HQ := Lib.hid (ht3.step_r HLT.out)
            clear ht3
            go_wp2_with fail
            refine HQ.out.mono ?_
            rintro e y4 ⟨rfl, ht4⟩
            have HTz := Lib.hid ht4
            clear ht4
            go_wp2_with fail
            refine (num_any _ _).mono ?_
            rintro e w' ⟨rfl, rfl⟩
            go_wp2_with fail
            refine HTz.out.alike.mono ?_
            rintro e y8 ⟨rfl, ht8⟩
            have HT8 := Lib.hid ht8
            clear ht8
            go_wp2_with fail
            refine (HT8.out.lines HSd.out).mono ?_
            rintro e y9 ⟨rfl, ht9⟩
            have HT9 := Lib.hid ht9
            clear ht9
            go_wp2
            go_roundg gk
            case measure => omega
            case rel => exact ⟨i + 1, _, _, _, _, by omega, by go_num, HMz, HDz, HSd, HT9⟩
          · have k2 : (y.kd == 2) = false := by simpa using h2
            clear h2
            rcases Classical.em (y.kd = 3) with h3 | h3
            · have k3 : (y.kd == 3) = true := by simpa using h3
              clear h3
              have HMz : Hid (M ≤ i + 1) := by have := HMM.out; show _ ≤ _; omega
              have HDz : Hid (c.dur ≤ D0 + (i + 1)) := by have := HDD.out; show _ ≤ _; omega
              obtain ⟨X, hX⟩ := u8_of9 y.b
              have HSd := Lib.hid (HSM.out.store y.line 3 [X])
              go_wp2_with (first | ((with_reducible show wpList _ _ _ (⟨some 86, _, _, _, _, _⟩ :: _) _ _); refine wpList_load_agg (o := ⟨some 86, _, _, _, _, _⟩) rfl 41 (.tmp 85) rfl b (off + i * 4) rfl [.int .i64 y.kd, .int .i64 y.t, .int .i64 y.line, .int .i64 y.b] _ HRG.out Try.underlying41 rfl size_act9 ?_) | ((with_reducible show wpList _ _ _ (⟨some 18, .alloc _, _, _, _, _⟩ :: _) _ _); refine wpList_alloc_var (o := ⟨some 18, _, _, _, _, _⟩) rfl 41 rfl bx HBS.out _ zero_act9 ?_; intro y1 HA1 HB1) | ((with_reducible show wpList _ _ _ (⟨none, .store 41 _ _, _, _, _, _⟩ :: _) _ _); refine wpList_store_whole (o := ⟨none, .store 41 (.tmp 18) (.tmp 86), _, _, _, _⟩) rfl _ _ _ rfl rfl bx #[.int .i64 y.kd, .int .i64 y.t, .int .i64 y.line, .int .i64 y.b] rfl rfl 41 _ HA1.out size_act9 rfl (ones4 y.kd y.t y.line y.b) ?_; intro y2 HA2 HB2; have HT2 := Lib.hid (HTr.out.below (HBS.out.symm ▸ HB1.out.trans HB2.out)); have HBX := Lib.hid (bx9_new HTr.out HBS.out HA2.out); have d0 := HBX.out.c0; have d1 := HBX.out.c1; have d2 := HBX.out.c2; have d3 := HBX.out.c3) | fail)
              have hba : Below y2.heap.size y2 (y2.alloc (.cells #[.int .u8 ((X.toNat : Nat) : Int)] 5)) := (Below.refl _ _).alloc (Nat.le_refl _) _
              refine ((HT2.out.below hba).store_p y.line 3 (some ⟨y2.heap.size, 0, none⟩) 1 1 [X] rfl (row_one y2 X) (by intro h; cases h)).mono ?_
              rintro e y3 ⟨rfl, ht3, hk3⟩
              have HT3 := Lib.hid ht3
              have HBX3 := Lib.hid ((HBX.out.below hba).keeps hk3 HT2.out.lw.sub)
              have f2 := HBX3.out.c2
              have f3 := HBX3.out.c3
              have hba3 : Below y3.heap.size y3 (y3.alloc (.cells #[.int .u8 ((X.toNat : Nat) : Int)] 5)) := (Below.refl _ _).alloc (Nat.le_refl _) _
              have HQ := Lib.hid ((ht3.below hba3).store_r y.line 3 (some ⟨y3.heap.size, 0, none⟩) 1 1 [X] rfl (row_one y3 X) (fun _ x hx => by cases hx; exact ht3.new9))
              clear ht3 hk3 hba hba3
              go_wp2_with fail
              refine HQ.out.mono ?_
              rintro e y4 ⟨rfl, ht4⟩
              have HTz := Lib.hid ht4
              clear ht4
              go_wp2_with fail
              refine HTz.out.alike.mono ?_
              rintro e y8 ⟨rfl, ht8⟩
              have HT8 := Lib.hid ht8
              clear ht8
              go_wp2_with fail
              refine (HT8.out.lines HSd.out).mono ?_
              rintro e y9 ⟨rfl, ht9⟩
              have HT9 := Lib.hid ht9
              clear ht9
              go_wp2
              go_roundg gk
              case measure => omega
              case rel => exact ⟨i + 1, _, _, _, _, by omega, by go_num, HMz, HDz, HSd, HT9⟩
            · have k3 : (y.kd == 3) = false := by simpa using h3
              clear h3
              rcases Classical.em (y.kd = 4) with h4 | h4
              · have k4 : (y.kd == 4) = true := by simpa using h4
                clear h4
                have HMz : Hid (M ≤ i + 1) := by have := HMM.out; show _ ≤ _; omega
                have HDz : Hid (c.dur ≤ D0 + (i + 1)) := by have := HDD.out; show _ ≤ _; omega
                have HSd := Lib.hid (HSM.out.back y.line)
                go_wp2_with (first | ((with_reducible show wpList _ _ _ (⟨some 86, _, _, _, _, _⟩ :: _) _ _); refine wpList_load_agg (o := ⟨some 86, _, _, _, _, _⟩) rfl 41 (.tmp 85) rfl b (off + i * 4) rfl [.int .i64 y.kd, .int .i64 y.t, .int .i64 y.line, .int .i64 y.b] _ HRG.out Try.underlying41 rfl size_act9 ?_) | ((with_reducible show wpList _ _ _ (⟨some 18, .alloc _, _, _, _, _⟩ :: _) _ _); refine wpList_alloc_var (o := ⟨some 18, _, _, _, _, _⟩) rfl 41 rfl bx HBS.out _ zero_act9 ?_; intro y1 HA1 HB1) | ((with_reducible show wpList _ _ _ (⟨none, .store 41 _ _, _, _, _, _⟩ :: _) _ _); refine wpList_store_whole (o := ⟨none, .store 41 (.tmp 18) (.tmp 86), _, _, _, _⟩) rfl _ _ _ rfl rfl bx #[.int .i64 y.kd, .int .i64 y.t, .int .i64 y.line, .int .i64 y.b] rfl rfl 41 _ HA1.out size_act9 rfl (ones4 y.kd y.t y.line y.b) ?_; intro y2 HA2 HB2; have HT2 := Lib.hid (HTr.out.below (HBS.out.symm ▸ HB1.out.trans HB2.out)); have HBX := Lib.hid (bx9_new HTr.out HBS.out HA2.out); have d0 := HBX.out.c0; have d1 := HBX.out.c1; have d2 := HBX.out.c2; have d3 := HBX.out.c3) | fail)
                refine (HT2.out.back_p y.line).mono ?_
                rintro e y3 ⟨rfl, ht3, hk3⟩
                have HBX3 := Lib.hid (HBX.out.keeps hk3 HT2.out.lw.sub)
                have f2 := HBX3.out.c2
                have HQ := Lib.hid (ht3.back_r y.line)
                clear ht3 hk3
                go_wp2_with fail
                refine HQ.out.mono ?_
                rintro e y4 ⟨rfl, ht4⟩
                have HTz := Lib.hid ht4
                clear ht4
                go_wp2_with fail
                refine HTz.out.alike.mono ?_
                rintro e y8 ⟨rfl, ht8⟩
                have HT8 := Lib.hid ht8
                clear ht8
                go_wp2_with fail
                refine (HT8.out.lines HSd.out).mono ?_
                rintro e y9 ⟨rfl, ht9⟩
                have HT9 := Lib.hid ht9
                clear ht9
                go_wp2
                go_roundg gk
                case measure => omega
                case rel => exact ⟨i + 1, _, _, _, _, by omega, by go_num, HMz, HDz, HSd, HT9⟩
              · have k4 : (y.kd == 4) = false := by simpa using h4
                clear h4
                have HMz : Hid (M ≤ i + 1) := by have := HMM.out; show _ ≤ _; omega
                have HDz : Hid (c.dur ≤ D0 + (i + 1)) := by have := HDD.out; show _ ≤ _; omega
                go_wp2_with (first | ((with_reducible show wpList _ _ _ (⟨some 86, _, _, _, _, _⟩ :: _) _ _); refine wpList_load_agg (o := ⟨some 86, _, _, _, _, _⟩) rfl 41 (.tmp 85) rfl b (off + i * 4) rfl [.int .i64 y.kd, .int .i64 y.t, .int .i64 y.line, .int .i64 y.b] _ HRG.out Try.underlying41 rfl size_act9 ?_) | ((with_reducible show wpList _ _ _ (⟨some 18, .alloc _, _, _, _, _⟩ :: _) _ _); refine wpList_alloc_var (o := ⟨some 18, _, _, _, _, _⟩) rfl 41 rfl bx HBS.out _ zero_act9 ?_; intro y1 HA1 HB1) | ((with_reducible show wpList _ _ _ (⟨none, .store 41 _ _, _, _, _, _⟩ :: _) _ _); refine wpList_store_whole (o := ⟨none, .store 41 (.tmp 18) (.tmp 86), _, _, _, _⟩) rfl _ _ _ rfl rfl bx #[.int .i64 y.kd, .int .i64 y.t, .int .i64 y.line, .int .i64 y.b] rfl rfl 41 _ HA1.out size_act9 rfl (ones4 y.kd y.t y.line y.b) ?_; intro y2 HA2 HB2; have HT2 := Lib.hid (HTr.out.below (HBS.out.symm ▸ HB1.out.trans HB2.out)); have HBX := Lib.hid (bx9_new HTr.out HBS.out HA2.out); have d0 := HBX.out.c0; have d1 := HBX.out.c1; have d2 := HBX.out.c2; have d3 := HBX.out.c3) | fail)
                have HTz := HT2
                refine HTz.out.alike.mono ?_
                rintro e y8 ⟨rfl, ht8⟩
                have HT8 := Lib.hid ht8
                clear ht8
                go_wp2_with fail
                refine (HT8.out.lines HSM.out).mono ?_
                rintro e y9 ⟨rfl, ht9⟩
                have HT9 := Lib.hid ht9
                clear ht9
                go_wp2
                go_roundg gk
                case measure => omega
                case rel => exact ⟨i + 1, _, _, _, _, by omega, by go_num, HMz, HDz, HSM, HT9⟩
theorem walk (a0 a1 a2 : Int) (a3 : Option Addr) (len3 cap3 : Nat) (z3 : List ActP) (w : World) (w0 : (Lit.int .i64 a0).wf = true) (w1 : (Lit.int .u64 a1).wf = true) (w2 : (Lit.int .i64 a2).wf = true) (w3 : IsActs w a3 len3 z3) : Calls Try.prog 3 #[.int .i64 a0, .int .u64 a1, .int .i64 a2, .slice a3 len3 cap3] w fun e w' => e = .returned (.bool true) ∧ Below w.heap.size w w' := by
  rcases Classical.em (120 < len3) with hl | hl
  · exact many a0 a1 a2 a3 len3 cap3 w hl
  obtain ⟨D, rfl, hD⟩ := u64_nat9 a1 w1
  rcases Classical.em (a0 < 1 ∨ 4 < a0) with h | h
  · exact refused a0 D a2 a3 len3 cap3 w hl 2 (cknew_bad a0 D h w) (r9new_bad a0 D h w)
  obtain ⟨n, rfl⟩ := Int.eq_ofNat_of_zero_le (show 0 ≤ a0 by omega)
  rcases Classical.em (1152921504606846976 < D) with h' | h'
  · exact refused n D a2 a3 len3 cap3 w hl 10 (cknew_end n D (by omega) (by omega) (by omega) w) (r9new_end n D (by omega) (by omega) (by omega) w)
  exact scripted n D a2 a3 len3 cap3 z3 w w3 hl (by omega) (by omega) (by omega)

set_option maxRecDepth 100000 in
theorem lifted (os : Os) (started : os.Started) (H : Type) (enc : TypeId × Value → H) :
    ReturnsInHanded {} Try.checked os 3 .any (Rows.durableScriptSpec.pre6 enc Try.prog Try.f3 Rows.durableScriptRow.domain false) (Rows.durableScriptSpec.post enc Try.prog Try.f3 false true false false) := by
  refine returnsInHanded_of_change (C := Try.checked) own started (by kernel_rfl) Try.func3
    (ChangeSpec.witness6 (enc := enc) (C := Try.checked) false ⟨#[], #[.int .i64 0, .int .u64 0, .int .i64 0, .slice none 0 0], []⟩ 8 (by kernel_rfl) (by kernel_rfl) (by kernel_rfl) (by kernel_rfl)) ?_
  intro W base args ds gs before hval0 hW hcnd _
  have hval : ∀ (j : Nat) t v, Try.f3.params[j]? = some t → args[j]? = some v → Value.okWide Try.prog W .any base t v := hval0
  have hW' := hW
  obtain ⟨p, q, hA0, hV, rfl, hfz, hnd⟩ := hW
  have hA : DataW.TrodAll enc Try.prog W 0 (fun _ => true) true Try.f3.params.toList args.toList ds p := hA0
  rw [Try.params3] at hA hval
  obtain ⟨v0, vs0, d0, ds0, p0, q0, hargs, rfl, rfl, h0, r0⟩ := trodAll_cons hA
  obtain ⟨v1, vs1, d1, ds1, p1, q1, rfl, rfl, rfl, h1, r1⟩ := trodAll_cons r0
  obtain ⟨v2, vs2, d2, ds2, p2, q2, rfl, rfl, rfl, h2, r2⟩ := trodAll_cons r1
  obtain ⟨v3, vs3, d3, ds3, p3, q3, rfl, rfl, rfl, h3, r3⟩ := trodAll_cons r2
  obtain ⟨rfl, rfl, rfl⟩ := trodAll_nil r3
  obtain rfl : args = #[v0, v1, v2, v3] := by cases args; simp_all
  obtain ⟨rfl, rfl⟩ := trodVars_none hV
  obtain ⟨a0, rfl, rfl, rfl, w0⟩ := open_int Try.underlying3 (hval 0 3 v0 rfl rfl) h0
  obtain ⟨a1, rfl, rfl, rfl, w1⟩ := open_int Try.underlying22 (hval 1 22 v1 rfl rfl) h1
  obtain ⟨a2, rfl, rfl, rfl, w2⟩ := open_int Try.underlying3 (hval 2 3 v2 rfl rfl) h2
  obtain ⟨a3, len3, cap3, rfl⟩ := okWide_slice Try.underlying23 (hval 3 23 v3 rfl rfl)
  have k3 := h3
  have lt3 : ∀ x ∈ p3, x.block < W.heap.size := by obtain ⟨m, hm⟩ := k3; exact DataW.trod_lt m _ _ _ hm
  obtain ⟨z3, w3⟩ : ∃ zs, IsActs W a3 len3 zs := by
    obtain ⟨fuel, hf⟩ := h3
    exact isActs_of hf
  clear hA0 hval0
  refine (walk a0 a1 a2 a3 len3 cap3 z3 W w0 w1 w2 w3).mono fun e W' ⟨he, bel⟩ => ?_
  subst he
  exact ⟨_, rfl, _, _, _, [], _, [], hW', trodAll_mk1 (shut_bool Try.underlying4 _), (trodAll_cons_mk (shut_int Try.underlying3 w0) (trodAll_cons_mk (shut_int Try.underlying22 w1) (trodAll_cons_mk (shut_int Try.underlying3 w2) (trodAll_cons_mk (Below.trod laidOut (by kernel_rfl) (of_decide_eq_true (by kernel_rfl)) k3 bel lt3) trodAll_mk0)))), rfl, bel.frame _, fun h => by cases h⟩

theorem over : Rows.durableScriptRow.holds Try.pinned (OpenSpec.ofChange Rows.durableScriptSpec) :=
  OpenClaim.holds_of_wide 3 Try.f3 rfl rfl rfl rfl rfl rfl rfl ⟨rfl, rfl, rfl, rfl, rfl⟩ rfl rfl rfl rfl rfl (by kernel_rfl) Try.func3 (by kernel_rfl)
    (of_decide_eq_true (by kernel_rfl)) (by unfold Func.isWrapper; first | (rw [if_pos (by decide +kernel)]; kernel_rfl) | (rw [if_neg (by decide +kernel)]; exact ⟨rfl, rfl⟩))
    (fun os started H enc _ => lifted os started H enc)

theorem proved : Rows.DurableScriptSaid := over
#print axioms proved
end Go.Proofs.Ytkcjamjjaallhaa.durableScript
