/-
Proved here: the least of what is announced is announced by one who is inside, and by none less, whatever acts are handed in.
  Conditions: none.
-/
import Derived.Test.YthkiollggmeflaaRows
import Derived.Test.YthkiollggmeflaaTwo8
import Derived.Test.YthkiollggmeflaaNum
import Derived.IntWalk
import Derived.WalkSmall
import Derived.Deep.QuietTactic
import Derived.BigQuiet
import Derived.WalkKit
import Derived.ProofKit
import Derived.OpenShut
import Derived.ShutString
import Derived.ChangeOld
import Derived.Below
namespace Go.Proofs.Ythkiollggmeflaa.readerLeast
open Go.ChangeShapes Go.WideShapes Go.ChangeAt Go.RowKit
open Go.ChangeMaps (open_string shut_string)
set_option linter.unusedVariables false

theorem own : ownKnob Try.prog.godebug = none := by kernel_rfl
theorem laidOut : laidOutB Try.prog = true := by kernel_rfl

theorem any_take (f : Nat → Bool) (L : List Nat) (t : Nat) (ht : t < L.length) : (L.take (t + 1)).any f = ((L.take t).any f || f (L.getD t 0)) := by
  rw [List.take_succ_eq_append_getElem ht, List.any_append]
  simp [List.getD, List.getElem?_eq_getElem ht]
theorem any_last {L : List Nat} {m : Nat} (hl : L.length = 4) (hm : m ∈ L) (f : Nat → Bool) (hf : f m = true) : (L.take 4).any f = true := by
  rw [List.take_of_length_le (by omega), List.any_eq_true]
  exact ⟨m, hm, hf⟩
theorem getD_mem {L : List Nat} {t : Nat} (ht : t < L.length) : L.getD t 0 ∈ L := by
  simp only [List.getD, List.getElem?_eq_getElem ht, Option.getD_some]
  exact List.getElem_mem ht
set_option maxRecDepth 100000 in
set_option maxHeartbeats 1600000 in
theorem many (a0 : Option Addr) (len0 cap0 : Nat) (w : World) (hl : 200 < len0) (hlen : len0 ≤ 2 ^ 63 - 1) :
    Calls Try.prog 5 #[.slice a0 len0 cap0] w fun e w' => e = .returned (.bool true) ∧ Below w.heap.size w w' := by
  have h1 : (200 : Int) < (len0 : Int) := by omega
  have HAW := Lib.hid (awake_any w)
  clear hl
  go_enter Try.func5, Try.ntmps5
  go_wp2_with fail
  refine HAW.out.mono ?_
  rintro e w' ⟨rfl, hb⟩
  have HB := Lib.hid hb
  clear hb
  go_wp2
  go_ret
  exact ⟨rfl, HB.out⟩
set_option maxRecDepth 100000 in
set_option maxHeartbeats 16000000 in
theorem fewer (a0 : Option Addr) (len0 cap0 : Nat) (z0 : List ActP) (w : World) (w0 : IsActs w a0 len0 z0) (hl : len0 ≤ 200) :
    Calls Try.prog 5 #[.slice a0 len0 cap0] w fun e w' => e = .returned (.bool true) ∧ Below w.heap.size w w' := by
  have h1 : ¬ (200 : Int) < (len0 : Int) := by omega
  have HN := Lib.hid (rdnew_ok 4 (by omega) (by omega) w)
  unfold MadeRd at HN
  have HA := Lib.hid w0
  obtain ⟨g, hg⟩ : ∃ g, w.heap.size = g := ⟨_, rfl⟩
  rw [hg] at HN ⊢
  have HG := Lib.hid hg
  clear w0 hg
  go_enter Try.func5, Try.ntmps5
  go_wp2_with fail
  refine HN.out.mono ?_
  rintro e v1 ⟨p, q, rfl, hp, hq, hpl, hb⟩
  have HP := Lib.hid hp
  have HQ := Lib.hid hq
  have HPL := Lib.hid hpl
  have HB := Lib.hid hb
  clear hp hq hpl hb HN
  go_wp2
  go_loopg [5] len0 (fun gk s5 wx => ∃ (i now : Nat) (L : List Nat), i + gk = len0 ∧ s5 = .int .i64 i ∧ now ≤ i + 1 ∧ Hid (L.length = 4) ∧ Hid (RdP wx p q L now) ∧ Hid (Below g w wx))
  case atStart => exact ⟨0, 1, _, by omega, rfl, by omega, List.length_replicate, HPL, HB⟩
  case round =>
    obtain ⟨i, now, L, hin, rfl, hnow, HL4, HPr, HW⟩ := hrel
    have HNW : Hid (now ≤ i + 1) := hnow
    have HGW : Hid (g ≤ wr.heap.size) := by have := HG.out; have := HW.out.size; show g ≤ wr.heap.size; omega
    clear HPL HB hnow
    cases gk with
    | zero =>
      obtain rfl : i = len0 := by omega
      have hii : ¬ (i : Int) < (i : Int) := by omega
      have HAW := Lib.hid (awake_any wr)
      go_wp2_with fail
      refine HAW.out.mono ?_
      rintro e v4 ⟨rfl, hb⟩
      have HB4 := Lib.hid hb
      clear hb
      go_wp2
      go_ret
      exact ⟨rfl, HW.out.trans (HB4.out.mono HGW.out)⟩
    | succ go =>
      have hii : (i : Int) < (len0 : Int) := by omega
      have HAr : Hid (IsActs wr a0 len0 z0) := HA.out.below (HG.out ▸ HW.out)
      obtain ⟨y, b, off, hx, rfl, hbs, c0, c1⟩ := HAr.out.at_ (i := i) (by omega)
      clear hx hbs
      rcases Classical.em (y.kd = 0) with k0 | k0
      · have m0 : (y.kd == 0) = true := by simpa using k0
        clear k0
        have H1 := Lib.hid (rdenter_any HPr.out y.t)
        go_wp2_with fail
        refine H1.out.mono ?_
        rintro e v3 ⟨rfl, hp3, ht3⟩
        have HT := Lib.hid hp3
        have HW1 : Hid (Below g w v3) := HW.out.trans (ht3.below HP.out HQ.out HGW.out)
        have HL1 : Hid ((enterL L now y.t).length = 4) := by show _ = _; rw [enterL_len]; exact HL4.out
        have HNN : Hid (now ≤ i + 1 + 1) := by have := HNW.out; show now ≤ i + 1 + 1; omega
        clear hp3 ht3 H1
        generalize enterL L now y.t = K at *
        clear HPr HW HGW HL4 HNW c0 c1
        rcases Classical.em (leastL K = 0) with hm | hm
        · have HLE := Lib.hid (rdleast_any HT.out)
          have HIN : Hid (∀ t : Nat, t < 4 → Calls Try.prog 22 #[.pointer (some ⟨p, 0, none⟩), .int .i64 t] v3 fun e w' => e = .returned (.tuple #[.int .u64 (K.getD t 0 : Nat), .bool (K.getD t 0 != 0)]) ∧ v3 = w') := fun t ht => by
            have := rdinside_any HT.out t
            rw [insideV_at K t (by have := HL1.out; omega)] at this
            exact this
          have HNO := Lib.hid (rdnow_any HT.out)
          have HQ3 : Hid (Calls Try.prog 20 #[.pointer (some ⟨p, 0, none⟩), .int .u64 18446744073709551615] v3 fun e w' => e = .returned (.bool true) ∧ v3 = w') := by
            have := rdquiet_any HT.out 18446744073709551615
            have e : quietB K 18446744073709551615 = true := by unfold quietB; simp [hm]
            rw [e] at this
            exact this
          have HX : Hid (∀ t : Nat, t < 4 → K.getD t 0 = 0) := fun t ht => (leastL_zero K).1 hm _ (getD_mem (by have := HL1.out; omega))
          rw [hm] at HLE
          clear hm
          go_wp2_with fail
          refine HLE.out.mono ?_
          rintro e w' ⟨rfl, rfl⟩
          go_wp2
          go_loopg [8, 9, 10] 4 (fun gk s8 s9 s10 wx => ∃ t : Nat, t + gk = 4 ∧ s10 = .int .i64 t ∧ s8 = .bool false ∧ s9 = .bool false ∧ v3 = wx)
          case atStart => exact ⟨0, by omega, rfl, rfl, rfl, rfl⟩
          case round =>
            obtain ⟨t, htn, rfl, rfl, rfl, rfl⟩ := hrel
            cases gk with
            | zero =>
              obtain rfl : t = 4 := by omega
              go_wp2_with fail
              refine HQ3.out.mono ?_
              rintro e w' ⟨rfl, rfl⟩
              go_wp2
              go_roundg go
              case measure => omega
              case rel => exact ⟨i + 1, now, K, by omega, by go_num, HNN.out, HL1, HT, HW1⟩
            | succ gk =>
              have htt : (t : Int) < 4 := by omega
              have HI1 := Lib.hid (HIN.out t (by omega))
              have HX1 := Lib.hid (HX.out t (by omega))
              rw [HX1.out] at HI1
              go_wp2_with fail
              refine HI1.out.mono ?_
              rintro e w' ⟨rfl, rfl⟩
              go_wp2
              go_roundg gk
              case measure => omega
              case rel => exact ⟨t + 1, by omega, by go_num, rfl, rfl, rfl⟩
        · have HLE := Lib.hid (rdleast_any HT.out)
          have HIN : Hid (∀ t : Nat, t < 4 → Calls Try.prog 22 #[.pointer (some ⟨p, 0, none⟩), .int .i64 t] v3 fun e w' => e = .returned (.tuple #[.int .u64 (K.getD t 0 : Nat), .bool (K.getD t 0 != 0)]) ∧ v3 = w') := fun t ht => by
            have := rdinside_any HT.out t
            rw [insideV_at K t (by have := HL1.out; omega)] at this
            exact this
          have HNO := Lib.hid (rdnow_any HT.out)
          have hmem := leastL_mem hm
          have HQ1 : Hid (Calls Try.prog 20 #[.pointer (some ⟨p, 0, none⟩), .int .u64 (leastL K : Nat)] v3 fun e w' => e = .returned (.bool false) ∧ v3 = w') := by
            have := rdquiet_any HT.out (leastL K)
            have e : quietB K (leastL K) = false := by unfold quietB; simp [hm]
            rw [e] at this
            exact this
          have HQ2 : Hid (Calls Try.prog 20 #[.pointer (some ⟨p, 0, none⟩), .int .u64 ((leastL K : Int) - 1)] v3 fun e w' => e = .returned (.bool true) ∧ v3 = w') := by
            have := rdquiet_any HT.out (leastL K - 1)
            have e : quietB K (leastL K - 1) = true := by unfold quietB; simp; omega
            rw [e, show ((leastL K - 1 : Nat) : Int) = (leastL K : Int) - 1 by omega] at this
            exact this
          have HX : Hid (∀ t : Nat, t < 4 → K.getD t 0 ≠ 0 → leastL K ≤ K.getD t 0 ∧ K.getD t 0 ≤ now) := fun t ht h0 => ⟨leastL_le (getD_mem (by have := HL1.out; omega)) h0, HT.out.clk.le _ (getD_mem (by have := HL1.out; omega))⟩
          have HS1 := Lib.hid (fun t ht => any_take (fun x => x != 0) K t ht)
          have HS2 := Lib.hid (fun t ht => any_take (fun x => x == leastL K) K t ht)
          have HE1 : Hid ((K.take 4).any (fun x => x != 0) = true) := any_last HL1.out hmem _ (by simpa using hm)
          have HE2 : Hid ((K.take 4).any (fun x => x == leastL K) = true) := any_last HL1.out hmem _ (by simp)
          have hmb : leastL K ≤ now := HT.out.clk.le _ hmem
          have hnb := HT.out.clk.most
          have hm1 : (leastL K != 0) = true := by simpa using hm
          rw [hm1] at HLE
          clear hmem hm1
          generalize leastL K = m at *
          have HMI : Hid (1 ≤ (m : Int)) := by show 1 ≤ (m : Int); omega
          have HMJ : Hid ((m : Int) < 18446744073709551616) := by show (m : Int) < 18446744073709551616; omega
          clear hmb hnb
          have HM0 := Lib.hid hm
          clear hm
          go_wp2_with fail
          refine HLE.out.mono ?_
          rintro e w' ⟨rfl, rfl⟩
          go_wp2
          go_loopg [8, 9, 10] 4 (fun gk s8 s9 s10 wx => ∃ (t : Nat) (B C : Bool), t + gk = 4 ∧ s10 = .int .i64 t ∧ .bool B = s8 ∧ .bool C = s9 ∧ Hid ((K.take t).any (fun x => x != 0) = B) ∧ Hid ((K.take t).any (fun x => x == m) = C) ∧ v3 = wx)
          case atStart => exact ⟨0, false, false, by omega, rfl, rfl, rfl, rfl, rfl, rfl⟩
          case round =>
            obtain ⟨t, B, C, htn, rfl, rfl, rfl, HBB, HCC, rfl⟩ := hrel
            cases gk with
            | zero =>
              obtain rfl : t = 4 := by omega
              obtain rfl : true = B := by rw [← HE1.out]; exact HBB.out
              obtain rfl : true = C := by rw [← HE2.out]; exact HCC.out
              have hmi := HMI.out
              have hmj := HMJ.out
              go_wp2_with fail
              refine HQ1.out.mono ?_
              rintro e w' ⟨rfl, rfl⟩
              go_wp2_with fail
              refine HQ2.out.mono ?_
              rintro e w' ⟨rfl, rfl⟩
              go_wp2
              go_roundg go
              case measure => omega
              case rel => exact ⟨i + 1, now, K, by omega, by go_num, HNN.out, HL1, HT, HW1⟩
            | succ gk =>
              have htt : (t : Int) < 4 := by omega
              have HI1 := Lib.hid (HIN.out t (by omega))
              have HX1 := Lib.hid (HX.out t (by omega))
              have HS1' := Lib.hid (HS1.out t (by have := HL1.out; omega))
              have HS2' := Lib.hid (HS2.out t (by have := HL1.out; omega))
              rw [HBB.out] at HS1'
              rw [HCC.out] at HS2'
              clear HBB HCC
              generalize K.getD t 0 = x at *
              rcases Classical.em (x = 0) with h0 | h0
              · subst h0
                have HZ : Hid ((0 == m) = false) := by have := HM0.out; show _ = _; simp; omega
                have HR1 : Hid ((K.take (t + 1)).any (fun x => x != 0) = B) := by show _ = _; rw [HS1'.out]; simp
                have HR2 : Hid ((K.take (t + 1)).any (fun x => x == m) = C) := by show _ = _; rw [HS2'.out, HZ.out]; simp
                cases B <;> cases C
                all_goals
                  go_wp2_with fail
                  refine HI1.out.mono ?_
                  rintro e w' ⟨rfl, rfl⟩
                  go_wp2
                  go_roundg gk
                  case measure => omega
                  case rel => exact ⟨t + 1, _, _, by omega, by go_num, rfl, rfl, HR1, HR2, rfl⟩
              · have hx1 : (x != 0) = true := by simpa using h0
                obtain ⟨hle, hge⟩ := HX1.out h0
                have hlt : decide ((x : Int) < (m : Int)) = false := by simp; omega
                have hgt : decide ((now : Int) < (x : Int)) = false := by simp; omega
                have hlt2 : decide (x < m) = false := by simp; omega
                have hgt2 : decide (now < x) = false := by simp; omega
                have HR1 : Hid ((K.take (t + 1)).any (fun x => x != 0) = true) := by show _ = _; rw [HS1'.out]; simp [h0]
                rw [hx1] at HI1
                clear hx1 hle hge
                rcases Classical.em (x = m) with h2 | h2
                · have heq : ((x : Int) == (m : Int)) = true := by simp; omega
                  have HR2 : Hid ((K.take (t + 1)).any (fun x => x == m) = true) := by show _ = _; rw [HS2'.out]; simp [h2]
                  clear h2 h0
                  cases B <;> cases C
                  all_goals
                    go_wp2_with fail
                    refine HI1.out.mono ?_
                    rintro e w' ⟨rfl, rfl⟩
                    go_wp2_with fail
                    refine HNO.out.mono ?_
                    rintro e w' ⟨rfl, rfl⟩
                    go_wp2
                    go_roundg gk
                    case measure => omega
                    case rel => exact ⟨t + 1, _, _, by omega, by go_num, rfl, rfl, HR1, HR2, rfl⟩
                · have heq : ((x : Int) == (m : Int)) = false := by simp; omega
                  have HR2 : Hid ((K.take (t + 1)).any (fun x => x == m) = C) := by show _ = _; rw [HS2'.out]; simp [h2]
                  clear h2 h0
                  cases B <;> cases C
                  all_goals
                    go_wp2_with fail
                    refine HI1.out.mono ?_
                    rintro e w' ⟨rfl, rfl⟩
                    go_wp2_with fail
                    refine HNO.out.mono ?_
                    rintro e w' ⟨rfl, rfl⟩
                    go_wp2
                    go_roundg gk
                    case measure => omega
                    case rel => exact ⟨t + 1, _, _, by omega, by go_num, rfl, rfl, HR1, HR2, rfl⟩
      · have m0 : (y.kd == 0) = false := by simpa using k0
        clear k0
        rcases Classical.em (y.kd = 1) with k1 | k1
        · have m1 : (y.kd == 1) = true := by simpa using k1
          clear k1
          have H1 := Lib.hid (rdleave_any HPr.out y.t)
          go_wp2_with fail
          refine H1.out.mono ?_
          rintro e v3 ⟨rfl, hp3, ht3⟩
          have HT := Lib.hid hp3
          have HW1 : Hid (Below g w v3) := HW.out.trans (ht3.below HP.out HQ.out HGW.out)
          have HL1 : Hid ((leaveL L y.t).length = 4) := by show _ = _; rw [leaveL_len]; exact HL4.out
          have HNN : Hid (now ≤ i + 1 + 1) := by have := HNW.out; show now ≤ i + 1 + 1; omega
          clear hp3 ht3 H1
          generalize leaveL L y.t = K at *
          clear HPr HW HGW HL4 HNW c0 c1
          rcases Classical.em (leastL K = 0) with hm | hm
          · have HLE := Lib.hid (rdleast_any HT.out)
            have HIN : Hid (∀ t : Nat, t < 4 → Calls Try.prog 22 #[.pointer (some ⟨p, 0, none⟩), .int .i64 t] v3 fun e w' => e = .returned (.tuple #[.int .u64 (K.getD t 0 : Nat), .bool (K.getD t 0 != 0)]) ∧ v3 = w') := fun t ht => by
              have := rdinside_any HT.out t
              rw [insideV_at K t (by have := HL1.out; omega)] at this
              exact this
            have HNO := Lib.hid (rdnow_any HT.out)
            have HQ3 : Hid (Calls Try.prog 20 #[.pointer (some ⟨p, 0, none⟩), .int .u64 18446744073709551615] v3 fun e w' => e = .returned (.bool true) ∧ v3 = w') := by
              have := rdquiet_any HT.out 18446744073709551615
              have e : quietB K 18446744073709551615 = true := by unfold quietB; simp [hm]
              rw [e] at this
              exact this
            have HX : Hid (∀ t : Nat, t < 4 → K.getD t 0 = 0) := fun t ht => (leastL_zero K).1 hm _ (getD_mem (by have := HL1.out; omega))
            rw [hm] at HLE
            clear hm
            go_wp2_with fail
            refine HLE.out.mono ?_
            rintro e w' ⟨rfl, rfl⟩
            go_wp2
            go_loopg [8, 9, 10] 4 (fun gk s8 s9 s10 wx => ∃ t : Nat, t + gk = 4 ∧ s10 = .int .i64 t ∧ s8 = .bool false ∧ s9 = .bool false ∧ v3 = wx)
            case atStart => exact ⟨0, by omega, rfl, rfl, rfl, rfl⟩
            case round =>
              obtain ⟨t, htn, rfl, rfl, rfl, rfl⟩ := hrel
              cases gk with
              | zero =>
                obtain rfl : t = 4 := by omega
                go_wp2_with fail
                refine HQ3.out.mono ?_
                rintro e w' ⟨rfl, rfl⟩
                go_wp2
                go_roundg go
                case measure => omega
                case rel => exact ⟨i + 1, now, K, by omega, by go_num, HNN.out, HL1, HT, HW1⟩
              | succ gk =>
                have htt : (t : Int) < 4 := by omega
                have HI1 := Lib.hid (HIN.out t (by omega))
                have HX1 := Lib.hid (HX.out t (by omega))
                rw [HX1.out] at HI1
                go_wp2_with fail
                refine HI1.out.mono ?_
                rintro e w' ⟨rfl, rfl⟩
                go_wp2
                go_roundg gk
                case measure => omega
                case rel => exact ⟨t + 1, by omega, by go_num, rfl, rfl, rfl⟩
          · have HLE := Lib.hid (rdleast_any HT.out)
            have HIN : Hid (∀ t : Nat, t < 4 → Calls Try.prog 22 #[.pointer (some ⟨p, 0, none⟩), .int .i64 t] v3 fun e w' => e = .returned (.tuple #[.int .u64 (K.getD t 0 : Nat), .bool (K.getD t 0 != 0)]) ∧ v3 = w') := fun t ht => by
              have := rdinside_any HT.out t
              rw [insideV_at K t (by have := HL1.out; omega)] at this
              exact this
            have HNO := Lib.hid (rdnow_any HT.out)
            have hmem := leastL_mem hm
            have HQ1 : Hid (Calls Try.prog 20 #[.pointer (some ⟨p, 0, none⟩), .int .u64 (leastL K : Nat)] v3 fun e w' => e = .returned (.bool false) ∧ v3 = w') := by
              have := rdquiet_any HT.out (leastL K)
              have e : quietB K (leastL K) = false := by unfold quietB; simp [hm]
              rw [e] at this
              exact this
            have HQ2 : Hid (Calls Try.prog 20 #[.pointer (some ⟨p, 0, none⟩), .int .u64 ((leastL K : Int) - 1)] v3 fun e w' => e = .returned (.bool true) ∧ v3 = w') := by
              have := rdquiet_any HT.out (leastL K - 1)
              have e : quietB K (leastL K - 1) = true := by unfold quietB; simp; omega
              rw [e, show ((leastL K - 1 : Nat) : Int) = (leastL K : Int) - 1 by omega] at this
              exact this
            have HX : Hid (∀ t : Nat, t < 4 → K.getD t 0 ≠ 0 → leastL K ≤ K.getD t 0 ∧ K.getD t 0 ≤ now) := fun t ht h0 => ⟨leastL_le (getD_mem (by have := HL1.out; omega)) h0, HT.out.clk.le _ (getD_mem (by have := HL1.out; omega))⟩
            have HS1 := Lib.hid (fun t ht => any_take (fun x => x != 0) K t ht)
            have HS2 := Lib.hid (fun t ht => any_take (fun x => x == leastL K) K t ht)
            have HE1 : Hid ((K.take 4).any (fun x => x != 0) = true) := any_last HL1.out hmem _ (by simpa using hm)
            have HE2 : Hid ((K.take 4).any (fun x => x == leastL K) = true) := any_last HL1.out hmem _ (by simp)
            have hmb : leastL K ≤ now := HT.out.clk.le _ hmem
            have hnb := HT.out.clk.most
            have hm1 : (leastL K != 0) = true := by simpa using hm
            rw [hm1] at HLE
            clear hmem hm1
            generalize leastL K = m at *
            have HMI : Hid (1 ≤ (m : Int)) := by show 1 ≤ (m : Int); omega
            have HMJ : Hid ((m : Int) < 18446744073709551616) := by show (m : Int) < 18446744073709551616; omega
            clear hmb hnb
            have HM0 := Lib.hid hm
            clear hm
            go_wp2_with fail
            refine HLE.out.mono ?_
            rintro e w' ⟨rfl, rfl⟩
            go_wp2
            go_loopg [8, 9, 10] 4 (fun gk s8 s9 s10 wx => ∃ (t : Nat) (B C : Bool), t + gk = 4 ∧ s10 = .int .i64 t ∧ .bool B = s8 ∧ .bool C = s9 ∧ Hid ((K.take t).any (fun x => x != 0) = B) ∧ Hid ((K.take t).any (fun x => x == m) = C) ∧ v3 = wx)
            case atStart => exact ⟨0, false, false, by omega, rfl, rfl, rfl, rfl, rfl, rfl⟩
            case round =>
              obtain ⟨t, B, C, htn, rfl, rfl, rfl, HBB, HCC, rfl⟩ := hrel
              cases gk with
              | zero =>
                obtain rfl : t = 4 := by omega
                obtain rfl : true = B := by rw [← HE1.out]; exact HBB.out
                obtain rfl : true = C := by rw [← HE2.out]; exact HCC.out
                have hmi := HMI.out
                have hmj := HMJ.out
                go_wp2_with fail
                refine HQ1.out.mono ?_
                rintro e w' ⟨rfl, rfl⟩
                go_wp2_with fail
                refine HQ2.out.mono ?_
                rintro e w' ⟨rfl, rfl⟩
                go_wp2
                go_roundg go
                case measure => omega
                case rel => exact ⟨i + 1, now, K, by omega, by go_num, HNN.out, HL1, HT, HW1⟩
              | succ gk =>
                have htt : (t : Int) < 4 := by omega
                have HI1 := Lib.hid (HIN.out t (by omega))
                have HX1 := Lib.hid (HX.out t (by omega))
                have HS1' := Lib.hid (HS1.out t (by have := HL1.out; omega))
                have HS2' := Lib.hid (HS2.out t (by have := HL1.out; omega))
                rw [HBB.out] at HS1'
                rw [HCC.out] at HS2'
                clear HBB HCC
                generalize K.getD t 0 = x at *
                rcases Classical.em (x = 0) with h0 | h0
                · subst h0
                  have HZ : Hid ((0 == m) = false) := by have := HM0.out; show _ = _; simp; omega
                  have HR1 : Hid ((K.take (t + 1)).any (fun x => x != 0) = B) := by show _ = _; rw [HS1'.out]; simp
                  have HR2 : Hid ((K.take (t + 1)).any (fun x => x == m) = C) := by show _ = _; rw [HS2'.out, HZ.out]; simp
                  cases B <;> cases C
                  all_goals
                    go_wp2_with fail
                    refine HI1.out.mono ?_
                    rintro e w' ⟨rfl, rfl⟩
                    go_wp2
                    go_roundg gk
                    case measure => omega
                    case rel => exact ⟨t + 1, _, _, by omega, by go_num, rfl, rfl, HR1, HR2, rfl⟩
                · have hx1 : (x != 0) = true := by simpa using h0
                  obtain ⟨hle, hge⟩ := HX1.out h0
                  have hlt : decide ((x : Int) < (m : Int)) = false := by simp; omega
                  have hgt : decide ((now : Int) < (x : Int)) = false := by simp; omega
                  have hlt2 : decide (x < m) = false := by simp; omega
                  have hgt2 : decide (now < x) = false := by simp; omega
                  have HR1 : Hid ((K.take (t + 1)).any (fun x => x != 0) = true) := by show _ = _; rw [HS1'.out]; simp [h0]
                  rw [hx1] at HI1
                  clear hx1 hle hge
                  rcases Classical.em (x = m) with h2 | h2
                  · have heq : ((x : Int) == (m : Int)) = true := by simp; omega
                    have HR2 : Hid ((K.take (t + 1)).any (fun x => x == m) = true) := by show _ = _; rw [HS2'.out]; simp [h2]
                    clear h2 h0
                    cases B <;> cases C
                    all_goals
                      go_wp2_with fail
                      refine HI1.out.mono ?_
                      rintro e w' ⟨rfl, rfl⟩
                      go_wp2_with fail
                      refine HNO.out.mono ?_
                      rintro e w' ⟨rfl, rfl⟩
                      go_wp2
                      go_roundg gk
                      case measure => omega
                      case rel => exact ⟨t + 1, _, _, by omega, by go_num, rfl, rfl, HR1, HR2, rfl⟩
                  · have heq : ((x : Int) == (m : Int)) = false := by simp; omega
                    have HR2 : Hid ((K.take (t + 1)).any (fun x => x == m) = C) := by show _ = _; rw [HS2'.out]; simp [h2]
                    clear h2 h0
                    cases B <;> cases C
                    all_goals
                      go_wp2_with fail
                      refine HI1.out.mono ?_
                      rintro e w' ⟨rfl, rfl⟩
                      go_wp2_with fail
                      refine HNO.out.mono ?_
                      rintro e w' ⟨rfl, rfl⟩
                      go_wp2
                      go_roundg gk
                      case measure => omega
                      case rel => exact ⟨t + 1, _, _, by omega, by go_num, rfl, rfl, HR1, HR2, rfl⟩
        · have m1 : (y.kd == 1) = false := by simpa using k1
          clear k1
          rcases Classical.em (y.kd = 2) with k2 | k2
          · have m2 : (y.kd == 2) = true := by simpa using k2
            clear k2
            have H1 := Lib.hid (rdadv_any HPr.out (by have := HNW.out; omega))
            go_wp2_with fail
            refine H1.out.mono ?_
            rintro e v3 ⟨rfl, hp3, ht3⟩
            have HT := Lib.hid hp3
            have HW1 : Hid (Below g w v3) := HW.out.trans (ht3.below HP.out HQ.out HGW.out)
            have HL1 := HL4
            have HNN : Hid (now + 1 ≤ i + 1 + 1) := by have := HNW.out; show now + 1 ≤ i + 1 + 1; omega
            clear hp3 ht3 H1
            generalize now + 1 = nx at *
            clear HPr HW HGW HL4 HNW c0 c1
            rcases Classical.em (leastL L = 0) with hm | hm
            · have HLE := Lib.hid (rdleast_any HT.out)
              have HIN : Hid (∀ t : Nat, t < 4 → Calls Try.prog 22 #[.pointer (some ⟨p, 0, none⟩), .int .i64 t] v3 fun e w' => e = .returned (.tuple #[.int .u64 (L.getD t 0 : Nat), .bool (L.getD t 0 != 0)]) ∧ v3 = w') := fun t ht => by
                have := rdinside_any HT.out t
                rw [insideV_at L t (by have := HL1.out; omega)] at this
                exact this
              have HNO := Lib.hid (rdnow_any HT.out)
              have HQ3 : Hid (Calls Try.prog 20 #[.pointer (some ⟨p, 0, none⟩), .int .u64 18446744073709551615] v3 fun e w' => e = .returned (.bool true) ∧ v3 = w') := by
                have := rdquiet_any HT.out 18446744073709551615
                have e : quietB L 18446744073709551615 = true := by unfold quietB; simp [hm]
                rw [e] at this
                exact this
              have HX : Hid (∀ t : Nat, t < 4 → L.getD t 0 = 0) := fun t ht => (leastL_zero L).1 hm _ (getD_mem (by have := HL1.out; omega))
              rw [hm] at HLE
              clear hm
              go_wp2_with fail
              refine HLE.out.mono ?_
              rintro e w' ⟨rfl, rfl⟩
              go_wp2
              go_loopg [8, 9, 10] 4 (fun gk s8 s9 s10 wx => ∃ t : Nat, t + gk = 4 ∧ s10 = .int .i64 t ∧ s8 = .bool false ∧ s9 = .bool false ∧ v3 = wx)
              case atStart => exact ⟨0, by omega, rfl, rfl, rfl, rfl⟩
              case round =>
                obtain ⟨t, htn, rfl, rfl, rfl, rfl⟩ := hrel
                cases gk with
                | zero =>
                  obtain rfl : t = 4 := by omega
                  go_wp2_with fail
                  refine HQ3.out.mono ?_
                  rintro e w' ⟨rfl, rfl⟩
                  go_wp2
                  go_roundg go
                  case measure => omega
                  case rel => exact ⟨i + 1, nx, L, by omega, by go_num, HNN.out, HL1, HT, HW1⟩
                | succ gk =>
                  have htt : (t : Int) < 4 := by omega
                  have HI1 := Lib.hid (HIN.out t (by omega))
                  have HX1 := Lib.hid (HX.out t (by omega))
                  rw [HX1.out] at HI1
                  go_wp2_with fail
                  refine HI1.out.mono ?_
                  rintro e w' ⟨rfl, rfl⟩
                  go_wp2
                  go_roundg gk
                  case measure => omega
                  case rel => exact ⟨t + 1, by omega, by go_num, rfl, rfl, rfl⟩
            · have HLE := Lib.hid (rdleast_any HT.out)
              have HIN : Hid (∀ t : Nat, t < 4 → Calls Try.prog 22 #[.pointer (some ⟨p, 0, none⟩), .int .i64 t] v3 fun e w' => e = .returned (.tuple #[.int .u64 (L.getD t 0 : Nat), .bool (L.getD t 0 != 0)]) ∧ v3 = w') := fun t ht => by
                have := rdinside_any HT.out t
                rw [insideV_at L t (by have := HL1.out; omega)] at this
                exact this
              have HNO := Lib.hid (rdnow_any HT.out)
              have hmem := leastL_mem hm
              have HQ1 : Hid (Calls Try.prog 20 #[.pointer (some ⟨p, 0, none⟩), .int .u64 (leastL L : Nat)] v3 fun e w' => e = .returned (.bool false) ∧ v3 = w') := by
                have := rdquiet_any HT.out (leastL L)
                have e : quietB L (leastL L) = false := by unfold quietB; simp [hm]
                rw [e] at this
                exact this
              have HQ2 : Hid (Calls Try.prog 20 #[.pointer (some ⟨p, 0, none⟩), .int .u64 ((leastL L : Int) - 1)] v3 fun e w' => e = .returned (.bool true) ∧ v3 = w') := by
                have := rdquiet_any HT.out (leastL L - 1)
                have e : quietB L (leastL L - 1) = true := by unfold quietB; simp; omega
                rw [e, show ((leastL L - 1 : Nat) : Int) = (leastL L : Int) - 1 by omega] at this
                exact this
              have HX : Hid (∀ t : Nat, t < 4 → L.getD t 0 ≠ 0 → leastL L ≤ L.getD t 0 ∧ L.getD t 0 ≤ nx) := fun t ht h0 => ⟨leastL_le (getD_mem (by have := HL1.out; omega)) h0, HT.out.clk.le _ (getD_mem (by have := HL1.out; omega))⟩
              have HS1 := Lib.hid (fun t ht => any_take (fun x => x != 0) L t ht)
              have HS2 := Lib.hid (fun t ht => any_take (fun x => x == leastL L) L t ht)
              have HE1 : Hid ((L.take 4).any (fun x => x != 0) = true) := any_last HL1.out hmem _ (by simpa using hm)
              have HE2 : Hid ((L.take 4).any (fun x => x == leastL L) = true) := any_last HL1.out hmem _ (by simp)
              have hmb : leastL L ≤ nx := HT.out.clk.le _ hmem
              have hnb := HT.out.clk.most
              have hm1 : (leastL L != 0) = true := by simpa using hm
              rw [hm1] at HLE
              clear hmem hm1
              generalize leastL L = m at *
              have HMI : Hid (1 ≤ (m : Int)) := by show 1 ≤ (m : Int); omega
              have HMJ : Hid ((m : Int) < 18446744073709551616) := by show (m : Int) < 18446744073709551616; omega
              clear hmb hnb
              have HM0 := Lib.hid hm
              clear hm
              go_wp2_with fail
              refine HLE.out.mono ?_
              rintro e w' ⟨rfl, rfl⟩
              go_wp2
              go_loopg [8, 9, 10] 4 (fun gk s8 s9 s10 wx => ∃ (t : Nat) (B C : Bool), t + gk = 4 ∧ s10 = .int .i64 t ∧ .bool B = s8 ∧ .bool C = s9 ∧ Hid ((L.take t).any (fun x => x != 0) = B) ∧ Hid ((L.take t).any (fun x => x == m) = C) ∧ v3 = wx)
              case atStart => exact ⟨0, false, false, by omega, rfl, rfl, rfl, rfl, rfl, rfl⟩
              case round =>
                obtain ⟨t, B, C, htn, rfl, rfl, rfl, HBB, HCC, rfl⟩ := hrel
                cases gk with
                | zero =>
                  obtain rfl : t = 4 := by omega
                  obtain rfl : true = B := by rw [← HE1.out]; exact HBB.out
                  obtain rfl : true = C := by rw [← HE2.out]; exact HCC.out
                  have hmi := HMI.out
                  have hmj := HMJ.out
                  go_wp2_with fail
                  refine HQ1.out.mono ?_
                  rintro e w' ⟨rfl, rfl⟩
                  go_wp2_with fail
                  refine HQ2.out.mono ?_
                  rintro e w' ⟨rfl, rfl⟩
                  go_wp2
                  go_roundg go
                  case measure => omega
                  case rel => exact ⟨i + 1, nx, L, by omega, by go_num, HNN.out, HL1, HT, HW1⟩
                | succ gk =>
                  have htt : (t : Int) < 4 := by omega
                  have HI1 := Lib.hid (HIN.out t (by omega))
                  have HX1 := Lib.hid (HX.out t (by omega))
                  have HS1' := Lib.hid (HS1.out t (by have := HL1.out; omega))
                  have HS2' := Lib.hid (HS2.out t (by have := HL1.out; omega))
                  rw [HBB.out] at HS1'
                  rw [HCC.out] at HS2'
                  clear HBB HCC
                  generalize L.getD t 0 = x at *
                  rcases Classical.em (x = 0) with h0 | h0
                  · subst h0
                    have HZ : Hid ((0 == m) = false) := by have := HM0.out; show _ = _; simp; omega
                    have HR1 : Hid ((L.take (t + 1)).any (fun x => x != 0) = B) := by show _ = _; rw [HS1'.out]; simp
                    have HR2 : Hid ((L.take (t + 1)).any (fun x => x == m) = C) := by show _ = _; rw [HS2'.out, HZ.out]; simp
                    cases B <;> cases C
                    all_goals
                      go_wp2_with fail
                      refine HI1.out.mono ?_
                      rintro e w' ⟨rfl, rfl⟩
                      go_wp2
                      go_roundg gk
                      case measure => omega
                      case rel => exact ⟨t + 1, _, _, by omega, by go_num, rfl, rfl, HR1, HR2, rfl⟩
                  · have hx1 : (x != 0) = true := by simpa using h0
                    obtain ⟨hle, hge⟩ := HX1.out h0
                    have hlt : decide ((x : Int) < (m : Int)) = false := by simp; omega
                    have hgt : decide ((nx : Int) < (x : Int)) = false := by simp; omega
                    have hlt2 : decide (x < m) = false := by simp; omega
                    have hgt2 : decide (nx < x) = false := by simp; omega
                    have HR1 : Hid ((L.take (t + 1)).any (fun x => x != 0) = true) := by show _ = _; rw [HS1'.out]; simp [h0]
                    rw [hx1] at HI1
                    clear hx1 hle hge
                    rcases Classical.em (x = m) with h2 | h2
                    · have heq : ((x : Int) == (m : Int)) = true := by simp; omega
                      have HR2 : Hid ((L.take (t + 1)).any (fun x => x == m) = true) := by show _ = _; rw [HS2'.out]; simp [h2]
                      clear h2 h0
                      cases B <;> cases C
                      all_goals
                        go_wp2_with fail
                        refine HI1.out.mono ?_
                        rintro e w' ⟨rfl, rfl⟩
                        go_wp2_with fail
                        refine HNO.out.mono ?_
                        rintro e w' ⟨rfl, rfl⟩
                        go_wp2
                        go_roundg gk
                        case measure => omega
                        case rel => exact ⟨t + 1, _, _, by omega, by go_num, rfl, rfl, HR1, HR2, rfl⟩
                    · have heq : ((x : Int) == (m : Int)) = false := by simp; omega
                      have HR2 : Hid ((L.take (t + 1)).any (fun x => x == m) = C) := by show _ = _; rw [HS2'.out]; simp [h2]
                      clear h2 h0
                      cases B <;> cases C
                      all_goals
                        go_wp2_with fail
                        refine HI1.out.mono ?_
                        rintro e w' ⟨rfl, rfl⟩
                        go_wp2_with fail
                        refine HNO.out.mono ?_
                        rintro e w' ⟨rfl, rfl⟩
                        go_wp2
                        go_roundg gk
                        case measure => omega
                        case rel => exact ⟨t + 1, _, _, by omega, by go_num, rfl, rfl, HR1, HR2, rfl⟩
          · have m2 : (y.kd == 2) = false := by simpa using k2
            clear k2
            have HT := HPr
            have HW1 := HW
            have HL1 := HL4
            have HNN : Hid (now ≤ i + 1 + 1) := by have := HNW.out; show now ≤ i + 1 + 1; omega
            clear HPr HW HGW HL4 HNW
            rcases Classical.em (leastL L = 0) with hm | hm
            · have HLE := Lib.hid (rdleast_any HT.out)
              have HIN : Hid (∀ t : Nat, t < 4 → Calls Try.prog 22 #[.pointer (some ⟨p, 0, none⟩), .int .i64 t] wr fun e w' => e = .returned (.tuple #[.int .u64 (L.getD t 0 : Nat), .bool (L.getD t 0 != 0)]) ∧ wr = w') := fun t ht => by
                have := rdinside_any HT.out t
                rw [insideV_at L t (by have := HL1.out; omega)] at this
                exact this
              have HNO := Lib.hid (rdnow_any HT.out)
              have HQ3 : Hid (Calls Try.prog 20 #[.pointer (some ⟨p, 0, none⟩), .int .u64 18446744073709551615] wr fun e w' => e = .returned (.bool true) ∧ wr = w') := by
                have := rdquiet_any HT.out 18446744073709551615
                have e : quietB L 18446744073709551615 = true := by unfold quietB; simp [hm]
                rw [e] at this
                exact this
              have HX : Hid (∀ t : Nat, t < 4 → L.getD t 0 = 0) := fun t ht => (leastL_zero L).1 hm _ (getD_mem (by have := HL1.out; omega))
              rw [hm] at HLE
              clear hm
              go_wp2_with fail
              refine HLE.out.mono ?_
              rintro e w' ⟨rfl, rfl⟩
              go_wp2
              go_loopg [8, 9, 10] 4 (fun gk s8 s9 s10 wx => ∃ t : Nat, t + gk = 4 ∧ s10 = .int .i64 t ∧ s8 = .bool false ∧ s9 = .bool false ∧ wr = wx)
              case atStart => exact ⟨0, by omega, rfl, rfl, rfl, rfl⟩
              case round =>
                obtain ⟨t, htn, rfl, rfl, rfl, rfl⟩ := hrel
                cases gk with
                | zero =>
                  obtain rfl : t = 4 := by omega
                  go_wp2_with fail
                  refine HQ3.out.mono ?_
                  rintro e w' ⟨rfl, rfl⟩
                  go_wp2
                  go_roundg go
                  case measure => omega
                  case rel => exact ⟨i + 1, now, L, by omega, by go_num, HNN.out, HL1, HT, HW1⟩
                | succ gk =>
                  have htt : (t : Int) < 4 := by omega
                  have HI1 := Lib.hid (HIN.out t (by omega))
                  have HX1 := Lib.hid (HX.out t (by omega))
                  rw [HX1.out] at HI1
                  go_wp2_with fail
                  refine HI1.out.mono ?_
                  rintro e w' ⟨rfl, rfl⟩
                  go_wp2
                  go_roundg gk
                  case measure => omega
                  case rel => exact ⟨t + 1, by omega, by go_num, rfl, rfl, rfl⟩
            · have HLE := Lib.hid (rdleast_any HT.out)
              have HIN : Hid (∀ t : Nat, t < 4 → Calls Try.prog 22 #[.pointer (some ⟨p, 0, none⟩), .int .i64 t] wr fun e w' => e = .returned (.tuple #[.int .u64 (L.getD t 0 : Nat), .bool (L.getD t 0 != 0)]) ∧ wr = w') := fun t ht => by
                have := rdinside_any HT.out t
                rw [insideV_at L t (by have := HL1.out; omega)] at this
                exact this
              have HNO := Lib.hid (rdnow_any HT.out)
              have hmem := leastL_mem hm
              have HQ1 : Hid (Calls Try.prog 20 #[.pointer (some ⟨p, 0, none⟩), .int .u64 (leastL L : Nat)] wr fun e w' => e = .returned (.bool false) ∧ wr = w') := by
                have := rdquiet_any HT.out (leastL L)
                have e : quietB L (leastL L) = false := by unfold quietB; simp [hm]
                rw [e] at this
                exact this
              have HQ2 : Hid (Calls Try.prog 20 #[.pointer (some ⟨p, 0, none⟩), .int .u64 ((leastL L : Int) - 1)] wr fun e w' => e = .returned (.bool true) ∧ wr = w') := by
                have := rdquiet_any HT.out (leastL L - 1)
                have e : quietB L (leastL L - 1) = true := by unfold quietB; simp; omega
                rw [e, show ((leastL L - 1 : Nat) : Int) = (leastL L : Int) - 1 by omega] at this
                exact this
              have HX : Hid (∀ t : Nat, t < 4 → L.getD t 0 ≠ 0 → leastL L ≤ L.getD t 0 ∧ L.getD t 0 ≤ now) := fun t ht h0 => ⟨leastL_le (getD_mem (by have := HL1.out; omega)) h0, HT.out.clk.le _ (getD_mem (by have := HL1.out; omega))⟩
              have HS1 := Lib.hid (fun t ht => any_take (fun x => x != 0) L t ht)
              have HS2 := Lib.hid (fun t ht => any_take (fun x => x == leastL L) L t ht)
              have HE1 : Hid ((L.take 4).any (fun x => x != 0) = true) := any_last HL1.out hmem _ (by simpa using hm)
              have HE2 : Hid ((L.take 4).any (fun x => x == leastL L) = true) := any_last HL1.out hmem _ (by simp)
              have hmb : leastL L ≤ now := HT.out.clk.le _ hmem
              have hnb := HT.out.clk.most
              have hm1 : (leastL L != 0) = true := by simpa using hm
              rw [hm1] at HLE
              clear hmem hm1
              generalize leastL L = m at *
              have HMI : Hid (1 ≤ (m : Int)) := by show 1 ≤ (m : Int); omega
              have HMJ : Hid ((m : Int) < 18446744073709551616) := by show (m : Int) < 18446744073709551616; omega
              clear hmb hnb
              have HM0 := Lib.hid hm
              clear hm
              go_wp2_with fail
              refine HLE.out.mono ?_
              rintro e w' ⟨rfl, rfl⟩
              go_wp2
              go_loopg [8, 9, 10] 4 (fun gk s8 s9 s10 wx => ∃ (t : Nat) (B C : Bool), t + gk = 4 ∧ s10 = .int .i64 t ∧ .bool B = s8 ∧ .bool C = s9 ∧ Hid ((L.take t).any (fun x => x != 0) = B) ∧ Hid ((L.take t).any (fun x => x == m) = C) ∧ wr = wx)
              case atStart => exact ⟨0, false, false, by omega, rfl, rfl, rfl, rfl, rfl, rfl⟩
              case round =>
                obtain ⟨t, B, C, htn, rfl, rfl, rfl, HBB, HCC, rfl⟩ := hrel
                cases gk with
                | zero =>
                  obtain rfl : t = 4 := by omega
                  obtain rfl : true = B := by rw [← HE1.out]; exact HBB.out
                  obtain rfl : true = C := by rw [← HE2.out]; exact HCC.out
                  have hmi := HMI.out
                  have hmj := HMJ.out
                  go_wp2_with fail
                  refine HQ1.out.mono ?_
                  rintro e w' ⟨rfl, rfl⟩
                  go_wp2_with fail
                  refine HQ2.out.mono ?_
                  rintro e w' ⟨rfl, rfl⟩
                  go_wp2
                  go_roundg go
                  case measure => omega
                  case rel => exact ⟨i + 1, now, L, by omega, by go_num, HNN.out, HL1, HT, HW1⟩
                | succ gk =>
                  have htt : (t : Int) < 4 := by omega
                  have HI1 := Lib.hid (HIN.out t (by omega))
                  have HX1 := Lib.hid (HX.out t (by omega))
                  have HS1' := Lib.hid (HS1.out t (by have := HL1.out; omega))
                  have HS2' := Lib.hid (HS2.out t (by have := HL1.out; omega))
                  rw [HBB.out] at HS1'
                  rw [HCC.out] at HS2'
                  clear HBB HCC
                  generalize L.getD t 0 = x at *
                  rcases Classical.em (x = 0) with h0 | h0
                  · subst h0
                    have HZ : Hid ((0 == m) = false) := by have := HM0.out; show _ = _; simp; omega
                    have HR1 : Hid ((L.take (t + 1)).any (fun x => x != 0) = B) := by show _ = _; rw [HS1'.out]; simp
                    have HR2 : Hid ((L.take (t + 1)).any (fun x => x == m) = C) := by show _ = _; rw [HS2'.out, HZ.out]; simp
                    cases B <;> cases C
                    all_goals
                      go_wp2_with fail
                      refine HI1.out.mono ?_
                      rintro e w' ⟨rfl, rfl⟩
                      go_wp2
                      go_roundg gk
                      case measure => omega
                      case rel => exact ⟨t + 1, _, _, by omega, by go_num, rfl, rfl, HR1, HR2, rfl⟩
                  · have hx1 : (x != 0) = true := by simpa using h0
                    obtain ⟨hle, hge⟩ := HX1.out h0
                    have hlt : decide ((x : Int) < (m : Int)) = false := by simp; omega
                    have hgt : decide ((now : Int) < (x : Int)) = false := by simp; omega
                    have hlt2 : decide (x < m) = false := by simp; omega
                    have hgt2 : decide (now < x) = false := by simp; omega
                    have HR1 : Hid ((L.take (t + 1)).any (fun x => x != 0) = true) := by show _ = _; rw [HS1'.out]; simp [h0]
                    rw [hx1] at HI1
                    clear hx1 hle hge
                    rcases Classical.em (x = m) with h2 | h2
                    · have heq : ((x : Int) == (m : Int)) = true := by simp; omega
                      have HR2 : Hid ((L.take (t + 1)).any (fun x => x == m) = true) := by show _ = _; rw [HS2'.out]; simp [h2]
                      clear h2 h0
                      cases B <;> cases C
                      all_goals
                        go_wp2_with fail
                        refine HI1.out.mono ?_
                        rintro e w' ⟨rfl, rfl⟩
                        go_wp2_with fail
                        refine HNO.out.mono ?_
                        rintro e w' ⟨rfl, rfl⟩
                        go_wp2
                        go_roundg gk
                        case measure => omega
                        case rel => exact ⟨t + 1, _, _, by omega, by go_num, rfl, rfl, HR1, HR2, rfl⟩
                    · have heq : ((x : Int) == (m : Int)) = false := by simp; omega
                      have HR2 : Hid ((L.take (t + 1)).any (fun x => x == m) = C) := by show _ = _; rw [HS2'.out]; simp [h2]
                      clear h2 h0
                      cases B <;> cases C
                      all_goals
                        go_wp2_with fail
                        refine HI1.out.mono ?_
                        rintro e w' ⟨rfl, rfl⟩
                        go_wp2_with fail
                        refine HNO.out.mono ?_
                        rintro e w' ⟨rfl, rfl⟩
                        go_wp2
                        go_roundg gk
                        case measure => omega
                        case rel => exact ⟨t + 1, _, _, by omega, by go_num, rfl, rfl, HR1, HR2, rfl⟩
theorem walk (a0 : Option Addr) (len0 cap0 : Nat) (z0 : List ActP) (w : World) (w0 : IsActs w a0 len0 z0) :
    Calls Try.prog 5 #[.slice a0 len0 cap0] w fun e w' => e = .returned (.bool true) ∧ Below w.heap.size w w' := by
  rcases Nat.lt_or_ge 200 len0 with h0 | h0
  · exact many a0 len0 cap0 w h0 (by have := w0.2.1; unfold maxLen at this; omega)
  · exact fewer a0 len0 cap0 z0 w w0 h0

set_option maxRecDepth 100000 in
theorem lifted (os : Os) (started : os.Started) (H : Type) (enc : TypeId × Value → H) :
    ReturnsInHanded {} Try.checked os 5 .any (Rows.readerLeastSpec.pre6 enc Try.prog Try.f5 Rows.readerLeastRow.domain false) (Rows.readerLeastSpec.post enc Try.prog Try.f5 false true false false) := by
  refine returnsInHanded_of_change (C := Try.checked) own started (by kernel_rfl) Try.func5
    (ChangeSpec.witness6 (enc := enc) (C := Try.checked) false ⟨#[], #[.slice none 0 0], []⟩ 8 (by kernel_rfl) (by kernel_rfl) (by kernel_rfl) (by kernel_rfl)) ?_
  intro W base args ds gs before hval0 hW hcnd _
  have hval : ∀ (j : Nat) t v, Try.f5.params[j]? = some t → args[j]? = some v → Value.okWide Try.prog W .any base t v := hval0
  have hW' := hW
  obtain ⟨p, q, hA0, hV, rfl, hfz, hnd⟩ := hW
  have hA : DataW.TrodAll enc Try.prog W 0 (fun _ => true) true Try.f5.params.toList args.toList ds p := hA0
  rw [Try.params5] at hA hval
  obtain ⟨v0, vs0, d0, ds0, p0, q0, hargs, rfl, rfl, h0, r0⟩ := trodAll_cons hA
  obtain ⟨rfl, rfl, rfl⟩ := trodAll_nil r0
  obtain rfl : args = #[v0] := by cases args; simp_all
  obtain ⟨rfl, rfl⟩ := trodVars_none hV
  obtain ⟨a0, len0, cap0, rfl⟩ := okWide_slice Try.underlying22 (hval 0 22 v0 rfl rfl)
  have k0 := h0
  have lt0 : ∀ x ∈ p0, x.block < W.heap.size := by obtain ⟨m, hm⟩ := k0; exact DataW.trod_lt m _ _ _ hm
  obtain ⟨z0, w0⟩ : ∃ zs, IsActs W a0 len0 zs := by
    obtain ⟨fuel, hf⟩ := h0
    exact isActs_of hf
  clear hA0 hval0
  refine (walk a0 len0 cap0 z0 W w0).mono fun e W' ⟨he, bel⟩ => ?_
  subst he
  exact ⟨_, rfl, _, _, _, [], _, [], hW', trodAll_mk1 (shut_bool Try.underlying4 _), (trodAll_cons_mk (Below.trod laidOut (by kernel_rfl) (of_decide_eq_true (by kernel_rfl)) k0 bel lt0) trodAll_mk0), rfl, bel.frame _, fun h => by cases h⟩

theorem over : Rows.readerLeastRow.holds Try.pinned (OpenSpec.ofChange Rows.readerLeastSpec) :=
  OpenClaim.holds_of_wide 5 Try.f5 rfl rfl rfl rfl rfl rfl rfl ⟨rfl, rfl, rfl, rfl, rfl⟩ rfl rfl rfl rfl rfl (by kernel_rfl) Try.func5 (by kernel_rfl)
    (of_decide_eq_true (by kernel_rfl)) (by unfold Func.isWrapper; first | (rw [if_pos (by decide +kernel)]; kernel_rfl) | (rw [if_neg (by decide +kernel)]; exact ⟨rfl, rfl⟩))
    (fun os started H enc _ => lifted os started H enc)

theorem proved : Rows.ReaderLeastSaid := over
#print axioms proved
end Go.Proofs.Ythkiollggmeflaa.readerLeast
