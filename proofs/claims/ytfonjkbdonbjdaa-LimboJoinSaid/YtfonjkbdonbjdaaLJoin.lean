/-
Proved here: LimboJoin, for every list of acts: what is taken out is the first that the join rule lets go.
  Conditions: none.
-/
import Derived.Test.YtfonjkbdonbjdaaRows
import Derived.Test.YtfonjkbdonbjdaaAct10
import Derived.Test.YtfonjkbdonbjdaaAwake10
import Derived.IntWalk
import Derived.WalkSmall
import Derived.Deep.QuietTactic
import Derived.BigQuiet
import Derived.WalkKit
import Derived.ProofKit
import Derived.OpenShut
import Derived.ShutString
import Derived.ChangeOld
import Derived.Below
namespace Go.Proofs.Ytfonjkbdonbjdaa.limboJoin
open Go.ChangeShapes Go.WideShapes Go.ChangeAt Go.RowKit
open Go.ChangeMaps (open_string shut_string)
set_option linter.unusedVariables false

theorem own : ownKnob Try.prog.godebug = none := by kernel_rfl
theorem laidOut : laidOutB Try.prog = true := by kernel_rfl

set_option maxRecDepth 100000 in
set_option maxHeartbeats 1600000 in
theorem many (a0 : Option Addr) (len0 cap0 : Nat) (w : World) (hl : 120 < len0) (hlen : len0 ≤ 2 ^ 63 - 1) :
    Calls Try.prog 4 #[.slice a0 len0 cap0] w fun e w' => e = .returned (.bool true) ∧ Below w.heap.size w w' := by
  have h1 : (120 : Int) < (len0 : Int) := by omega
  have HAW := Lib.hid (awake_any w)
  clear hl
  go_enter Try.func4, Try.ntmps4
  go_wp2_with fail
  refine HAW.out.mono ?_
  rintro e w' ⟨rfl, hb⟩
  have HB := Lib.hid hb
  clear hb
  go_wp2
  go_ret
  exact ⟨rfl, HB.out⟩
theorem zero_act10 : (Try.prog.info? 42).bind (·.zero) = some (.agg #[.int .i64 0, .int .i64 0, .int .i64 0, .int .i64 0, .int .u64 0, .int .u64 0, .int .i64 0, .int .u64 0]) := by kernel_rfl
theorem size_act10 : (Try.prog.info? 42).map (·.size) = some 8 := by kernel_rfl
theorem ones8 (a b c d e f g h : Int) : (#[.int .i64 a, .int .i64 b, .int .i64 c, .int .i64 d, .int .u64 e, .int .u64 f, .int .i64 g, .int .u64 h] : Array Value).all (·.oneCell') = true := all_oneCell_toArray (fun u hu => by
  simp only [List.mem_cons, List.not_mem_nil, or_false] at hu
  rcases hu with rfl | rfl | rfl | rfl | rfl | rfl | rfl | rfl <;> rfl)
set_option maxRecDepth 100000 in
set_option maxHeartbeats 8000000 in
theorem scripted (a0 : Option Addr) (len0 cap0 : Nat) (z0 : List ActP) (w : World) (w1 : IsActs w a0 len0 z0) (hl : len0 ≤ 120) :
    Calls Try.prog 4 #[.slice a0 len0 cap0] w fun e w' => e = .returned (.bool true) ∧ Below w.heap.size w w' := by
  have h1 : ¬ (120 : Int) < (len0 : Int) := by omega
  have HN := Lib.hid (bgnew_any w)
  have HR4 := Lib.hid (fun w1 => rdnew_ok 4 (by omega) (by omega) w1)
  unfold MadeRd at HR4
  have HA := Lib.hid w1
  have HZ := Lib.hid zero_entry
  have HZA := Lib.hid zero_act10
  have HAW := Lib.hid (fun w1 => awake_any w1)
  have hl1 : len0 ≤ 120 := hl
  have hgu := guard_entry
  obtain ⟨g, hg⟩ : ∃ g, w.heap.size = g := ⟨_, rfl⟩
  have HG := Lib.hid hg
  rw [hg] at HN ⊢
  clear w1 hl hg
  go_enter Try.func4, Try.ntmps4
  go_wp2_with fail
  refine HN.out.mono ?_
  rintro e v1 ⟨rfl, hb1, hl1'⟩
  have HB1 := Lib.hid hb1
  have HL1 := Lib.hid hl1'
  clear hb1 hl1'
  go_wp2_with fail
  refine (HR4.out v1).mono ?_
  rintro e v3 ⟨a, b, rfl, ha, hb, hrd, hb3⟩
  have HBR := Lib.hid (br_new HG.out HB1.out HL1.out ha hb hrd hb3)
  clear ha hb hrd hb3
  go_wp2
  go_loopg [6] len0 (fun gk s6 wx => ∃ (i q n : Nat) (L : List En) (R : List Nat), i + gk = len0 ∧ s6 = .int .i64 i ∧ Hid (n ≤ 1 + i) ∧ Hid (Br w g wx g q L a b R n))
  case atStart => exact ⟨0, g, 1, [], _, by omega, rfl, Nat.le_refl _, HBR⟩
  case round =>
    obtain ⟨i, q, n, L, R, hin, rfl, HNL, HF⟩ := hrel
    cases gk with
    | zero =>
      obtain rfl : i = len0 := by omega
      have hii : ¬ (i : Int) < (i : Int) := by omega
      go_wp2_with fail
      refine (HAW.out _).mono ?_
      rintro e w2 ⟨rfl, hb2⟩
      have HF2 := Lib.hid (HF.out.below hb2)
      clear hb2
      go_wp2
      go_ret
      exact ⟨rfl, HF2.out.bel⟩
    | succ go =>
      have hii : (i : Int) < (len0 : Int) := by omega
      obtain ⟨x, b0, off, hx, rfl, _, c0, c1, c2, c3, c4, c5, c6, c7⟩ := (HA.out.below (HG.out.symm ▸ HF.out.bel)).at_ (i := i) (by omega)
      obtain ⟨bx, hbx⟩ : ∃ bx, wr.heap.size = bx := ⟨_, rfl⟩
      have HBX := Lib.hid hbx
      have HLQ : Hid (g < bx ∧ q < bx ∧ a < bx ∧ b < bx) := hbx ▸ ⟨HF.out.bg.lt_p, HF.out.bg.lt_q, HF.out.rd.lt_p, HF.out.rd.lt_q⟩
      have HNI : Hid (n ≤ 1 + (i + 1)) := by have := HNL.out; show _ ≤ _; omega
      clear hx hbx
      rcases Classical.em (x.kd = 0) with h0 | h0
      · have hk := h0
        have k0 : (x.kd == 0) = true := by simp [hk]
        clear hk h0
        go_wp2_with (first
          | ((with_reducible show wpList _ _ _ (⟨some 7, .alloc _, _, _, _, _⟩ :: _) _ _); refine wpList_alloc_var (o := ⟨some 7, _, _, _, _, _⟩) rfl 42 rfl bx HBX.out _ HZA.out ?_; intro w5 H5 X5)
          | ((with_reducible show wpList _ _ _ (⟨none, .store _ (.tmp 7) _, _, _, _, _⟩ :: _) _ _); refine wpList_store_whole (o := ⟨none, .store 42 (.tmp 7) (.tmp 37), _, _, _, _⟩) rfl _ _ _ rfl rfl bx #[.int .i64 x.kd, .int .i64 x.t, .int .i64 x.e.line, .int .i64 x.e.cl, .int .u64 (x.e.r : Nat), .int .u64 (x.e.d : Nat), .int .i64 x.e.anti, .int .u64 (x.dur : Nat)] rfl rfl 42 _ H5.out size_act10 rfl (ones8 _ _ _ _ _ _ _ _) ?_; intro w6 H6 X6; have HF6 := Lib.hid (HF.out.below (HBX.out.symm ▸ X5.out.trans X6.out)); obtain ⟨d0, d1, d2, d3, d4, d5, d6, d7⟩ := cells8 H6.out)
          | fail)
        refine (bgput_any HF6.out.bg HF6.out.gw x.e).mono ?_
        rintro e w7 ⟨rfl, hb7⟩
        obtain ⟨q7, hf7⟩ := HF6.out.moved hb7
        have HF7 := Lib.hid hf7
        clear hb7 hf7
        go_wp2
        go_roundg go
        case measure => omega
        case rel => exact ⟨i + 1, q7, n, _, R, by omega, by go_num, HNI, HF7⟩
      · rcases Classical.em (x.kd = 3) with h3 | h3
        · have hk := h3
          have k0 : (x.kd == 0) = false := by simp [hk]
          have k3 : (x.kd == 3) = true := by simp [hk]
          clear hk h0 h3
          go_wp2_with (first
            | ((with_reducible show wpList _ _ _ (⟨some 7, .alloc _, _, _, _, _⟩ :: _) _ _); refine wpList_alloc_var (o := ⟨some 7, _, _, _, _, _⟩) rfl 42 rfl bx HBX.out _ HZA.out ?_; intro w5 H5 X5)
            | ((with_reducible show wpList _ _ _ (⟨none, .store _ (.tmp 7) _, _, _, _, _⟩ :: _) _ _); refine wpList_store_whole (o := ⟨none, .store 42 (.tmp 7) (.tmp 37), _, _, _, _⟩) rfl _ _ _ rfl rfl bx #[.int .i64 x.kd, .int .i64 x.t, .int .i64 x.e.line, .int .i64 x.e.cl, .int .u64 (x.e.r : Nat), .int .u64 (x.e.d : Nat), .int .i64 x.e.anti, .int .u64 (x.dur : Nat)] rfl rfl 42 _ H5.out size_act10 rfl (ones8 _ _ _ _ _ _ _ _) ?_; intro w6 H6 X6; have HF6 := Lib.hid (HF.out.below (HBX.out.symm ▸ X5.out.trans X6.out)); obtain ⟨d0, d1, d2, d3, d4, d5, d6, d7⟩ := cells8 H6.out)
            | fail)
          refine (rdenter_any HF6.out.rd x.t).mono ?_
          rintro e w7 ⟨rfl, hb7, ht7⟩
          have HF7 := Lib.hid (HF6.out.clock hb7 ht7)
          clear hb7 ht7
          go_wp2
          go_roundg go
          case measure => omega
          case rel => exact ⟨i + 1, q, n, L, _, by omega, by go_num, HNI, HF7⟩
        · rcases Classical.em (x.kd = 4) with h4 | h4
          · have hk := h4
            have k0 : (x.kd == 0) = false := by simp [hk]
            have k3 : (x.kd == 3) = false := by simp [hk]
            have k4 : (x.kd == 4) = true := by simp [hk]
            clear hk h0 h3 h4
            go_wp2_with (first
              | ((with_reducible show wpList _ _ _ (⟨some 7, .alloc _, _, _, _, _⟩ :: _) _ _); refine wpList_alloc_var (o := ⟨some 7, _, _, _, _, _⟩) rfl 42 rfl bx HBX.out _ HZA.out ?_; intro w5 H5 X5)
              | ((with_reducible show wpList _ _ _ (⟨none, .store _ (.tmp 7) _, _, _, _, _⟩ :: _) _ _); refine wpList_store_whole (o := ⟨none, .store 42 (.tmp 7) (.tmp 37), _, _, _, _⟩) rfl _ _ _ rfl rfl bx #[.int .i64 x.kd, .int .i64 x.t, .int .i64 x.e.line, .int .i64 x.e.cl, .int .u64 (x.e.r : Nat), .int .u64 (x.e.d : Nat), .int .i64 x.e.anti, .int .u64 (x.dur : Nat)] rfl rfl 42 _ H5.out size_act10 rfl (ones8 _ _ _ _ _ _ _ _) ?_; intro w6 H6 X6; have HF6 := Lib.hid (HF.out.below (HBX.out.symm ▸ X5.out.trans X6.out)); obtain ⟨d0, d1, d2, d3, d4, d5, d6, d7⟩ := cells8 H6.out)
              | fail)
            refine (rdleave_any HF6.out.rd x.t).mono ?_
            rintro e w7 ⟨rfl, hb7, ht7⟩
            have HF7 := Lib.hid (HF6.out.clock hb7 ht7)
            clear hb7 ht7
            go_wp2
            go_roundg go
            case measure => omega
            case rel => exact ⟨i + 1, q, n, L, _, by omega, by go_num, HNI, HF7⟩
          · rcases Classical.em (x.kd = 5) with h5 | h5
            · have hk := h5
              have k0 : (x.kd == 0) = false := by simp [hk]
              have k3 : (x.kd == 3) = false := by simp [hk]
              have k4 : (x.kd == 4) = false := by simp [hk]
              have k5 : (x.kd == 5) = true := by simp [hk]
              clear hk h0 h3 h4 h5
              go_wp2_with (first
                | ((with_reducible show wpList _ _ _ (⟨some 7, .alloc _, _, _, _, _⟩ :: _) _ _); refine wpList_alloc_var (o := ⟨some 7, _, _, _, _, _⟩) rfl 42 rfl bx HBX.out _ HZA.out ?_; intro w5 H5 X5)
                | ((with_reducible show wpList _ _ _ (⟨none, .store _ (.tmp 7) _, _, _, _, _⟩ :: _) _ _); refine wpList_store_whole (o := ⟨none, .store 42 (.tmp 7) (.tmp 37), _, _, _, _⟩) rfl _ _ _ rfl rfl bx #[.int .i64 x.kd, .int .i64 x.t, .int .i64 x.e.line, .int .i64 x.e.cl, .int .u64 (x.e.r : Nat), .int .u64 (x.e.d : Nat), .int .i64 x.e.anti, .int .u64 (x.dur : Nat)] rfl rfl 42 _ H5.out size_act10 rfl (ones8 _ _ _ _ _ _ _ _) ?_; intro w6 H6 X6; have HF6 := Lib.hid (HF.out.below (HBX.out.symm ▸ X5.out.trans X6.out)); obtain ⟨d0, d1, d2, d3, d4, d5, d6, d7⟩ := cells8 H6.out)
                | fail)
              refine (rdadv_any HF6.out.rd (by have := HNL.out; omega)).mono ?_
              rintro e w7 ⟨rfl, hb7, ht7⟩
              have HF7 := Lib.hid (HF6.out.clock hb7 ht7)
              clear hb7 ht7
              go_wp2
              go_roundg go
              case measure => omega
              case rel => exact ⟨i + 1, q, (n + 1), L, _, by omega, by go_num, (by have := HNL.out; show _ ≤ _; omega), HF7⟩
            · rcases Classical.em (x.kd = 1) with h1 | h1
              · have hk := h1
                have k0 : (x.kd == 0) = false := by simp [hk]
                have k3 : (x.kd == 3) = false := by simp [hk]
                have k4 : (x.kd == 4) = false := by simp [hk]
                have k5 : (x.kd == 5) = false := by simp [hk]
                have k1 : (x.kd == 1) = true := by simp [hk]
                clear hk h0 h3 h4 h5 h1
                go_wp2_with (first
                  | ((with_reducible show wpList _ _ _ (⟨some 7, .alloc _, _, _, _, _⟩ :: _) _ _); refine wpList_alloc_var (o := ⟨some 7, _, _, _, _, _⟩) rfl 42 rfl bx HBX.out _ HZA.out ?_; intro w5 H5 X5)
                  | ((with_reducible show wpList _ _ _ (⟨none, .store _ (.tmp 7) _, _, _, _, _⟩ :: _) _ _); refine wpList_store_whole (o := ⟨none, .store 42 (.tmp 7) (.tmp 37), _, _, _, _⟩) rfl _ _ _ rfl rfl bx #[.int .i64 x.kd, .int .i64 x.t, .int .i64 x.e.line, .int .i64 x.e.cl, .int .u64 (x.e.r : Nat), .int .u64 (x.e.d : Nat), .int .i64 x.e.anti, .int .u64 (x.dur : Nat)] rfl rfl 42 _ H5.out size_act10 rfl (ones8 _ _ _ _ _ _ _ _) ?_; intro w6 H6 X6; have HF6 := Lib.hid (HF.out.below (HBX.out.symm ▸ X5.out.trans X6.out)); obtain ⟨d0, d1, d2, d3, d4, d5, d6, d7⟩ := cells8 H6.out)
                  | fail)
                refine (bgall_any HF6.out.bg).mono ?_
                rintro e w7 hh
                obtain ⟨V, rfl, ho7, hb7⟩ := hh
                obtain ⟨-, A1, cap1, rfl, -, hr7, -⟩ := rowE_of_own ho7 (by have := HF6.out.bg.most; omega)
                have HF7 := Lib.hid (HF6.out.below hb7)
                have HX7 := Lib.hid ((hb7.block bx (lt_of_heap H6.out)).trans H6.out)
                have hsz7 : w6.heap.size ≤ w7.heap.size := hb7.size
                have HRW7 := Lib.hid hr7
                obtain ⟨d0', d1', d2', d3', d4', d5', d6', d7'⟩ := cells8 HX7.out
                have HLEN := Lib.hid (popE_len (readyB (quietB R) x.dur) L)
                have hmost := HF7.out.bg.most
                have hA1 : ∀ ad, A1 = some ad → w6.heap.size ≤ ad.block := fun ad e => own_ge ho7 ad.block (by rw [e]; rfl)
                have HA1 := Lib.hid hA1
                have HS6 := Lib.hid (lt_of_heap H6.out)
                clear ho7 hb7 hr7 hA1
                obtain ⟨m, hm⟩ : ∃ m, L.length = m := ⟨_, rfl⟩
                rw [hm] at HLEN hmost
                have HM := Lib.hid hm
                rw [hm]
                clear hm
                go_wp2_with fail
                refine (bgpop_any HF7.out.bg HF7.out.rd x.dur).mono ?_
                rintro e w8 ⟨rfl, hb8, ht8⟩
                have HF8 := Lib.hid (HF7.out.popped hb8 ht8)
                have HRW8 : Hid (RowE w8 A1 L) := by
                  rcases Nat.eq_zero_or_pos L.length with h0 | h0
                  · exact ⟨by omega, fun h => by omega⟩
                  · exact HRW7.out.same ht8.size (fun ad e => ht8.block ad.block (by have := HA1.out ad e; have := HS6.out; have := HLQ.out; omega) (by have := HA1.out ad e; have := HS6.out; have := HLQ.out; omega) (by
                      obtain ⟨b', off', e', hlt, _⟩ := HRW7.out.2 h0
                      rw [e] at e'
                      cases e'
                      exact hlt))
                have HX8 := Lib.hid ((ht8.block bx (by have := HLQ.out; omega) (by have := HLQ.out; omega) (by have := HS6.out; omega)).trans HX7.out)
                clear hb8 ht8
                obtain ⟨hb, hhb⟩ : ∃ hb, hasE (readyB (quietB R) x.dur) L = hb := ⟨_, rfl⟩
                have HHB := Lib.hid hhb
                rw [hhb] at HLEN ⊢
                obtain ⟨ye, hye⟩ : ∃ ye, headE (readyB (quietB R) x.dur) L = ye := ⟨_, rfl⟩
                have HYE := Lib.hid hye
                rw [hye]
                unfold En.val
                obtain ⟨g8, hg8⟩ : ∃ g8, w8.heap.size = g8 := ⟨_, rfl⟩
                have HG8 := Lib.hid hg8
                have HL8 : Hid (bx < g8) := hg8 ▸ lt_of_heap HX8.out
                clear hhb hye hg8
                go_wp2_with (first
                  | ((with_reducible show wpList _ _ _ (⟨some 9, .alloc _, _, _, _, _⟩ :: _) _ _); refine wpList_alloc_var (o := ⟨some 9, _, _, _, _, _⟩) rfl 40 rfl g8 HG8.out _ HZ.out ?_; intro x3 H3 X3)
                  | ((with_reducible show wpList _ _ _ (⟨none, .store _ (.tmp 9) _, _, _, _, _⟩ :: _) _ _); refine wpList_store_whole (o := ⟨none, .store 40 (.tmp 9) (.tmp 72), _, _, _, _⟩) rfl _ _ _ rfl rfl g8 #[.int .i64 ye.line, .int .i64 ye.cl, .int .u64 (ye.r : Nat), .int .u64 (ye.d : Nat), .int .i64 ye.anti] rfl rfl 40 _ H3.out size_entry rfl (ones5 _ _ _ _ _) ?_; intro x4 H4 X4; have X34 : Hid (Below w8.heap.size w8 x4) := HG8.out.symm ▸ X3.out.trans X4.out)
                  | fail)
                have HF9 := Lib.hid (HF8.out.below X34.out)
                have HRW9 := Lib.hid (HRW8.out.below X34.out)
                obtain ⟨m0, m1, m2, m3, m4⟩ := cells5 H4.out
                have d7'' := (X34.out.cell (p := ⟨bx, 7, none⟩) (HG8.out.symm ▸ HL8.out)).trans (cells8 HX8.out).2.2.2.2.2.2.2
                have HLN : Hid (∀ wx, Br w g wx g q (popE (readyB (quietB R) x.dur) L) a b R n → Calls Try.prog 15 #[.pointer (some ⟨g, 0, none⟩)] wx fun y w' => y = .returned (.int .i64 ((if hb then m - 1 else m : Nat) : Int)) ∧ wx = w') := fun wx h => by
                  rw [← HLEN.out]
                  exact bglen_any h.bg
                generalize popE (readyB (quietB R) x.dur) L = L' at *
                go_loopg [11] m (fun gk s11 wx => ∃ k j : Nat, k + gk = m ∧ s11 = .int .i64 k ∧ wx = x4.drewN j ∧ Hid (∀ u, u < k → ∃ e, L[u]? = some e ∧ readyB (quietB R) x.dur e = false))
                case atStart => exact ⟨0, 0, by omega, rfl, rfl, fun u hu => by omega⟩
                case round =>
                  obtain ⟨k, j, hkm, rfl, rfl, HT⟩ := hrel
                  have HFz := Lib.hid (HF9.out.drewN j)
                  cases gk with
                  | zero =>
                    obtain rfl : k = m := by omega
                    have hkk : ¬ (k : Int) < (k : Int) := by omega
                    have hbf : hb = false := by
                      have h1 := firstAt_none _ L (fun u hu => HT.out u (HM.out ▸ hu))
                      rw [← HHB.out]
                      simp [hasE, h1]
                    subst hbf
                    have hz1 : ((k : Int) != (k : Int)) = false := by simp
                    go_wp2_with (first
                      | ((with_reducible show Calls _ 15 _ _ _); refine (HLN.out _ HFz.out).mono ?_; rintro y w9 ⟨rfl, rfl⟩)
                      | fail)
                    go_roundg go
                    case measure => omega
                    case rel => exact ⟨i + 1, q, n, _, R, by omega, by go_num, HNI, HFz⟩
                  | succ gk =>
                    have hkk : (k : Int) < (m : Int) := by omega
                    have hkL : k < L.length := by have := HM.out; omega
                    have hgi := List.getElem?_eq_getElem hkL
                    generalize L[k] = e at *
                    have HGI := Lib.hid hgi
                    obtain ⟨b1, o1, rfl, _, n0, n1, n2, n3, n4⟩ := HRW9.out.at_ hgi
                    have HQ : Hid (∀ u, Calls Try.prog 23 #[.pointer (some ⟨a, 0, none⟩), .int .u64 (e.r : Nat)] (x4.drewN (j + u)) fun y w' => y = .returned (.bool (quietB R e.r)) ∧ ∃ z, w' = x4.drewN (j + z)) := fun u => (rdquiet_any (HF9.out.drewN (j + u)).rd e.r).mono fun _ _ hh => ⟨hh.1, u, hh.2.symm⟩
                    have hz : readyB (quietB R) x.dur e = (quietB R e.r && decide (e.d ≤ x.dur)) := rfl
                    cases hq : quietB R e.r with
                    | false =>
                      rw [hq] at HQ hz
                      have hz' : readyB (quietB R) x.dur e = false := hz
                      have HNX : Hid (∀ u, u < k + 1 → ∃ e, L[u]? = some e ∧ readyB (quietB R) x.dur e = false) := fun u hu => by
                        rcases Nat.lt_or_ge u k with h1 | h1
                        · exact HT.out u h1
                        · obtain rfl : u = k := by omega
                          exact ⟨e, HGI.out, hz'⟩
                      have hlast : k + 1 = m → hb = false := fun h => by
                        have h1 := firstAt_none _ L (fun u hu => HNX.out u (by have := HM.out; omega))
                        rw [← HHB.out]
                        simp [hasE, h1]
                      clear hz hz' hq hgi
                      rcases Classical.em (k + 1 = m) with hl | hl
                      · obtain rfl := hlast hl
                        have hke : ((k : Int) == (m : Int) - 1) = true := by simp; omega
                        clear hlast hl
                        go_wp2
                        go_quiet ((go_at_call 23; exact HQ.out _))
                        go_wp2
                        go_quiet (fail)
                        go_wp2
                        go_roundg gk
                        case measure => omega
                        case rel => exact ⟨k + 1, _, by omega, by go_num, by first | rfl | (rw [World.drewN_drewN]) | (rw [World.drewN_drewN, World.drewN_drewN]), HNX⟩
                      · have hke : ((k : Int) == (m : Int) - 1) = false := by simp; omega
                        clear hlast
                        go_wp2
                        go_quiet ((go_at_call 23; exact HQ.out _))
                        go_wp2
                        go_quiet (fail)
                        go_wp2
                        go_roundg gk
                        case measure => omega
                        case rel => exact ⟨k + 1, _, by omega, by go_num, by first | rfl | (rw [World.drewN_drewN]) | (rw [World.drewN_drewN, World.drewN_drewN]), HNX⟩
                    | true =>
                      rw [hq] at HQ hz
                      cases hd : decide (e.d ≤ x.dur) with
                      | false =>
                        rw [hd] at hz
                        have hz' : readyB (quietB R) x.dur e = false := hz
                        have HNX : Hid (∀ u, u < k + 1 → ∃ e, L[u]? = some e ∧ readyB (quietB R) x.dur e = false) := fun u hu => by
                          rcases Nat.lt_or_ge u k with h1 | h1
                          · exact HT.out u h1
                          · obtain rfl : u = k := by omega
                            exact ⟨e, HGI.out, hz'⟩
                        have hlast : k + 1 = m → hb = false := fun h => by
                          have h1 := firstAt_none _ L (fun u hu => HNX.out u (by have := HM.out; omega))
                          rw [← HHB.out]
                          simp [hasE, h1]
                        clear hz hz' hq hgi
                        rcases Classical.em (k + 1 = m) with hl | hl
                        · obtain rfl := hlast hl
                          have hke : ((k : Int) == (m : Int) - 1) = true := by simp; omega
                          clear hlast hl
                          go_wp2
                          go_quiet ((go_at_call 23; exact HQ.out _))
                          go_wp2
                          go_quiet (fail)
                          go_wp2
                          go_roundg gk
                          case measure => omega
                          case rel => exact ⟨k + 1, _, by omega, by go_num, by first | rfl | (rw [World.drewN_drewN]) | (rw [World.drewN_drewN, World.drewN_drewN]), HNX⟩
                        · have hke : ((k : Int) == (m : Int) - 1) = false := by simp; omega
                          clear hlast
                          go_wp2
                          go_quiet ((go_at_call 23; exact HQ.out _))
                          go_wp2
                          go_quiet (fail)
                          go_wp2
                          go_roundg gk
                          case measure => omega
                          case rel => exact ⟨k + 1, _, by omega, by go_num, by first | rfl | (rw [World.drewN_drewN]) | (rw [World.drewN_drewN, World.drewN_drewN]), HNX⟩
                      | true =>
                        rw [hd] at hz
                        have hz' : readyB (quietB R) x.dur e = true := hz
                        have hfa := firstAt_is _ L k e HT.out HGI.out hz'
                        have hbt : hb = true := by
                          rw [← HHB.out]
                          simp [hasE, hfa, hkL]
                        subst hbt
                        have hee : ye = e := by
                          have h1 := head_at HHB.out
                          rw [hfa, HGI.out, HYE.out] at h1
                          exact (Option.some.inj h1).symm
                        subst hee
                        have hm1 : ((m - 1 : Nat) : Int) = (m : Int) - 1 := by omega
                        have hz1 : (((m : Int) - 1) != ((m : Int) - 1)) = false := by simp
                        clear hz hz' hq hgi hfa
                        have z0 : (ye.line == ye.line) = true := by simp
                        have z1 : (ye.cl == ye.cl) = true := by simp
                        have z2 : (((ye.r : Nat) : Int) == ((ye.r : Nat) : Int)) = true := by simp
                        have z3 : (((ye.d : Nat) : Int) == ((ye.d : Nat) : Int)) = true := by simp
                        have z4 : (ye.anti == ye.anti) = true := by simp
                        go_wp2
                        go_quiet ((go_at_call 23; exact HQ.out _))
                        go_wp2
                        go_quiet (fail)
                        go_wp2_with (first
                          | ((with_reducible show Calls _ 15 _ _ _); refine (HLN.out _ (HF9.out.drewN _)).mono ?_; rintro y w9 ⟨rfl, rfl⟩)
                          | fail)
                        go_roundg go
                        case measure => omega
                        case rel => exact ⟨i + 1, q, n, _, R, by omega, by go_num, HNI, HF9.out.drewN _⟩
              · have k0 : (x.kd == 0) = false := by simpa using h0
                have k3 : (x.kd == 3) = false := by simpa using h3
                have k4 : (x.kd == 4) = false := by simpa using h4
                have k5 : (x.kd == 5) = false := by simpa using h5
                have k1 : (x.kd == 1) = false := by simpa using h1
                clear h0 h3 h4 h5 h1
                go_wp2_with (first
                  | ((with_reducible show wpList _ _ _ (⟨some 7, .alloc _, _, _, _, _⟩ :: _) _ _); refine wpList_alloc_var (o := ⟨some 7, _, _, _, _, _⟩) rfl 42 rfl bx HBX.out _ HZA.out ?_; intro w5 H5 X5)
                  | ((with_reducible show wpList _ _ _ (⟨none, .store _ (.tmp 7) _, _, _, _, _⟩ :: _) _ _); refine wpList_store_whole (o := ⟨none, .store 42 (.tmp 7) (.tmp 37), _, _, _, _⟩) rfl _ _ _ rfl rfl bx #[.int .i64 x.kd, .int .i64 x.t, .int .i64 x.e.line, .int .i64 x.e.cl, .int .u64 (x.e.r : Nat), .int .u64 (x.e.d : Nat), .int .i64 x.e.anti, .int .u64 (x.dur : Nat)] rfl rfl 42 _ H5.out size_act10 rfl (ones8 _ _ _ _ _ _ _ _) ?_; intro w6 H6 X6; have HF6 := Lib.hid (HF.out.below (HBX.out.symm ▸ X5.out.trans X6.out)); obtain ⟨d0, d1, d2, d3, d4, d5, d6, d7⟩ := cells8 H6.out)
                  | fail)
                go_roundg go
                case measure => omega
                case rel => exact ⟨i + 1, q, n, L, R, by omega, by go_num, HNI, HF6⟩
theorem walk (a0 : Option Addr) (len0 cap0 : Nat) (z0 : List ActP) (w : World) (w0 : IsActs w a0 len0 z0) :
    Calls Try.prog 4 #[.slice a0 len0 cap0] w fun e w' => e = .returned (.bool true) ∧ Below w.heap.size w w' := by
  rcases Nat.lt_or_ge 120 len0 with h | h
  · exact many a0 len0 cap0 w h (by have := w0.2.1; unfold maxLen at this; omega)
  · exact scripted a0 len0 cap0 z0 w w0 h

set_option maxRecDepth 100000 in
theorem lifted (os : Os) (started : os.Started) (H : Type) (enc : TypeId × Value → H) :
    ReturnsInHanded {} Try.checked os 4 .any (Rows.limboJoinSpec.pre6 enc Try.prog Try.f4 Rows.limboJoinRow.domain false) (Rows.limboJoinSpec.post enc Try.prog Try.f4 false true false false) := by
  refine returnsInHanded_of_change (C := Try.checked) own started (by kernel_rfl) Try.func4
    (ChangeSpec.witness6 (enc := enc) (C := Try.checked) false ⟨#[], #[.slice none 0 0], []⟩ 8 (by kernel_rfl) (by kernel_rfl) (by kernel_rfl) (by kernel_rfl)) ?_
  intro W base args ds gs before hval0 hW hcnd _
  have hval : ∀ (j : Nat) t v, Try.f4.params[j]? = some t → args[j]? = some v → Value.okWide Try.prog W .any base t v := hval0
  have hW' := hW
  obtain ⟨p, q, hA0, hV, rfl, hfz, hnd⟩ := hW
  have hA : DataW.TrodAll enc Try.prog W 0 (fun _ => true) true Try.f4.params.toList args.toList ds p := hA0
  rw [Try.params4] at hA hval
  obtain ⟨v0, vs0, d0, ds0, p0, q0, hargs, rfl, rfl, h0, r0⟩ := trodAll_cons hA
  obtain ⟨rfl, rfl, rfl⟩ := trodAll_nil r0
  obtain rfl : args = #[v0] := by cases args; simp_all
  obtain ⟨rfl, rfl⟩ := trodVars_none hV
  obtain ⟨a0, len0, cap0, rfl⟩ := okWide_slice Try.underlying22 (hval 0 22 v0 rfl rfl)
  have k0 := h0
  have lt0 : ∀ x ∈ p0, x.block < W.heap.size := by obtain ⟨m, hm⟩ := k0; exact DataW.trod_lt m _ _ _ hm
  obtain ⟨z0, w0⟩ : ∃ zs, IsActs W a0 len0 zs := by
    obtain ⟨fuel, hf⟩ := h0
    exact isActs_of hf
  clear hA0 hval0
  refine (walk a0 len0 cap0 z0 W w0).mono fun e W' ⟨he, bel⟩ => ?_
  subst he
  exact ⟨_, rfl, _, _, _, [], _, [], hW', trodAll_mk1 (shut_bool Try.underlying4 _), (trodAll_cons_mk (Below.trod laidOut (by kernel_rfl) (of_decide_eq_true (by kernel_rfl)) k0 bel lt0) trodAll_mk0), rfl, bel.frame _, fun h => by cases h⟩

theorem over : Rows.limboJoinRow.holds Try.pinned (OpenSpec.ofChange Rows.limboJoinSpec) :=
  OpenClaim.holds_of_wide 4 Try.f4 rfl rfl rfl rfl rfl rfl rfl ⟨rfl, rfl, rfl, rfl, rfl⟩ rfl rfl rfl rfl rfl (by kernel_rfl) Try.func4 (by kernel_rfl)
    (of_decide_eq_true (by kernel_rfl)) (by unfold Func.isWrapper; first | (rw [if_pos (by decide +kernel)]; kernel_rfl) | (rw [if_neg (by decide +kernel)]; exact ⟨rfl, rfl⟩))
    (fun os started H enc _ => lifted os started H enc)

theorem proved : Rows.LimboJoinSaid := over
#print axioms proved
end Go.Proofs.Ytfonjkbdonbjdaa.limboJoin
