/-
Proved here: FifoScript answers true whatever links and truths come in.
  Conditions: none.
-/
import Derived.Test.YtejljkpnhdnncaaRows
import Derived.Test.YtejljkpnhdnncaaFiJ14
import Derived.Test.YtejljkpnhdnncaaSame12
import Derived.IntWalk
import Derived.WalkSmall
import Derived.Deep.QuietTactic
import Derived.BigQuiet
import Derived.WalkKit
import Derived.ProofKit
import Derived.OpenShut
import Derived.ShutString
import Derived.ChangeOld
import Derived.Below
namespace Go.Proofs.Ytejljkpnhdnncaa.fifoScript
open Go.ChangeShapes Go.WideShapes Go.ChangeAt Go.RowKit
open Go.ChangeMaps (open_string shut_string)
set_option linter.unusedVariables false

theorem own : ownKnob Try.prog.godebug = none := by kernel_rfl
theorem laidOut : laidOutB Try.prog = true := by kernel_rfl

set_option maxRecDepth 100000 in
set_option maxHeartbeats 1600000 in
theorem many (a0 : Option Addr) (len0 cap0 : Nat) (a1 : Option Addr) (len1 cap1 : Nat) (w : World) (hm : 300 < len0) :
    Calls Try.prog 3 #[.slice a0 len0 cap0, .slice a1 len1 cap1] w fun e w' => e = .returned (.bool true) ∧ Below w.heap.size w w' := by
  have HAW := Lib.hid (awake14_any w)
  have hm2 : (300 : Int) < (len0 : Int) := by omega
  clear hm
  go_enter Try.func3, Try.ntmps3
  go_wp2_with fail
  refine HAW.out.mono ?_
  rintro e w' ⟨rfl, hb⟩
  have HB := Lib.hid hb
  clear hb
  go_wp2
  go_ret
  exact ⟨rfl, HB.out⟩
set_option maxRecDepth 100000 in
set_option maxHeartbeats 25600000 in
theorem few (a0 : Option Addr) (len0 cap0 : Nat) (z0 : List Ln) (a1 : Option Addr) (len1 cap1 : Nat) (p : List Bool) (w : World) (w0 : IsLinks w a0 len0 z0) (w1 : IsBools w a1 len1 p) (hn300 : len0 ≤ 300) :
    Calls Try.prog 3 #[.slice a0 len0 cap0, .slice a1 len1 cap1] w fun e w' => e = .returned (.bool true) ∧ Below w.heap.size w w' := by
  obtain ⟨g, hg⟩ : ∃ g, w.heap.size = g := ⟨_, rfl⟩
  have HROW : Hid (∀ w1, Below g w w1 → RowL w1 a0 z0) := fun w1 hb => (w0.row (by omega)).below (hg.symm ▸ hb)
  have hzl : z0.length = len0 := w0.1.1
  have HBL : Hid (∀ i, i < len1 → ∃ bP oP pv, a1 = some ⟨bP, oP, none⟩ ∧ (∀ w1, Below g w w1 → w1.cell? ⟨bP, oP + i, none⟩ = some (.bool pv)) ∧ p.getD i false = pv) := fun i hi => by
    obtain ⟨h1, _, h3⟩ := w1
    obtain ⟨b, o, e, hlt, hc⟩ := h3 (by omega)
    have hi2 : i < p.length := by omega
    exact ⟨b, o, p[i], e, fun w1 hb => (hb.cell (p := ⟨b, o + i, none⟩) (by rw [← hg]; exact hlt)).trans (hc i _ (List.getElem?_eq_getElem hi2)), by simp [List.getD, List.getElem?_eq_getElem hi2]⟩
  have HPL : Hid (∀ i, len1 ≤ i → p.getD i false = false) := fun i hi => by
    have h1 := w1.1
    simp [List.getD, List.getElem?_eq_none (show p.length ≤ i by omega)]
  have HQP : Hid (∀ i, p.getD i false = false → playQ z0 p (i + 1) = playQ z0 p i ++ [z0.getD i Ln.zero]) := fun i h => by
    show stepQ _ _ _ = _
    rw [h]
    rfl
  have HQT : Hid (∀ i, p.getD i false = true → playQ z0 p (i + 1) = (playQ z0 p i).tail) := fun i h => by
    show stepQ _ _ _ = _
    rw [h]
    rfl
  have HQL := Lib.hid (playQ_len z0 p)
  have HQ0 : Hid (playQ z0 p 0 = []) := rfl
  have HLN : Hid (∀ w1 v i, Fg w g w1 g v (playQ z0 p i) → Calls Try.prog 11 #[.pointer (some ⟨g, 0, none⟩)] w1 fun y w' => y = .returned (.int .i64 ((playQ z0 p i).length : Nat)) ∧ w1 = w') := fun w1 v i h => by
    obtain ⟨f, P, h1⟩ := h.fi
    exact filen_any h1
  have HAL : Hid (∀ w1 v i, Fg w g w1 g v (playQ z0 p i) → Calls Try.prog 12 #[.pointer (some ⟨g, 0, none⟩)] w1 (AllN (playQ z0 p i) w1)) := fun w1 v i h => by
    obtain ⟨f, P, h1⟩ := h.fi
    exact fiall_any h1
  have HSAME : Hid (∀ (u1 : World) (gq m2 : Nat) (A2 : Option Addr) (cap2 B1 B2 : Nat) (L : List Ln), L.length = m2 → m2 ≤ 1048576 → u1.ownsRow B1 29 5 (.slice (some ⟨gq, 0, none⟩) m2 m2) m2 (encL L) → u1.ownsRow B2 29 5 (.slice A2 m2 cap2) L.length (encL L) → Calls Try.prog 13 #[.slice (some ⟨gq, 0, none⟩) m2 m2, .slice A2 m2 cap2] u1 fun e w' => e = .returned (.bool true) ∧ ∃ k, w' = u1.drewN k) := fun u1 gq m2 A2 cap2 B1 B2 L h1 h2 h3 h4 => same_two L m2 h1 h2 h3 h4
  have HOVER := Lib.hid (fun w1 B n v r => overl_sp w1 B n v r)
  have HN := Lib.hid (finew_any w)
  have HAW := Lib.hid (fun w1 => awake14_any w1)
  have HZ := Lib.hid zero_link
  have HG := Lib.hid hg
  rw [hg] at HN ⊢
  generalize playQ z0 p = Q at *
  have hgu := guard_link12
  have hzs : (({ data := #[] } : ByteArray).toList == ({ data := #[] } : ByteArray).toList) = true := by simp
  have hle : ¬ (300 : Int) < (len0 : Int) := by omega
  clear w0 w1 hg
  go_enter Try.func3, Try.ntmps3
  go_wp2_with fail
  refine HN.out.mono ?_
  rintro e w1 ⟨rfl, ht1, hb1⟩
  have HM1 : Hid (Mw w g w1 (.slice none 0 0) (.slice none 0 0) (Q 0) (Q 0)) := by
    show Mw _ _ _ _ _ _ _
    rw [HQ0.out]
    exact mw_new (fg_new HG.out ht1 hb1)
  have HM01 : Hid ((Q 0).length = 0) := by show _ = _; rw [HQ0.out]; rfl
  clear ht1 hb1
  go_wp2
  go_loopg [6, 7, 8, 9, 10, 11, 12, 13] len0 (fun gk s6 s7 s8 s9 s10 s11 s12 s13 wx => ∃ (i : Nat) (v : Value) (A : Option Addr) (m cap : Nat) (V8 V9 V10 V11 V12 V13 : Value), i + gk = len0 ∧ s7 = .int .i64 i ∧ s6 = .slice A m cap ∧ V8 = s8 ∧ V9 = s9 ∧ V10 = s10 ∧ V11 = s11 ∧ V12 = s12 ∧ V13 = s13 ∧ Hid ((Q i).length = m) ∧ Hid (Mw w g wx v (.slice A m cap) (Q i) (Q i)))
  case atStart => exact ⟨0, _, none, 0, 0, _, _, _, _, _, _, by omega, rfl, rfl, rfl, rfl, rfl, rfl, rfl, rfl, HM01, HM1⟩
  case round =>
    obtain ⟨i, v, A, m, cap, V8, V9, V10, V11, V12, V13, hin, rfl, rfl, rfl, rfl, rfl, rfl, rfl, rfl, HMM, HM⟩ := hrel
    cases gk with
    | zero =>
      have hil : i = len0 := by omega
      have hii : ¬ (i : Int) < (len0 : Int) := by omega
      have HAL2 := Lib.hid (HAL.out _ _ i HM.out.fg)
      unfold AllN at HAL2
      rw [HMM.out] at HAL2
      go_wp2_with fail
      refine HAL2.out.mono ?_
      rintro e u1 ⟨gq, rfl, ho, hb⟩
      have HMu := Lib.hid (HM.out.below hb)
      have HSA := Lib.hid (HSAME.out u1 gq m A cap _ _ (Q i) HMM.out (by have := HQL.out i; have := HMM.out; omega) ho HMu.out.row)
      clear ho hb
      go_wp2_with fail
      refine HSA.out.mono ?_
      rintro e u2 ⟨rfl, k, rfl⟩
      have HMv := Lib.hid (HMu.out.drewN k)
      go_wp2_with fail
      refine (HAW.out _).mono ?_
      rintro e u3 ⟨rfl, hb⟩
      have HB : Hid (Below g w u3) := HMv.out.fg.bel.trans (hb.mono HMv.out.fg.gw)
      clear hb
      go_wp2
      go_ret
      exact ⟨rfl, HB.out⟩
    | succ gk =>
      have hii : (i : Int) < (len0 : Int) := by omega
      have hil : i < z0.length := by omega
      have hzi := List.getElem?_eq_getElem hil
      have hzd : z0.getD i Ln.zero = z0[i] := by simp [List.getD, hzi]
      obtain ⟨ga, hga⟩ : ∃ ga, wr.heap.size = ga := ⟨_, rfl⟩
      have HGA := Lib.hid hga
      clear hga
      cases hi7 : ((i : Int) % 7 == 0) with
      | true =>
        by_cases hil1 : i < len1
        · have hil1i : (i : Int) < (len1 : Int) := by omega
          obtain ⟨bP, oP, pv, ha1, hpc, hpo⟩ := HBL.out i hil1
          subst ha1
          cases pv with
          | false =>
            have HPC := Lib.hid hpc
            clear hpc
            have hQ : Q (i + 1) = Q i ++ [z0[i]] := by rw [HQP.out i hpo, hzd]
            have hrx := (HROW.out wr HM.out.fg.bel).at_ hzi
            obtain ⟨bL, oL, ha0, -, -⟩ := hrx
            subst ha0
            generalize z0[i] = x at *
            have HRX : Hid (∀ w1, Below g w w1 → w1.cell? ⟨bL, oL + i * 5, none⟩ = some (.string x.str) ∧ w1.cell? ⟨bL, oL + i * 5 + 1, none⟩ = some (.int .u64 (x.id : Nat)) ∧ w1.cell? ⟨bL, oL + i * 5 + 2, none⟩ = some (.int .u64 (x.ver : Nat)) ∧ w1.cell? ⟨bL, oL + i * 5 + 3, none⟩ = some (.int .i64 x.line) ∧ w1.cell? ⟨bL, oL + i * 5 + 4, none⟩ = some (.int .i64 x.cl)) := fun w1 hb => by
              obtain ⟨b', o', e, _, h⟩ := (HROW.out w1 hb).at_ hzi
              cases e
              exact h
            have HPU2 : Hid (∀ w1 v, Mw w g w1 v (.slice A m cap) (Q i) (Q i) → Calls Try.prog 10 #[.pointer (some ⟨g, 0, none⟩), .agg #[.string x.str, .int .u64 (x.id : Nat), .int .u64 (x.ver : Nat), .int .i64 x.line, .int .i64 x.cl]] w1 fun y w' => y = .returned (.tuple #[]) ∧ FiTo w1 g v (Q (i + 1)) w') := fun w1 v h => by
              obtain ⟨f, P, h1⟩ := h.fg.fi
              have := fipush_any h1 (by have := HQL.out i; omega) x
              rwa [← hQ] at this
            have HAP : Hid (∀ w1 v, Mw w g w1 v (.slice A m cap) (Q (i + 1)) (Q i) → ∃ A2 m2 cap2 w2, (Builtin.append_ #[22, 22] 22 #[.slice A m cap, .slice (some ⟨w1.heap.size, 0, none⟩) 1 1]).run Try.prog (w1.alloc (.cells #[.string x.str, .int .u64 (x.id : Nat), .int .u64 (x.ver : Nat), .int .i64 x.line, .int .i64 x.cl] 29)) = .ok (.slice A2 m2 cap2) w2 ∧ (Q (i + 1)).length = m2 ∧ Mw w g w2 v (.slice A2 m2 cap2) (Q (i + 1)) (Q (i + 1))) := fun w1 v h => by
              obtain ⟨u, w2, e1, e2, e3, e4⟩ := run_appL_one w1 g (.slice A m cap) (Q i) x h.row (by have := HQL.out i; omega) h.fg.gw
              rw [← hQ] at e2
              have h2 := h.setM e2 e3 (fun k hk => e4.elim (fun e => .inl (e ▸ hk)) (fun e => .inr (by rw [e] at hk; cases hk; omega)))
              obtain ⟨_, A2, cap2, rfl, _⟩ := rowL_of_own e2 (by have := HQL.out (i + 1); omega)
              exact ⟨A2, _, cap2, w2, e1, rfl, h2⟩
            clear hQ hzd
            generalize x.str = x0 at *
            generalize (x.id : Int) = x1 at *
            generalize (x.ver : Int) = x2 at *
            generalize x.line = x3 at *
            generalize x.cl = x4 at *
            obtain ⟨d0, d1, d2, d3, d4⟩ := HRX.out wr HM.out.fg.bel
            go_wp2_with (first
              | ((with_reducible show wpList _ _ _ (⟨some 8, .alloc _, _, _, _, _⟩ :: _) _ _); refine wpList_alloc_var (o := ⟨some 8, _, _, _, _, _⟩) rfl 29 rfl ga HGA.out _ HZ.out ?_; intro y1 Y1 Z1; have HMa := Lib.hid (HM.out.below (HGA.out.symm ▸ Z1.out)); obtain ⟨d0, d1, d2, d3, d4⟩ := HRX.out y1 HMa.out.fg.bel; have hpc1 := HPC.out y1 HMa.out.fg.bel)
              | fail)
            refine (HPU2.out _ _ HMa.out).mono ?_
            rintro e y2 ⟨rfl, hb⟩
            obtain ⟨⟨v2, hm2⟩, -⟩ := HMa.out.setP hb
            have HMb := Lib.hid hm2
            obtain ⟨d0, d1, d2, d3, d4⟩ := HRX.out y2 HMb.out.fg.bel
            obtain ⟨A2, m2, cap2, y3, e1, e2, e3⟩ := HAP.out _ _ HMb.out
            have E1 := Lib.hid e1
            have HM2 := Lib.hid e2
            have HMc := Lib.hid e3
            clear hb hm2 e1 e2 e3
            have HLN2 := Lib.hid (HLN.out _ _ (i + 1) HMc.out.fg)
            rw [HM2.out] at HLN2
            have hmm : ((m2 : Int) != (m2 : Int)) = false := by simp
            go_wp2_with (first
              | (at_builtin; refine wpList_app rfl (.tmp 85) (.tmp 90) 22 rfl rfl rfl E1.out ?_)
              | fail)
            refine HLN2.out.mono ?_
            rintro e w' ⟨rfl, rfl⟩
            have HAL2 := Lib.hid (HAL.out _ _ (i + 1) HMc.out.fg)
            unfold AllN at HAL2
            rw [HM2.out] at HAL2
            go_wp2_with fail
            refine HAL2.out.mono ?_
            rintro e u1 ⟨gq, rfl, ho, hb⟩
            have HMu := Lib.hid (HMc.out.below hb)
            have HSA := Lib.hid (HSAME.out u1 gq m2 A2 cap2 _ _ (Q (i + 1)) HM2.out (by have := HQL.out (i + 1); have := HM2.out; omega) ho HMu.out.row)
            have HB1 := Lib.hid hb
            have HOV := Lib.hid (fun k => HOVER.out (u1.drewN k) _ m2 (.slice (some ⟨gq, 0, none⟩) m2 m2) (Q (i + 1)) HM2.out (by have := HQL.out (i + 1); have := HM2.out; omega) (own_keep ho (below_drewN (Below.refl _ _) k)) hb.size)
            clear ho hb
            go_wp2_with fail
            refine HSA.out.mono ?_
            rintro e u2 ⟨rfl, k, rfl⟩
            go_wp2_with fail
            refine (HOV.out k).mono ?_
            rintro e u3 ⟨rfl, hb⟩
            have HMv : Hid (Mw w g u3 v2 (.slice A2 m2 cap2) (Q (i + 1)) (Q (i + 1))) := HMc.out.below (HB1.out.trans ((below_drewN (Below.refl _ _) k).trans hb))
            clear hb
            go_wp2
            go_roundg gk
            case measure => omega
            case rel => exact ⟨i + 1, v2, A2, m2, cap2, _, _, _, _, _, _, by omega, by go_num, rfl, rfl, rfl, rfl, rfl, rfl, rfl, HM2, HMv⟩
          | true =>
            have HPC := Lib.hid hpc
            clear hpc
            cases hqi : Q i with
            | nil =>
              obtain rfl : m = 0 := by have := HMM.out; rw [hqi] at this; exact this.symm
              have hQ : Q (i + 1) = [] := by rw [HQT.out i hpo, hqi]; rfl
              have hQi := hqi
              have HHD2 : Hid (∀ w1 v V, Mw w g w1 v V (Q i) (Q i) → Calls Try.prog 8 #[.pointer (some ⟨g, 0, none⟩)] w1 fun y w' => y = .returned (.tuple #[.agg #[.string ⟨#[]⟩, .int .u64 0, .int .u64 0, .int .i64 0, .int .i64 0], .bool false]) ∧ Below w1.heap.size w1 w') := fun w1 v V h => by
                obtain ⟨f, P, h1⟩ := h.fg.fi
                rw [hQi] at h1
                exact fihead_below h1
              have HPO2 : Hid (∀ w1 v V, Mw w g w1 v V (Q i) (Q i) → Calls Try.prog 9 #[.pointer (some ⟨g, 0, none⟩)] w1 fun y w' => y = .returned (.tuple #[.agg #[.string ⟨#[]⟩, .int .u64 0, .int .u64 0, .int .i64 0, .int .i64 0], .bool false]) ∧ FiTo w1 g v (Q (i + 1)) w') := fun w1 v V h => by
                obtain ⟨f, P, h1⟩ := h.fg.fi
                rw [hQi] at h1
                rw [hQ]
                exact fipop_any h1
              have HQQ : Hid (Q i = Q (i + 1)) := hQi.trans hQ.symm
              have HM2 : Hid ((Q (i + 1)).length = 0) := by show _ = _; rw [hQ]; rfl
              clear hQ hQi hqi
              go_wp2_with (first
                | ((with_reducible show wpList _ _ _ (⟨some 8, .alloc _, _, _, _, _⟩ :: _) _ _); refine wpList_alloc_var (o := ⟨some 8, _, _, _, _, _⟩) rfl 29 rfl ga HGA.out _ HZ.out ?_; intro y1 Y1 Z1; have HMa := Lib.hid (HM.out.below (HGA.out.symm ▸ Z1.out)); have hpc1 := HPC.out y1 HMa.out.fg.bel)
                | fail)
              have HMb := HMa
              refine (HHD2.out _ _ _ HMb.out).mono ?_
              rintro e y3 ⟨rfl, hb3⟩
              have HMc := Lib.hid (HMb.out.below hb3)
              have Y3 := Lib.hid ((hb3.block ga (lt_of_heap Y1.out)).trans Y1.out)
              obtain ⟨gb, hgb⟩ : ∃ gb, y3.heap.size = gb := ⟨_, rfl⟩
              have HGB := Lib.hid hgb
              have HLB : Hid (ga < gb) := hgb ▸ lt_of_heap Y3.out
              clear hb3 hgb
              go_wp2_with (first
                | ((with_reducible show wpList _ _ _ (⟨some 9, .alloc _, _, _, _, _⟩ :: _) _ _); refine wpList_alloc_var (o := ⟨some 9, _, _, _, _, _⟩) rfl 29 rfl gb HGB.out _ HZ.out ?_; intro y4 Y4 Z4)
                | ((with_reducible show wpList _ _ _ (⟨none, .store _ (.tmp 9) _, _, _, _, _⟩ :: _) _ _); refine wpList_store_whole (o := ⟨none, .store 29 (.tmp 9) (.tmp 46), _, _, _, _⟩) rfl _ _ _ rfl rfl gb #[.string ⟨#[]⟩, .int .u64 0, .int .u64 0, .int .i64 0, .int .i64 0] rfl rfl 29 _ Y4.out size_link rfl (onesL _ _ _ _ _) ?_; intro y5 Y5 Z5)
                | fail)
              have HMd := Lib.hid (HMc.out.below (HGB.out.symm ▸ (Z4.out.trans Z5.out)))
              have Y35 := Lib.hid (((Z4.out.trans Z5.out).block ga HLB.out).trans Y3.out)
              have HNA : Hid (¬ fiOwn g v ga) := fun e => by have := HM.out.fg.lt e; have := HGA.out; omega
              have HNB : Hid (¬ fiOwn g v gb) := fun e => by have := HM.out.fg.lt e; have := HGA.out; have := HLB.out; omega
              refine (HPO2.out _ _ _ HMd.out).mono ?_
              rintro e y6 ⟨rfl, hb6⟩
              obtain ⟨⟨v2, hm6⟩, hst⟩ := HMd.out.setP hb6
              have HMe := Lib.hid hm6
              have Y6a := Lib.hid ((hst ga (lt_of_heap Y35.out) HNA.out).trans Y35.out)
              have Y6b := Lib.hid ((hst gb (lt_of_heap Y5.out) HNB.out).trans Y5.out)
              obtain ⟨gc, hgc⟩ : ∃ gc, y6.heap.size = gc := ⟨_, rfl⟩
              have HGC := Lib.hid hgc
              have HLA : Hid (ga < gc) := hgc ▸ lt_of_heap Y6a.out
              have HLC : Hid (gb < gc) := hgc ▸ lt_of_heap Y6b.out
              clear hb6 hm6 hst hgc
              go_wp2_with (first
                | ((with_reducible show wpList _ _ _ (⟨some 11, .alloc _, _, _, _, _⟩ :: _) _ _); refine wpList_alloc_var (o := ⟨some 11, _, _, _, _, _⟩) rfl 29 rfl gc HGC.out _ HZ.out ?_; intro y7 Y7 Z7)
                | ((with_reducible show wpList _ _ _ (⟨none, .store _ (.tmp 11) _, _, _, _, _⟩ :: _) _ _); refine wpList_store_whole (o := ⟨none, .store 29 (.tmp 11) (.tmp 51), _, _, _, _⟩) rfl _ _ _ rfl rfl gc #[.string ⟨#[]⟩, .int .u64 0, .int .u64 0, .int .i64 0, .int .i64 0] rfl rfl 29 _ Y7.out size_link rfl (onesL _ _ _ _ _) ?_; intro y8 Y8 Z8; have HMf := Lib.hid (HMe.out.below (HGC.out.symm ▸ (Z7.out.trans Z8.out))); have Y8a := Lib.hid (((Z7.out.trans Z8.out).block ga HLA.out).trans Y6a.out); have Y8b := Lib.hid (((Z7.out.trans Z8.out).block gb HLC.out).trans Y6b.out); obtain ⟨p0, p1, p2, p3, p4⟩ := cellsL Y8a.out; obtain ⟨q0, q1, q2, q3, q4⟩ := cellsL Y8b.out; obtain ⟨r0, r1, r2, r3, r4⟩ := cellsL Y8.out; have HMg : Hid (Mw w g y8 v2 (.slice A 0 cap) (Q (i + 1)) (Q (i + 1))) := (by have h := HMf.out; rw [HQQ.out] at h; exact h); have HLN2 := Lib.hid (HLN.out _ _ (i + 1) HMg.out.fg); rw [HM2.out] at HLN2)
                | fail)
              refine HLN2.out.mono ?_
              rintro e w' ⟨rfl, rfl⟩
              have HAL2 := Lib.hid (HAL.out _ _ (i + 1) HMg.out.fg)
              unfold AllN at HAL2
              rw [HM2.out] at HAL2
              go_wp2_with fail
              refine HAL2.out.mono ?_
              rintro e u1 ⟨gq, rfl, ho, hb⟩
              have HMu := Lib.hid (HMg.out.below hb)
              have HSA := Lib.hid (HSAME.out u1 gq 0 A cap _ _ (Q (i + 1)) HM2.out (by have := HQL.out (i + 1); have := HM2.out; omega) ho HMu.out.row)
              have HB1 := Lib.hid hb
              have HOV := Lib.hid (fun k => HOVER.out (u1.drewN k) _ 0 (.slice (some ⟨gq, 0, none⟩) 0 0) (Q (i + 1)) HM2.out (by have := HQL.out (i + 1); have := HM2.out; omega) (own_keep ho (below_drewN (Below.refl _ _) k)) hb.size)
              clear ho hb
              go_wp2_with fail
              refine HSA.out.mono ?_
              rintro e u2 ⟨rfl, k, rfl⟩
              go_wp2_with fail
              refine (HOV.out k).mono ?_
              rintro e u3 ⟨rfl, hb⟩
              have HMv : Hid (Mw w g u3 v2 (.slice A 0 cap) (Q (i + 1)) (Q (i + 1))) := HMg.out.below (HB1.out.trans ((below_drewN (Below.refl _ _) k).trans hb))
              clear hb
              go_wp2
              go_roundg gk
              case measure => omega
              case rel => exact ⟨i + 1, v2, A, 0, cap, _, _, _, _, _, _, by omega, by go_num, rfl, rfl, rfl, rfl, rfl, rfl, rfl, HM2, HMv⟩
            | cons x xt =>
              by_cases hcap1 : cap = 1
              · skip
                have hQ : Q (i + 1) = xt := by rw [HQT.out i hpo, hqi]; rfl
                have hml : m = xt.length + 1 := by have := HMM.out; rw [hqi] at this; exact this.symm
                obtain ⟨bV, hA0⟩ : ∃ bV, A = some ⟨bV, 0, none⟩ := by
                  have h0 := HM.out.row.2
                  rcases h0 with ⟨e, _⟩ | ⟨b, c, cur, e, _⟩
                  · cases e
                    omega
                  · cases e
                    exact ⟨b, rfl⟩
                subst hA0
                have HHD2 : Hid (∀ w1 v V, Mw w g w1 v V (Q i) (Q i) → Calls Try.prog 8 #[.pointer (some ⟨g, 0, none⟩)] w1 fun y w' => y = .returned (.tuple #[.agg #[.string x.str, .int .u64 (x.id : Nat), .int .u64 (x.ver : Nat), .int .i64 x.line, .int .i64 x.cl], .bool true]) ∧ Below w1.heap.size w1 w') := fun w1 v V h => by
                  obtain ⟨f, P, h1⟩ := h.fg.fi
                  rw [hqi] at h1
                  exact fihead_below h1
                have HPO2 : Hid (∀ w1 v V, Mw w g w1 v V (Q i) (Q i) → Calls Try.prog 9 #[.pointer (some ⟨g, 0, none⟩)] w1 fun y w' => y = .returned (.tuple #[.agg #[.string x.str, .int .u64 (x.id : Nat), .int .u64 (x.ver : Nat), .int .i64 x.line, .int .i64 x.cl], .bool true]) ∧ FiTo w1 g v (Q (i + 1)) w') := fun w1 v V h => by
                  obtain ⟨f, P, h1⟩ := h.fg.fi
                  rw [hqi] at h1
                  rw [hQ]
                  exact fipop_any h1
                have HRX : Hid (∀ w1 v L1, Mw w g w1 v (.slice (some ⟨bV, 0, none⟩) m cap) L1 (Q i) → w1.cell? ⟨bV, 0, none⟩ = some (.string x.str) ∧ w1.cell? ⟨bV, 1, none⟩ = some (.int .u64 (x.id : Nat)) ∧ w1.cell? ⟨bV, 2, none⟩ = some (.int .u64 (x.ver : Nat)) ∧ w1.cell? ⟨bV, 3, none⟩ = some (.int .i64 x.line) ∧ w1.cell? ⟨bV, 4, none⟩ = some (.int .i64 x.cl)) := fun w1 v L1 h => by
                  obtain ⟨_, A', c', e, _, hr, _⟩ := rowL_of_own h.row (by have := HQL.out i; omega)
                  injection e with e1 _ _
                  rw [← e1] at hr
                  rw [hqi] at hr
                  obtain ⟨b', o', e, _, h⟩ := hr.at_ (i := 0) (e := x) rfl
                  cases e
                  simpa using h
                have HAP : Hid (∀ w1 v, Mw w g w1 v (.slice (some ⟨bV, 0, none⟩) m cap) (Q (i + 1)) (Q i) → ∃ A2 m2 cap2 w2, (Builtin.append_ #[22, 22] 22 #[.slice none 0 0, .slice (some ⟨bV, 0, none⟩) (m - 1) (cap - 1)]).run Try.prog w1 = .ok (.slice A2 m2 cap2) w2 ∧ (Q (i + 1)).length = m2 ∧ Mw w g w2 v (.slice A2 m2 cap2) (Q (i + 1)) (Q (i + 1))) := fun w1 v h => by
                  obtain ⟨_, A', c', e, _, hr, _⟩ := rowL_of_own h.row (by have := HQL.out i; omega)
                  injection e with e1 _ _
                  rw [← e1] at hr
                  rw [hqi] at hr
                  have hr2 : RowL w1 (some ⟨bV, 0, none⟩) xt := (by obtain rfl : xt = [] := List.eq_nil_of_length_eq_zero (by have := h.cap; omega); exact rowL_nil _ _)
                  obtain ⟨u, w2, e1, e2, e3, e4⟩ := run_appL w1 g (.slice none 0 0) [] (World.ownsRow_nil _ _ _ _) (some ⟨bV, 0, none⟩) (m - 1) (cap - 1) xt (by omega) hr2 (fun e => by cases e) (by have h1 := HQL.out (i + 1); rw [hQ] at h1; simp; omega) h.fg.gw
                  rw [List.nil_append, ← hQ] at e2
                  have h2 := h.setM e2 (grown_none _ e3) (fun k hk => e4.elim (fun e => by rw [e] at hk; cases hk) (fun e => .inr (by rw [e] at hk; cases hk; omega)))
                  obtain ⟨_, A2, cap2, rfl, _⟩ := rowL_of_own e2 (by have := HQL.out (i + 1); omega)
                  exact ⟨A2, _, cap2, w2, e1, rfl, h2⟩
                have hmp : (0 : Int) < (m : Int) := by omega
                have hmp2 : decide ((0 : Int) < (m : Int)) = true := decide_eq_true hmp
                have hm1 : (1 : Int) ≤ (m : Int) := by omega
                have hmn : 1 ≤ m := by omega
                have hmc := HM.out.cap
                have hmci : (m : Int) ≤ (cap : Int) := by omega
                have hc1 : cap = 1 := hcap1
                clear hqi hQ hml
                generalize x.str = x0 at *
                generalize (x.id : Int) = x1 at *
                generalize (x.ver : Int) = x2 at *
                generalize x.line = x3 at *
                generalize x.cl = x4 at *
                have k0 : (x0.toList == x0.toList) = true := by simp
                have k1 : (x1 == x1) = true := by simp
                have k2 : (x2 == x2) = true := by simp
                have k3 : (x3 == x3) = true := by simp
                have k4 : (x4 == x4) = true := by simp
                go_wp2_with (first
                  | ((with_reducible show wpList _ _ _ (⟨some 8, .alloc _, _, _, _, _⟩ :: _) _ _); refine wpList_alloc_var (o := ⟨some 8, _, _, _, _, _⟩) rfl 29 rfl ga HGA.out _ HZ.out ?_; intro y1 Y1 Z1; have HMa := Lib.hid (HM.out.below (HGA.out.symm ▸ Z1.out)); have hpc1 := HPC.out y1 HMa.out.fg.bel; obtain ⟨d0, d1, d2, d3, d4⟩ := HRX.out _ _ _ HMa.out)
                  | ((with_reducible show wpList _ _ _ (⟨none, .store _ (.tmp 8) _, _, _, _, _⟩ :: _) _ _); refine wpList_store_whole (o := ⟨none, .store 29 (.tmp 8) (.tmp 42), _, _, _, _⟩) rfl _ _ _ rfl rfl ga #[.string x0, .int .u64 x1, .int .u64 x2, .int .i64 x3, .int .i64 x4] rfl rfl 29 _ Y1.out size_link rfl (onesL _ _ _ _ _) ?_; intro y2 Y2 Z2)
                  | fail)
                have HMb := Lib.hid (HM.out.below (HGA.out.symm ▸ (Z1.out.trans Z2.out)))
                refine (HHD2.out _ _ _ HMb.out).mono ?_
                rintro e y3 ⟨rfl, hb3⟩
                have HMc := Lib.hid (HMb.out.below hb3)
                have Y3 := Lib.hid ((hb3.block ga (lt_of_heap Y2.out)).trans Y2.out)
                obtain ⟨gb, hgb⟩ : ∃ gb, y3.heap.size = gb := ⟨_, rfl⟩
                have HGB := Lib.hid hgb
                have HLB : Hid (ga < gb) := hgb ▸ lt_of_heap Y3.out
                clear hb3 hgb
                go_wp2_with (first
                  | ((with_reducible show wpList _ _ _ (⟨some 9, .alloc _, _, _, _, _⟩ :: _) _ _); refine wpList_alloc_var (o := ⟨some 9, _, _, _, _, _⟩) rfl 29 rfl gb HGB.out _ HZ.out ?_; intro y4 Y4 Z4)
                  | ((with_reducible show wpList _ _ _ (⟨none, .store _ (.tmp 9) _, _, _, _, _⟩ :: _) _ _); refine wpList_store_whole (o := ⟨none, .store 29 (.tmp 9) (.tmp 46), _, _, _, _⟩) rfl _ _ _ rfl rfl gb #[.string x0, .int .u64 x1, .int .u64 x2, .int .i64 x3, .int .i64 x4] rfl rfl 29 _ Y4.out size_link rfl (onesL _ _ _ _ _) ?_; intro y5 Y5 Z5)
                  | fail)
                have HMd := Lib.hid (HMc.out.below (HGB.out.symm ▸ (Z4.out.trans Z5.out)))
                have Y35 := Lib.hid (((Z4.out.trans Z5.out).block ga HLB.out).trans Y3.out)
                have HNA : Hid (¬ fiOwn g v ga) := fun e => by have := HM.out.fg.lt e; have := HGA.out; omega
                have HNB : Hid (¬ fiOwn g v gb) := fun e => by have := HM.out.fg.lt e; have := HGA.out; have := HLB.out; omega
                refine (HPO2.out _ _ _ HMd.out).mono ?_
                rintro e y6 ⟨rfl, hb6⟩
                obtain ⟨⟨v2, hm6⟩, hst⟩ := HMd.out.setP hb6
                have HMe := Lib.hid hm6
                have Y6a := Lib.hid ((hst ga (lt_of_heap Y35.out) HNA.out).trans Y35.out)
                have Y6b := Lib.hid ((hst gb (lt_of_heap Y5.out) HNB.out).trans Y5.out)
                obtain ⟨gc, hgc⟩ : ∃ gc, y6.heap.size = gc := ⟨_, rfl⟩
                have HGC := Lib.hid hgc
                have HLA : Hid (ga < gc) := hgc ▸ lt_of_heap Y6a.out
                have HLC : Hid (gb < gc) := hgc ▸ lt_of_heap Y6b.out
                clear hb6 hm6 hst hgc
                go_wp2_with (first
                  | ((with_reducible show wpList _ _ _ (⟨some 11, .alloc _, _, _, _, _⟩ :: _) _ _); refine wpList_alloc_var (o := ⟨some 11, _, _, _, _, _⟩) rfl 29 rfl gc HGC.out _ HZ.out ?_; intro y7 Y7 Z7)
                  | ((with_reducible show wpList _ _ _ (⟨none, .store _ (.tmp 11) _, _, _, _, _⟩ :: _) _ _); refine wpList_store_whole (o := ⟨none, .store 29 (.tmp 11) (.tmp 51), _, _, _, _⟩) rfl _ _ _ rfl rfl gc #[.string x0, .int .u64 x1, .int .u64 x2, .int .i64 x3, .int .i64 x4] rfl rfl 29 _ Y7.out size_link rfl (onesL _ _ _ _ _) ?_; intro y8 Y8 Z8; have HMf := Lib.hid (HMe.out.below (HGC.out.symm ▸ (Z7.out.trans Z8.out))); have Y8a := Lib.hid (((Z7.out.trans Z8.out).block ga HLA.out).trans Y6a.out); have Y8b := Lib.hid (((Z7.out.trans Z8.out).block gb HLC.out).trans Y6b.out); obtain ⟨p0, p1, p2, p3, p4⟩ := cellsL Y8a.out; obtain ⟨q0, q1, q2, q3, q4⟩ := cellsL Y8b.out; obtain ⟨r0, r1, r2, r3, r4⟩ := cellsL Y8.out; obtain ⟨A2, m2, cap2, y9, e1, e2, e3⟩ := HAP.out _ _ HMf.out; have E1 := Lib.hid e1; have HM2 := Lib.hid e2; have HMg := Lib.hid e3; clear e1 e2 e3; have HLN2 := Lib.hid (HLN.out _ _ (i + 1) HMg.out.fg); rw [HM2.out] at HLN2; have hmm : ((m2 : Int) != (m2 : Int)) = false := (by simp))
                  | (at_builtin; refine wpList_app rfl (.const (.slice none 0 0)) (.tmp 77) 22 rfl rfl rfl E1.out ?_)
                  | fail)
                refine HLN2.out.mono ?_
                rintro e w' ⟨rfl, rfl⟩
                have HAL2 := Lib.hid (HAL.out _ _ (i + 1) HMg.out.fg)
                unfold AllN at HAL2
                rw [HM2.out] at HAL2
                go_wp2_with fail
                refine HAL2.out.mono ?_
                rintro e u1 ⟨gq, rfl, ho, hb⟩
                have HMu := Lib.hid (HMg.out.below hb)
                have HSA := Lib.hid (HSAME.out u1 gq m2 A2 cap2 _ _ (Q (i + 1)) HM2.out (by have := HQL.out (i + 1); have := HM2.out; omega) ho HMu.out.row)
                have HB1 := Lib.hid hb
                have HOV := Lib.hid (fun k => HOVER.out (u1.drewN k) _ m2 (.slice (some ⟨gq, 0, none⟩) m2 m2) (Q (i + 1)) HM2.out (by have := HQL.out (i + 1); have := HM2.out; omega) (own_keep ho (below_drewN (Below.refl _ _) k)) hb.size)
                clear ho hb
                go_wp2_with fail
                refine HSA.out.mono ?_
                rintro e u2 ⟨rfl, k, rfl⟩
                go_wp2_with fail
                refine (HOV.out k).mono ?_
                rintro e u3 ⟨rfl, hb⟩
                have HMv : Hid (Mw w g u3 v2 (.slice A2 m2 cap2) (Q (i + 1)) (Q (i + 1))) := HMg.out.below (HB1.out.trans ((below_drewN (Below.refl _ _) k).trans hb))
                clear hb
                go_wp2
                go_roundg gk
                case measure => omega
                case rel => exact ⟨i + 1, v2, A2, m2, cap2, _, _, _, _, _, _, by omega, by go_num, rfl, rfl, rfl, rfl, rfl, rfl, rfl, HM2, HMv⟩
              · skip
                have hQ : Q (i + 1) = xt := by rw [HQT.out i hpo, hqi]; rfl
                have hml : m = xt.length + 1 := by have := HMM.out; rw [hqi] at this; exact this.symm
                obtain ⟨bV, hA0⟩ : ∃ bV, A = some ⟨bV, 0, none⟩ := by
                  have h0 := HM.out.row.2
                  rcases h0 with ⟨e, _⟩ | ⟨b, c, cur, e, _⟩
                  · cases e
                    omega
                  · cases e
                    exact ⟨b, rfl⟩
                subst hA0
                have HHD2 : Hid (∀ w1 v V, Mw w g w1 v V (Q i) (Q i) → Calls Try.prog 8 #[.pointer (some ⟨g, 0, none⟩)] w1 fun y w' => y = .returned (.tuple #[.agg #[.string x.str, .int .u64 (x.id : Nat), .int .u64 (x.ver : Nat), .int .i64 x.line, .int .i64 x.cl], .bool true]) ∧ Below w1.heap.size w1 w') := fun w1 v V h => by
                  obtain ⟨f, P, h1⟩ := h.fg.fi
                  rw [hqi] at h1
                  exact fihead_below h1
                have HPO2 : Hid (∀ w1 v V, Mw w g w1 v V (Q i) (Q i) → Calls Try.prog 9 #[.pointer (some ⟨g, 0, none⟩)] w1 fun y w' => y = .returned (.tuple #[.agg #[.string x.str, .int .u64 (x.id : Nat), .int .u64 (x.ver : Nat), .int .i64 x.line, .int .i64 x.cl], .bool true]) ∧ FiTo w1 g v (Q (i + 1)) w') := fun w1 v V h => by
                  obtain ⟨f, P, h1⟩ := h.fg.fi
                  rw [hqi] at h1
                  rw [hQ]
                  exact fipop_any h1
                have HRX : Hid (∀ w1 v L1, Mw w g w1 v (.slice (some ⟨bV, 0, none⟩) m cap) L1 (Q i) → w1.cell? ⟨bV, 0, none⟩ = some (.string x.str) ∧ w1.cell? ⟨bV, 1, none⟩ = some (.int .u64 (x.id : Nat)) ∧ w1.cell? ⟨bV, 2, none⟩ = some (.int .u64 (x.ver : Nat)) ∧ w1.cell? ⟨bV, 3, none⟩ = some (.int .i64 x.line) ∧ w1.cell? ⟨bV, 4, none⟩ = some (.int .i64 x.cl)) := fun w1 v L1 h => by
                  obtain ⟨_, A', c', e, _, hr, _⟩ := rowL_of_own h.row (by have := HQL.out i; omega)
                  injection e with e1 _ _
                  rw [← e1] at hr
                  rw [hqi] at hr
                  obtain ⟨b', o', e, _, h⟩ := hr.at_ (i := 0) (e := x) rfl
                  cases e
                  simpa using h
                have HAP : Hid (∀ w1 v, Mw w g w1 v (.slice (some ⟨bV, 0, none⟩) m cap) (Q (i + 1)) (Q i) → ∃ A2 m2 cap2 w2, (Builtin.append_ #[22, 22] 22 #[.slice none 0 0, .slice (some ⟨bV, 5, none⟩) (m - 1) (cap - 1)]).run Try.prog w1 = .ok (.slice A2 m2 cap2) w2 ∧ (Q (i + 1)).length = m2 ∧ Mw w g w2 v (.slice A2 m2 cap2) (Q (i + 1)) (Q (i + 1))) := fun w1 v h => by
                  obtain ⟨_, A', c', e, _, hr, _⟩ := rowL_of_own h.row (by have := HQL.out i; omega)
                  injection e with e1 _ _
                  rw [← e1] at hr
                  rw [hqi] at hr
                  have hr2 : RowL w1 (some ⟨bV, 5, none⟩) xt := by simpa using hr.drop 1
                  obtain ⟨u, w2, e1, e2, e3, e4⟩ := run_appL w1 g (.slice none 0 0) [] (World.ownsRow_nil _ _ _ _) (some ⟨bV, 5, none⟩) (m - 1) (cap - 1) xt (by omega) hr2 (fun e => by cases e) (by have h1 := HQL.out (i + 1); rw [hQ] at h1; simp; omega) h.fg.gw
                  rw [List.nil_append, ← hQ] at e2
                  have h2 := h.setM e2 (grown_none _ e3) (fun k hk => e4.elim (fun e => by rw [e] at hk; cases hk) (fun e => .inr (by rw [e] at hk; cases hk; omega)))
                  obtain ⟨_, A2, cap2, rfl, _⟩ := rowL_of_own e2 (by have := HQL.out (i + 1); omega)
                  exact ⟨A2, _, cap2, w2, e1, rfl, h2⟩
                have hmp : (0 : Int) < (m : Int) := by omega
                have hmp2 : decide ((0 : Int) < (m : Int)) = true := decide_eq_true hmp
                have hm1 : (1 : Int) ≤ (m : Int) := by omega
                have hmn : 1 ≤ m := by omega
                have hmc := HM.out.cap
                have hmci : (m : Int) ≤ (cap : Int) := by omega
                have hc1 : ¬ cap = 1 := hcap1
                clear hqi hQ hml
                generalize x.str = x0 at *
                generalize (x.id : Int) = x1 at *
                generalize (x.ver : Int) = x2 at *
                generalize x.line = x3 at *
                generalize x.cl = x4 at *
                have k0 : (x0.toList == x0.toList) = true := by simp
                have k1 : (x1 == x1) = true := by simp
                have k2 : (x2 == x2) = true := by simp
                have k3 : (x3 == x3) = true := by simp
                have k4 : (x4 == x4) = true := by simp
                go_wp2_with (first
                  | ((with_reducible show wpList _ _ _ (⟨some 8, .alloc _, _, _, _, _⟩ :: _) _ _); refine wpList_alloc_var (o := ⟨some 8, _, _, _, _, _⟩) rfl 29 rfl ga HGA.out _ HZ.out ?_; intro y1 Y1 Z1; have HMa := Lib.hid (HM.out.below (HGA.out.symm ▸ Z1.out)); have hpc1 := HPC.out y1 HMa.out.fg.bel; obtain ⟨d0, d1, d2, d3, d4⟩ := HRX.out _ _ _ HMa.out)
                  | ((with_reducible show wpList _ _ _ (⟨none, .store _ (.tmp 8) _, _, _, _, _⟩ :: _) _ _); refine wpList_store_whole (o := ⟨none, .store 29 (.tmp 8) (.tmp 42), _, _, _, _⟩) rfl _ _ _ rfl rfl ga #[.string x0, .int .u64 x1, .int .u64 x2, .int .i64 x3, .int .i64 x4] rfl rfl 29 _ Y1.out size_link rfl (onesL _ _ _ _ _) ?_; intro y2 Y2 Z2)
                  | fail)
                have HMb := Lib.hid (HM.out.below (HGA.out.symm ▸ (Z1.out.trans Z2.out)))
                refine (HHD2.out _ _ _ HMb.out).mono ?_
                rintro e y3 ⟨rfl, hb3⟩
                have HMc := Lib.hid (HMb.out.below hb3)
                have Y3 := Lib.hid ((hb3.block ga (lt_of_heap Y2.out)).trans Y2.out)
                obtain ⟨gb, hgb⟩ : ∃ gb, y3.heap.size = gb := ⟨_, rfl⟩
                have HGB := Lib.hid hgb
                have HLB : Hid (ga < gb) := hgb ▸ lt_of_heap Y3.out
                clear hb3 hgb
                go_wp2_with (first
                  | ((with_reducible show wpList _ _ _ (⟨some 9, .alloc _, _, _, _, _⟩ :: _) _ _); refine wpList_alloc_var (o := ⟨some 9, _, _, _, _, _⟩) rfl 29 rfl gb HGB.out _ HZ.out ?_; intro y4 Y4 Z4)
                  | ((with_reducible show wpList _ _ _ (⟨none, .store _ (.tmp 9) _, _, _, _, _⟩ :: _) _ _); refine wpList_store_whole (o := ⟨none, .store 29 (.tmp 9) (.tmp 46), _, _, _, _⟩) rfl _ _ _ rfl rfl gb #[.string x0, .int .u64 x1, .int .u64 x2, .int .i64 x3, .int .i64 x4] rfl rfl 29 _ Y4.out size_link rfl (onesL _ _ _ _ _) ?_; intro y5 Y5 Z5)
                  | fail)
                have HMd := Lib.hid (HMc.out.below (HGB.out.symm ▸ (Z4.out.trans Z5.out)))
                have Y35 := Lib.hid (((Z4.out.trans Z5.out).block ga HLB.out).trans Y3.out)
                have HNA : Hid (¬ fiOwn g v ga) := fun e => by have := HM.out.fg.lt e; have := HGA.out; omega
                have HNB : Hid (¬ fiOwn g v gb) := fun e => by have := HM.out.fg.lt e; have := HGA.out; have := HLB.out; omega
                refine (HPO2.out _ _ _ HMd.out).mono ?_
                rintro e y6 ⟨rfl, hb6⟩
                obtain ⟨⟨v2, hm6⟩, hst⟩ := HMd.out.setP hb6
                have HMe := Lib.hid hm6
                have Y6a := Lib.hid ((hst ga (lt_of_heap Y35.out) HNA.out).trans Y35.out)
                have Y6b := Lib.hid ((hst gb (lt_of_heap Y5.out) HNB.out).trans Y5.out)
                obtain ⟨gc, hgc⟩ : ∃ gc, y6.heap.size = gc := ⟨_, rfl⟩
                have HGC := Lib.hid hgc
                have HLA : Hid (ga < gc) := hgc ▸ lt_of_heap Y6a.out
                have HLC : Hid (gb < gc) := hgc ▸ lt_of_heap Y6b.out
                clear hb6 hm6 hst hgc
                go_wp2_with (first
                  | ((with_reducible show wpList _ _ _ (⟨some 11, .alloc _, _, _, _, _⟩ :: _) _ _); refine wpList_alloc_var (o := ⟨some 11, _, _, _, _, _⟩) rfl 29 rfl gc HGC.out _ HZ.out ?_; intro y7 Y7 Z7)
                  | ((with_reducible show wpList _ _ _ (⟨none, .store _ (.tmp 11) _, _, _, _, _⟩ :: _) _ _); refine wpList_store_whole (o := ⟨none, .store 29 (.tmp 11) (.tmp 51), _, _, _, _⟩) rfl _ _ _ rfl rfl gc #[.string x0, .int .u64 x1, .int .u64 x2, .int .i64 x3, .int .i64 x4] rfl rfl 29 _ Y7.out size_link rfl (onesL _ _ _ _ _) ?_; intro y8 Y8 Z8; have HMf := Lib.hid (HMe.out.below (HGC.out.symm ▸ (Z7.out.trans Z8.out))); have Y8a := Lib.hid (((Z7.out.trans Z8.out).block ga HLA.out).trans Y6a.out); have Y8b := Lib.hid (((Z7.out.trans Z8.out).block gb HLC.out).trans Y6b.out); obtain ⟨p0, p1, p2, p3, p4⟩ := cellsL Y8a.out; obtain ⟨q0, q1, q2, q3, q4⟩ := cellsL Y8b.out; obtain ⟨r0, r1, r2, r3, r4⟩ := cellsL Y8.out; obtain ⟨A2, m2, cap2, y9, e1, e2, e3⟩ := HAP.out _ _ HMf.out; have E1 := Lib.hid e1; have HM2 := Lib.hid e2; have HMg := Lib.hid e3; clear e1 e2 e3; have HLN2 := Lib.hid (HLN.out _ _ (i + 1) HMg.out.fg); rw [HM2.out] at HLN2; have hmm : ((m2 : Int) != (m2 : Int)) = false := (by simp))
                  | (at_builtin; refine wpList_app rfl (.const (.slice none 0 0)) (.tmp 77) 22 rfl rfl rfl E1.out ?_)
                  | fail)
                refine HLN2.out.mono ?_
                rintro e w' ⟨rfl, rfl⟩
                have HAL2 := Lib.hid (HAL.out _ _ (i + 1) HMg.out.fg)
                unfold AllN at HAL2
                rw [HM2.out] at HAL2
                go_wp2_with fail
                refine HAL2.out.mono ?_
                rintro e u1 ⟨gq, rfl, ho, hb⟩
                have HMu := Lib.hid (HMg.out.below hb)
                have HSA := Lib.hid (HSAME.out u1 gq m2 A2 cap2 _ _ (Q (i + 1)) HM2.out (by have := HQL.out (i + 1); have := HM2.out; omega) ho HMu.out.row)
                have HB1 := Lib.hid hb
                have HOV := Lib.hid (fun k => HOVER.out (u1.drewN k) _ m2 (.slice (some ⟨gq, 0, none⟩) m2 m2) (Q (i + 1)) HM2.out (by have := HQL.out (i + 1); have := HM2.out; omega) (own_keep ho (below_drewN (Below.refl _ _) k)) hb.size)
                clear ho hb
                go_wp2_with fail
                refine HSA.out.mono ?_
                rintro e u2 ⟨rfl, k, rfl⟩
                go_wp2_with fail
                refine (HOV.out k).mono ?_
                rintro e u3 ⟨rfl, hb⟩
                have HMv : Hid (Mw w g u3 v2 (.slice A2 m2 cap2) (Q (i + 1)) (Q (i + 1))) := HMg.out.below (HB1.out.trans ((below_drewN (Below.refl _ _) k).trans hb))
                clear hb
                go_wp2
                go_roundg gk
                case measure => omega
                case rel => exact ⟨i + 1, v2, A2, m2, cap2, _, _, _, _, _, _, by omega, by go_num, rfl, rfl, rfl, rfl, rfl, rfl, rfl, HM2, HMv⟩
        · have hil1i : ¬ (i : Int) < (len1 : Int) := by omega
          have hpo : p.getD i false = false := by rw [HPL.out i (by omega)]
          have hQ : Q (i + 1) = Q i ++ [z0[i]] := by rw [HQP.out i hpo, hzd]
          have hrx := (HROW.out wr HM.out.fg.bel).at_ hzi
          obtain ⟨bL, oL, ha0, -, -⟩ := hrx
          subst ha0
          generalize z0[i] = x at *
          have HRX : Hid (∀ w1, Below g w w1 → w1.cell? ⟨bL, oL + i * 5, none⟩ = some (.string x.str) ∧ w1.cell? ⟨bL, oL + i * 5 + 1, none⟩ = some (.int .u64 (x.id : Nat)) ∧ w1.cell? ⟨bL, oL + i * 5 + 2, none⟩ = some (.int .u64 (x.ver : Nat)) ∧ w1.cell? ⟨bL, oL + i * 5 + 3, none⟩ = some (.int .i64 x.line) ∧ w1.cell? ⟨bL, oL + i * 5 + 4, none⟩ = some (.int .i64 x.cl)) := fun w1 hb => by
            obtain ⟨b', o', e, _, h⟩ := (HROW.out w1 hb).at_ hzi
            cases e
            exact h
          have HPU2 : Hid (∀ w1 v, Mw w g w1 v (.slice A m cap) (Q i) (Q i) → Calls Try.prog 10 #[.pointer (some ⟨g, 0, none⟩), .agg #[.string x.str, .int .u64 (x.id : Nat), .int .u64 (x.ver : Nat), .int .i64 x.line, .int .i64 x.cl]] w1 fun y w' => y = .returned (.tuple #[]) ∧ FiTo w1 g v (Q (i + 1)) w') := fun w1 v h => by
            obtain ⟨f, P, h1⟩ := h.fg.fi
            have := fipush_any h1 (by have := HQL.out i; omega) x
            rwa [← hQ] at this
          have HAP : Hid (∀ w1 v, Mw w g w1 v (.slice A m cap) (Q (i + 1)) (Q i) → ∃ A2 m2 cap2 w2, (Builtin.append_ #[22, 22] 22 #[.slice A m cap, .slice (some ⟨w1.heap.size, 0, none⟩) 1 1]).run Try.prog (w1.alloc (.cells #[.string x.str, .int .u64 (x.id : Nat), .int .u64 (x.ver : Nat), .int .i64 x.line, .int .i64 x.cl] 29)) = .ok (.slice A2 m2 cap2) w2 ∧ (Q (i + 1)).length = m2 ∧ Mw w g w2 v (.slice A2 m2 cap2) (Q (i + 1)) (Q (i + 1))) := fun w1 v h => by
            obtain ⟨u, w2, e1, e2, e3, e4⟩ := run_appL_one w1 g (.slice A m cap) (Q i) x h.row (by have := HQL.out i; omega) h.fg.gw
            rw [← hQ] at e2
            have h2 := h.setM e2 e3 (fun k hk => e4.elim (fun e => .inl (e ▸ hk)) (fun e => .inr (by rw [e] at hk; cases hk; omega)))
            obtain ⟨_, A2, cap2, rfl, _⟩ := rowL_of_own e2 (by have := HQL.out (i + 1); omega)
            exact ⟨A2, _, cap2, w2, e1, rfl, h2⟩
          clear hQ hzd
          generalize x.str = x0 at *
          generalize (x.id : Int) = x1 at *
          generalize (x.ver : Int) = x2 at *
          generalize x.line = x3 at *
          generalize x.cl = x4 at *
          obtain ⟨d0, d1, d2, d3, d4⟩ := HRX.out wr HM.out.fg.bel
          go_wp2_with (first
            | ((with_reducible show wpList _ _ _ (⟨some 8, .alloc _, _, _, _, _⟩ :: _) _ _); refine wpList_alloc_var (o := ⟨some 8, _, _, _, _, _⟩) rfl 29 rfl ga HGA.out _ HZ.out ?_; intro y1 Y1 Z1; have HMa := Lib.hid (HM.out.below (HGA.out.symm ▸ Z1.out)); obtain ⟨d0, d1, d2, d3, d4⟩ := HRX.out y1 HMa.out.fg.bel)
            | fail)
          refine (HPU2.out _ _ HMa.out).mono ?_
          rintro e y2 ⟨rfl, hb⟩
          obtain ⟨⟨v2, hm2⟩, -⟩ := HMa.out.setP hb
          have HMb := Lib.hid hm2
          obtain ⟨d0, d1, d2, d3, d4⟩ := HRX.out y2 HMb.out.fg.bel
          obtain ⟨A2, m2, cap2, y3, e1, e2, e3⟩ := HAP.out _ _ HMb.out
          have E1 := Lib.hid e1
          have HM2 := Lib.hid e2
          have HMc := Lib.hid e3
          clear hb hm2 e1 e2 e3
          have HLN2 := Lib.hid (HLN.out _ _ (i + 1) HMc.out.fg)
          rw [HM2.out] at HLN2
          have hmm : ((m2 : Int) != (m2 : Int)) = false := by simp
          go_wp2_with (first
            | (at_builtin; refine wpList_app rfl (.tmp 85) (.tmp 90) 22 rfl rfl rfl E1.out ?_)
            | fail)
          refine HLN2.out.mono ?_
          rintro e w' ⟨rfl, rfl⟩
          have HAL2 := Lib.hid (HAL.out _ _ (i + 1) HMc.out.fg)
          unfold AllN at HAL2
          rw [HM2.out] at HAL2
          go_wp2_with fail
          refine HAL2.out.mono ?_
          rintro e u1 ⟨gq, rfl, ho, hb⟩
          have HMu := Lib.hid (HMc.out.below hb)
          have HSA := Lib.hid (HSAME.out u1 gq m2 A2 cap2 _ _ (Q (i + 1)) HM2.out (by have := HQL.out (i + 1); have := HM2.out; omega) ho HMu.out.row)
          have HB1 := Lib.hid hb
          have HOV := Lib.hid (fun k => HOVER.out (u1.drewN k) _ m2 (.slice (some ⟨gq, 0, none⟩) m2 m2) (Q (i + 1)) HM2.out (by have := HQL.out (i + 1); have := HM2.out; omega) (own_keep ho (below_drewN (Below.refl _ _) k)) hb.size)
          clear ho hb
          go_wp2_with fail
          refine HSA.out.mono ?_
          rintro e u2 ⟨rfl, k, rfl⟩
          go_wp2_with fail
          refine (HOV.out k).mono ?_
          rintro e u3 ⟨rfl, hb⟩
          have HMv : Hid (Mw w g u3 v2 (.slice A2 m2 cap2) (Q (i + 1)) (Q (i + 1))) := HMc.out.below (HB1.out.trans ((below_drewN (Below.refl _ _) k).trans hb))
          clear hb
          go_wp2
          go_roundg gk
          case measure => omega
          case rel => exact ⟨i + 1, v2, A2, m2, cap2, _, _, _, _, _, _, by omega, by go_num, rfl, rfl, rfl, rfl, rfl, rfl, rfl, HM2, HMv⟩
      | false =>
        by_cases hil1 : i < len1
        · have hil1i : (i : Int) < (len1 : Int) := by omega
          obtain ⟨bP, oP, pv, ha1, hpc, hpo⟩ := HBL.out i hil1
          subst ha1
          cases pv with
          | false =>
            have HPC := Lib.hid hpc
            clear hpc
            have hQ : Q (i + 1) = Q i ++ [z0[i]] := by rw [HQP.out i hpo, hzd]
            have hrx := (HROW.out wr HM.out.fg.bel).at_ hzi
            obtain ⟨bL, oL, ha0, -, -⟩ := hrx
            subst ha0
            generalize z0[i] = x at *
            have HRX : Hid (∀ w1, Below g w w1 → w1.cell? ⟨bL, oL + i * 5, none⟩ = some (.string x.str) ∧ w1.cell? ⟨bL, oL + i * 5 + 1, none⟩ = some (.int .u64 (x.id : Nat)) ∧ w1.cell? ⟨bL, oL + i * 5 + 2, none⟩ = some (.int .u64 (x.ver : Nat)) ∧ w1.cell? ⟨bL, oL + i * 5 + 3, none⟩ = some (.int .i64 x.line) ∧ w1.cell? ⟨bL, oL + i * 5 + 4, none⟩ = some (.int .i64 x.cl)) := fun w1 hb => by
              obtain ⟨b', o', e, _, h⟩ := (HROW.out w1 hb).at_ hzi
              cases e
              exact h
            have HPU2 : Hid (∀ w1 v, Mw w g w1 v (.slice A m cap) (Q i) (Q i) → Calls Try.prog 10 #[.pointer (some ⟨g, 0, none⟩), .agg #[.string x.str, .int .u64 (x.id : Nat), .int .u64 (x.ver : Nat), .int .i64 x.line, .int .i64 x.cl]] w1 fun y w' => y = .returned (.tuple #[]) ∧ FiTo w1 g v (Q (i + 1)) w') := fun w1 v h => by
              obtain ⟨f, P, h1⟩ := h.fg.fi
              have := fipush_any h1 (by have := HQL.out i; omega) x
              rwa [← hQ] at this
            have HAP : Hid (∀ w1 v, Mw w g w1 v (.slice A m cap) (Q (i + 1)) (Q i) → ∃ A2 m2 cap2 w2, (Builtin.append_ #[22, 22] 22 #[.slice A m cap, .slice (some ⟨w1.heap.size, 0, none⟩) 1 1]).run Try.prog (w1.alloc (.cells #[.string x.str, .int .u64 (x.id : Nat), .int .u64 (x.ver : Nat), .int .i64 x.line, .int .i64 x.cl] 29)) = .ok (.slice A2 m2 cap2) w2 ∧ (Q (i + 1)).length = m2 ∧ Mw w g w2 v (.slice A2 m2 cap2) (Q (i + 1)) (Q (i + 1))) := fun w1 v h => by
              obtain ⟨u, w2, e1, e2, e3, e4⟩ := run_appL_one w1 g (.slice A m cap) (Q i) x h.row (by have := HQL.out i; omega) h.fg.gw
              rw [← hQ] at e2
              have h2 := h.setM e2 e3 (fun k hk => e4.elim (fun e => .inl (e ▸ hk)) (fun e => .inr (by rw [e] at hk; cases hk; omega)))
              obtain ⟨_, A2, cap2, rfl, _⟩ := rowL_of_own e2 (by have := HQL.out (i + 1); omega)
              exact ⟨A2, _, cap2, w2, e1, rfl, h2⟩
            clear hQ hzd
            generalize x.str = x0 at *
            generalize (x.id : Int) = x1 at *
            generalize (x.ver : Int) = x2 at *
            generalize x.line = x3 at *
            generalize x.cl = x4 at *
            obtain ⟨d0, d1, d2, d3, d4⟩ := HRX.out wr HM.out.fg.bel
            go_wp2_with (first
              | ((with_reducible show wpList _ _ _ (⟨some 8, .alloc _, _, _, _, _⟩ :: _) _ _); refine wpList_alloc_var (o := ⟨some 8, _, _, _, _, _⟩) rfl 29 rfl ga HGA.out _ HZ.out ?_; intro y1 Y1 Z1; have HMa := Lib.hid (HM.out.below (HGA.out.symm ▸ Z1.out)); obtain ⟨d0, d1, d2, d3, d4⟩ := HRX.out y1 HMa.out.fg.bel; have hpc1 := HPC.out y1 HMa.out.fg.bel)
              | fail)
            refine (HPU2.out _ _ HMa.out).mono ?_
            rintro e y2 ⟨rfl, hb⟩
            obtain ⟨⟨v2, hm2⟩, -⟩ := HMa.out.setP hb
            have HMb := Lib.hid hm2
            obtain ⟨d0, d1, d2, d3, d4⟩ := HRX.out y2 HMb.out.fg.bel
            obtain ⟨A2, m2, cap2, y3, e1, e2, e3⟩ := HAP.out _ _ HMb.out
            have E1 := Lib.hid e1
            have HM2 := Lib.hid e2
            have HMc := Lib.hid e3
            clear hb hm2 e1 e2 e3
            have HLN2 := Lib.hid (HLN.out _ _ (i + 1) HMc.out.fg)
            rw [HM2.out] at HLN2
            have hmm : ((m2 : Int) != (m2 : Int)) = false := by simp
            go_wp2_with (first
              | (at_builtin; refine wpList_app rfl (.tmp 85) (.tmp 90) 22 rfl rfl rfl E1.out ?_)
              | fail)
            refine HLN2.out.mono ?_
            rintro e w' ⟨rfl, rfl⟩
            go_wp2
            go_roundg gk
            case measure => omega
            case rel => exact ⟨i + 1, v2, A2, m2, cap2, _, _, _, _, _, _, by omega, by go_num, rfl, rfl, rfl, rfl, rfl, rfl, rfl, HM2, HMc⟩
          | true =>
            have HPC := Lib.hid hpc
            clear hpc
            cases hqi : Q i with
            | nil =>
              obtain rfl : m = 0 := by have := HMM.out; rw [hqi] at this; exact this.symm
              have hQ : Q (i + 1) = [] := by rw [HQT.out i hpo, hqi]; rfl
              have hQi := hqi
              have HHD2 : Hid (∀ w1 v V, Mw w g w1 v V (Q i) (Q i) → Calls Try.prog 8 #[.pointer (some ⟨g, 0, none⟩)] w1 fun y w' => y = .returned (.tuple #[.agg #[.string ⟨#[]⟩, .int .u64 0, .int .u64 0, .int .i64 0, .int .i64 0], .bool false]) ∧ Below w1.heap.size w1 w') := fun w1 v V h => by
                obtain ⟨f, P, h1⟩ := h.fg.fi
                rw [hQi] at h1
                exact fihead_below h1
              have HPO2 : Hid (∀ w1 v V, Mw w g w1 v V (Q i) (Q i) → Calls Try.prog 9 #[.pointer (some ⟨g, 0, none⟩)] w1 fun y w' => y = .returned (.tuple #[.agg #[.string ⟨#[]⟩, .int .u64 0, .int .u64 0, .int .i64 0, .int .i64 0], .bool false]) ∧ FiTo w1 g v (Q (i + 1)) w') := fun w1 v V h => by
                obtain ⟨f, P, h1⟩ := h.fg.fi
                rw [hQi] at h1
                rw [hQ]
                exact fipop_any h1
              have HQQ : Hid (Q i = Q (i + 1)) := hQi.trans hQ.symm
              have HM2 : Hid ((Q (i + 1)).length = 0) := by show _ = _; rw [hQ]; rfl
              clear hQ hQi hqi
              go_wp2_with (first
                | ((with_reducible show wpList _ _ _ (⟨some 8, .alloc _, _, _, _, _⟩ :: _) _ _); refine wpList_alloc_var (o := ⟨some 8, _, _, _, _, _⟩) rfl 29 rfl ga HGA.out _ HZ.out ?_; intro y1 Y1 Z1; have HMa := Lib.hid (HM.out.below (HGA.out.symm ▸ Z1.out)); have hpc1 := HPC.out y1 HMa.out.fg.bel)
                | fail)
              have HMb := HMa
              refine (HHD2.out _ _ _ HMb.out).mono ?_
              rintro e y3 ⟨rfl, hb3⟩
              have HMc := Lib.hid (HMb.out.below hb3)
              have Y3 := Lib.hid ((hb3.block ga (lt_of_heap Y1.out)).trans Y1.out)
              obtain ⟨gb, hgb⟩ : ∃ gb, y3.heap.size = gb := ⟨_, rfl⟩
              have HGB := Lib.hid hgb
              have HLB : Hid (ga < gb) := hgb ▸ lt_of_heap Y3.out
              clear hb3 hgb
              go_wp2_with (first
                | ((with_reducible show wpList _ _ _ (⟨some 9, .alloc _, _, _, _, _⟩ :: _) _ _); refine wpList_alloc_var (o := ⟨some 9, _, _, _, _, _⟩) rfl 29 rfl gb HGB.out _ HZ.out ?_; intro y4 Y4 Z4)
                | ((with_reducible show wpList _ _ _ (⟨none, .store _ (.tmp 9) _, _, _, _, _⟩ :: _) _ _); refine wpList_store_whole (o := ⟨none, .store 29 (.tmp 9) (.tmp 46), _, _, _, _⟩) rfl _ _ _ rfl rfl gb #[.string ⟨#[]⟩, .int .u64 0, .int .u64 0, .int .i64 0, .int .i64 0] rfl rfl 29 _ Y4.out size_link rfl (onesL _ _ _ _ _) ?_; intro y5 Y5 Z5)
                | fail)
              have HMd := Lib.hid (HMc.out.below (HGB.out.symm ▸ (Z4.out.trans Z5.out)))
              have Y35 := Lib.hid (((Z4.out.trans Z5.out).block ga HLB.out).trans Y3.out)
              have HNA : Hid (¬ fiOwn g v ga) := fun e => by have := HM.out.fg.lt e; have := HGA.out; omega
              have HNB : Hid (¬ fiOwn g v gb) := fun e => by have := HM.out.fg.lt e; have := HGA.out; have := HLB.out; omega
              refine (HPO2.out _ _ _ HMd.out).mono ?_
              rintro e y6 ⟨rfl, hb6⟩
              obtain ⟨⟨v2, hm6⟩, hst⟩ := HMd.out.setP hb6
              have HMe := Lib.hid hm6
              have Y6a := Lib.hid ((hst ga (lt_of_heap Y35.out) HNA.out).trans Y35.out)
              have Y6b := Lib.hid ((hst gb (lt_of_heap Y5.out) HNB.out).trans Y5.out)
              obtain ⟨gc, hgc⟩ : ∃ gc, y6.heap.size = gc := ⟨_, rfl⟩
              have HGC := Lib.hid hgc
              have HLA : Hid (ga < gc) := hgc ▸ lt_of_heap Y6a.out
              have HLC : Hid (gb < gc) := hgc ▸ lt_of_heap Y6b.out
              clear hb6 hm6 hst hgc
              go_wp2_with (first
                | ((with_reducible show wpList _ _ _ (⟨some 11, .alloc _, _, _, _, _⟩ :: _) _ _); refine wpList_alloc_var (o := ⟨some 11, _, _, _, _, _⟩) rfl 29 rfl gc HGC.out _ HZ.out ?_; intro y7 Y7 Z7)
                | ((with_reducible show wpList _ _ _ (⟨none, .store _ (.tmp 11) _, _, _, _, _⟩ :: _) _ _); refine wpList_store_whole (o := ⟨none, .store 29 (.tmp 11) (.tmp 51), _, _, _, _⟩) rfl _ _ _ rfl rfl gc #[.string ⟨#[]⟩, .int .u64 0, .int .u64 0, .int .i64 0, .int .i64 0] rfl rfl 29 _ Y7.out size_link rfl (onesL _ _ _ _ _) ?_; intro y8 Y8 Z8; have HMf := Lib.hid (HMe.out.below (HGC.out.symm ▸ (Z7.out.trans Z8.out))); have Y8a := Lib.hid (((Z7.out.trans Z8.out).block ga HLA.out).trans Y6a.out); have Y8b := Lib.hid (((Z7.out.trans Z8.out).block gb HLC.out).trans Y6b.out); obtain ⟨p0, p1, p2, p3, p4⟩ := cellsL Y8a.out; obtain ⟨q0, q1, q2, q3, q4⟩ := cellsL Y8b.out; obtain ⟨r0, r1, r2, r3, r4⟩ := cellsL Y8.out; have HMg : Hid (Mw w g y8 v2 (.slice A 0 cap) (Q (i + 1)) (Q (i + 1))) := (by have h := HMf.out; rw [HQQ.out] at h; exact h); have HLN2 := Lib.hid (HLN.out _ _ (i + 1) HMg.out.fg); rw [HM2.out] at HLN2)
                | fail)
              refine HLN2.out.mono ?_
              rintro e w' ⟨rfl, rfl⟩
              go_wp2
              go_roundg gk
              case measure => omega
              case rel => exact ⟨i + 1, v2, A, 0, cap, _, _, _, _, _, _, by omega, by go_num, rfl, rfl, rfl, rfl, rfl, rfl, rfl, HM2, HMg⟩
            | cons x xt =>
              by_cases hcap1 : cap = 1
              · skip
                have hQ : Q (i + 1) = xt := by rw [HQT.out i hpo, hqi]; rfl
                have hml : m = xt.length + 1 := by have := HMM.out; rw [hqi] at this; exact this.symm
                obtain ⟨bV, hA0⟩ : ∃ bV, A = some ⟨bV, 0, none⟩ := by
                  have h0 := HM.out.row.2
                  rcases h0 with ⟨e, _⟩ | ⟨b, c, cur, e, _⟩
                  · cases e
                    omega
                  · cases e
                    exact ⟨b, rfl⟩
                subst hA0
                have HHD2 : Hid (∀ w1 v V, Mw w g w1 v V (Q i) (Q i) → Calls Try.prog 8 #[.pointer (some ⟨g, 0, none⟩)] w1 fun y w' => y = .returned (.tuple #[.agg #[.string x.str, .int .u64 (x.id : Nat), .int .u64 (x.ver : Nat), .int .i64 x.line, .int .i64 x.cl], .bool true]) ∧ Below w1.heap.size w1 w') := fun w1 v V h => by
                  obtain ⟨f, P, h1⟩ := h.fg.fi
                  rw [hqi] at h1
                  exact fihead_below h1
                have HPO2 : Hid (∀ w1 v V, Mw w g w1 v V (Q i) (Q i) → Calls Try.prog 9 #[.pointer (some ⟨g, 0, none⟩)] w1 fun y w' => y = .returned (.tuple #[.agg #[.string x.str, .int .u64 (x.id : Nat), .int .u64 (x.ver : Nat), .int .i64 x.line, .int .i64 x.cl], .bool true]) ∧ FiTo w1 g v (Q (i + 1)) w') := fun w1 v V h => by
                  obtain ⟨f, P, h1⟩ := h.fg.fi
                  rw [hqi] at h1
                  rw [hQ]
                  exact fipop_any h1
                have HRX : Hid (∀ w1 v L1, Mw w g w1 v (.slice (some ⟨bV, 0, none⟩) m cap) L1 (Q i) → w1.cell? ⟨bV, 0, none⟩ = some (.string x.str) ∧ w1.cell? ⟨bV, 1, none⟩ = some (.int .u64 (x.id : Nat)) ∧ w1.cell? ⟨bV, 2, none⟩ = some (.int .u64 (x.ver : Nat)) ∧ w1.cell? ⟨bV, 3, none⟩ = some (.int .i64 x.line) ∧ w1.cell? ⟨bV, 4, none⟩ = some (.int .i64 x.cl)) := fun w1 v L1 h => by
                  obtain ⟨_, A', c', e, _, hr, _⟩ := rowL_of_own h.row (by have := HQL.out i; omega)
                  injection e with e1 _ _
                  rw [← e1] at hr
                  rw [hqi] at hr
                  obtain ⟨b', o', e, _, h⟩ := hr.at_ (i := 0) (e := x) rfl
                  cases e
                  simpa using h
                have HAP : Hid (∀ w1 v, Mw w g w1 v (.slice (some ⟨bV, 0, none⟩) m cap) (Q (i + 1)) (Q i) → ∃ A2 m2 cap2 w2, (Builtin.append_ #[22, 22] 22 #[.slice none 0 0, .slice (some ⟨bV, 0, none⟩) (m - 1) (cap - 1)]).run Try.prog w1 = .ok (.slice A2 m2 cap2) w2 ∧ (Q (i + 1)).length = m2 ∧ Mw w g w2 v (.slice A2 m2 cap2) (Q (i + 1)) (Q (i + 1))) := fun w1 v h => by
                  obtain ⟨_, A', c', e, _, hr, _⟩ := rowL_of_own h.row (by have := HQL.out i; omega)
                  injection e with e1 _ _
                  rw [← e1] at hr
                  rw [hqi] at hr
                  have hr2 : RowL w1 (some ⟨bV, 0, none⟩) xt := (by obtain rfl : xt = [] := List.eq_nil_of_length_eq_zero (by have := h.cap; omega); exact rowL_nil _ _)
                  obtain ⟨u, w2, e1, e2, e3, e4⟩ := run_appL w1 g (.slice none 0 0) [] (World.ownsRow_nil _ _ _ _) (some ⟨bV, 0, none⟩) (m - 1) (cap - 1) xt (by omega) hr2 (fun e => by cases e) (by have h1 := HQL.out (i + 1); rw [hQ] at h1; simp; omega) h.fg.gw
                  rw [List.nil_append, ← hQ] at e2
                  have h2 := h.setM e2 (grown_none _ e3) (fun k hk => e4.elim (fun e => by rw [e] at hk; cases hk) (fun e => .inr (by rw [e] at hk; cases hk; omega)))
                  obtain ⟨_, A2, cap2, rfl, _⟩ := rowL_of_own e2 (by have := HQL.out (i + 1); omega)
                  exact ⟨A2, _, cap2, w2, e1, rfl, h2⟩
                have hmp : (0 : Int) < (m : Int) := by omega
                have hmp2 : decide ((0 : Int) < (m : Int)) = true := decide_eq_true hmp
                have hm1 : (1 : Int) ≤ (m : Int) := by omega
                have hmn : 1 ≤ m := by omega
                have hmc := HM.out.cap
                have hmci : (m : Int) ≤ (cap : Int) := by omega
                have hc1 : cap = 1 := hcap1
                clear hqi hQ hml
                generalize x.str = x0 at *
                generalize (x.id : Int) = x1 at *
                generalize (x.ver : Int) = x2 at *
                generalize x.line = x3 at *
                generalize x.cl = x4 at *
                have k0 : (x0.toList == x0.toList) = true := by simp
                have k1 : (x1 == x1) = true := by simp
                have k2 : (x2 == x2) = true := by simp
                have k3 : (x3 == x3) = true := by simp
                have k4 : (x4 == x4) = true := by simp
                go_wp2_with (first
                  | ((with_reducible show wpList _ _ _ (⟨some 8, .alloc _, _, _, _, _⟩ :: _) _ _); refine wpList_alloc_var (o := ⟨some 8, _, _, _, _, _⟩) rfl 29 rfl ga HGA.out _ HZ.out ?_; intro y1 Y1 Z1; have HMa := Lib.hid (HM.out.below (HGA.out.symm ▸ Z1.out)); have hpc1 := HPC.out y1 HMa.out.fg.bel; obtain ⟨d0, d1, d2, d3, d4⟩ := HRX.out _ _ _ HMa.out)
                  | ((with_reducible show wpList _ _ _ (⟨none, .store _ (.tmp 8) _, _, _, _, _⟩ :: _) _ _); refine wpList_store_whole (o := ⟨none, .store 29 (.tmp 8) (.tmp 42), _, _, _, _⟩) rfl _ _ _ rfl rfl ga #[.string x0, .int .u64 x1, .int .u64 x2, .int .i64 x3, .int .i64 x4] rfl rfl 29 _ Y1.out size_link rfl (onesL _ _ _ _ _) ?_; intro y2 Y2 Z2)
                  | fail)
                have HMb := Lib.hid (HM.out.below (HGA.out.symm ▸ (Z1.out.trans Z2.out)))
                refine (HHD2.out _ _ _ HMb.out).mono ?_
                rintro e y3 ⟨rfl, hb3⟩
                have HMc := Lib.hid (HMb.out.below hb3)
                have Y3 := Lib.hid ((hb3.block ga (lt_of_heap Y2.out)).trans Y2.out)
                obtain ⟨gb, hgb⟩ : ∃ gb, y3.heap.size = gb := ⟨_, rfl⟩
                have HGB := Lib.hid hgb
                have HLB : Hid (ga < gb) := hgb ▸ lt_of_heap Y3.out
                clear hb3 hgb
                go_wp2_with (first
                  | ((with_reducible show wpList _ _ _ (⟨some 9, .alloc _, _, _, _, _⟩ :: _) _ _); refine wpList_alloc_var (o := ⟨some 9, _, _, _, _, _⟩) rfl 29 rfl gb HGB.out _ HZ.out ?_; intro y4 Y4 Z4)
                  | ((with_reducible show wpList _ _ _ (⟨none, .store _ (.tmp 9) _, _, _, _, _⟩ :: _) _ _); refine wpList_store_whole (o := ⟨none, .store 29 (.tmp 9) (.tmp 46), _, _, _, _⟩) rfl _ _ _ rfl rfl gb #[.string x0, .int .u64 x1, .int .u64 x2, .int .i64 x3, .int .i64 x4] rfl rfl 29 _ Y4.out size_link rfl (onesL _ _ _ _ _) ?_; intro y5 Y5 Z5)
                  | fail)
                have HMd := Lib.hid (HMc.out.below (HGB.out.symm ▸ (Z4.out.trans Z5.out)))
                have Y35 := Lib.hid (((Z4.out.trans Z5.out).block ga HLB.out).trans Y3.out)
                have HNA : Hid (¬ fiOwn g v ga) := fun e => by have := HM.out.fg.lt e; have := HGA.out; omega
                have HNB : Hid (¬ fiOwn g v gb) := fun e => by have := HM.out.fg.lt e; have := HGA.out; have := HLB.out; omega
                refine (HPO2.out _ _ _ HMd.out).mono ?_
                rintro e y6 ⟨rfl, hb6⟩
                obtain ⟨⟨v2, hm6⟩, hst⟩ := HMd.out.setP hb6
                have HMe := Lib.hid hm6
                have Y6a := Lib.hid ((hst ga (lt_of_heap Y35.out) HNA.out).trans Y35.out)
                have Y6b := Lib.hid ((hst gb (lt_of_heap Y5.out) HNB.out).trans Y5.out)
                obtain ⟨gc, hgc⟩ : ∃ gc, y6.heap.size = gc := ⟨_, rfl⟩
                have HGC := Lib.hid hgc
                have HLA : Hid (ga < gc) := hgc ▸ lt_of_heap Y6a.out
                have HLC : Hid (gb < gc) := hgc ▸ lt_of_heap Y6b.out
                clear hb6 hm6 hst hgc
                go_wp2_with (first
                  | ((with_reducible show wpList _ _ _ (⟨some 11, .alloc _, _, _, _, _⟩ :: _) _ _); refine wpList_alloc_var (o := ⟨some 11, _, _, _, _, _⟩) rfl 29 rfl gc HGC.out _ HZ.out ?_; intro y7 Y7 Z7)
                  | ((with_reducible show wpList _ _ _ (⟨none, .store _ (.tmp 11) _, _, _, _, _⟩ :: _) _ _); refine wpList_store_whole (o := ⟨none, .store 29 (.tmp 11) (.tmp 51), _, _, _, _⟩) rfl _ _ _ rfl rfl gc #[.string x0, .int .u64 x1, .int .u64 x2, .int .i64 x3, .int .i64 x4] rfl rfl 29 _ Y7.out size_link rfl (onesL _ _ _ _ _) ?_; intro y8 Y8 Z8; have HMf := Lib.hid (HMe.out.below (HGC.out.symm ▸ (Z7.out.trans Z8.out))); have Y8a := Lib.hid (((Z7.out.trans Z8.out).block ga HLA.out).trans Y6a.out); have Y8b := Lib.hid (((Z7.out.trans Z8.out).block gb HLC.out).trans Y6b.out); obtain ⟨p0, p1, p2, p3, p4⟩ := cellsL Y8a.out; obtain ⟨q0, q1, q2, q3, q4⟩ := cellsL Y8b.out; obtain ⟨r0, r1, r2, r3, r4⟩ := cellsL Y8.out; obtain ⟨A2, m2, cap2, y9, e1, e2, e3⟩ := HAP.out _ _ HMf.out; have E1 := Lib.hid e1; have HM2 := Lib.hid e2; have HMg := Lib.hid e3; clear e1 e2 e3; have HLN2 := Lib.hid (HLN.out _ _ (i + 1) HMg.out.fg); rw [HM2.out] at HLN2; have hmm : ((m2 : Int) != (m2 : Int)) = false := (by simp))
                  | (at_builtin; refine wpList_app rfl (.const (.slice none 0 0)) (.tmp 77) 22 rfl rfl rfl E1.out ?_)
                  | fail)
                refine HLN2.out.mono ?_
                rintro e w' ⟨rfl, rfl⟩
                go_wp2
                go_roundg gk
                case measure => omega
                case rel => exact ⟨i + 1, v2, A2, m2, cap2, _, _, _, _, _, _, by omega, by go_num, rfl, rfl, rfl, rfl, rfl, rfl, rfl, HM2, HMg⟩
              · skip
                have hQ : Q (i + 1) = xt := by rw [HQT.out i hpo, hqi]; rfl
                have hml : m = xt.length + 1 := by have := HMM.out; rw [hqi] at this; exact this.symm
                obtain ⟨bV, hA0⟩ : ∃ bV, A = some ⟨bV, 0, none⟩ := by
                  have h0 := HM.out.row.2
                  rcases h0 with ⟨e, _⟩ | ⟨b, c, cur, e, _⟩
                  · cases e
                    omega
                  · cases e
                    exact ⟨b, rfl⟩
                subst hA0
                have HHD2 : Hid (∀ w1 v V, Mw w g w1 v V (Q i) (Q i) → Calls Try.prog 8 #[.pointer (some ⟨g, 0, none⟩)] w1 fun y w' => y = .returned (.tuple #[.agg #[.string x.str, .int .u64 (x.id : Nat), .int .u64 (x.ver : Nat), .int .i64 x.line, .int .i64 x.cl], .bool true]) ∧ Below w1.heap.size w1 w') := fun w1 v V h => by
                  obtain ⟨f, P, h1⟩ := h.fg.fi
                  rw [hqi] at h1
                  exact fihead_below h1
                have HPO2 : Hid (∀ w1 v V, Mw w g w1 v V (Q i) (Q i) → Calls Try.prog 9 #[.pointer (some ⟨g, 0, none⟩)] w1 fun y w' => y = .returned (.tuple #[.agg #[.string x.str, .int .u64 (x.id : Nat), .int .u64 (x.ver : Nat), .int .i64 x.line, .int .i64 x.cl], .bool true]) ∧ FiTo w1 g v (Q (i + 1)) w') := fun w1 v V h => by
                  obtain ⟨f, P, h1⟩ := h.fg.fi
                  rw [hqi] at h1
                  rw [hQ]
                  exact fipop_any h1
                have HRX : Hid (∀ w1 v L1, Mw w g w1 v (.slice (some ⟨bV, 0, none⟩) m cap) L1 (Q i) → w1.cell? ⟨bV, 0, none⟩ = some (.string x.str) ∧ w1.cell? ⟨bV, 1, none⟩ = some (.int .u64 (x.id : Nat)) ∧ w1.cell? ⟨bV, 2, none⟩ = some (.int .u64 (x.ver : Nat)) ∧ w1.cell? ⟨bV, 3, none⟩ = some (.int .i64 x.line) ∧ w1.cell? ⟨bV, 4, none⟩ = some (.int .i64 x.cl)) := fun w1 v L1 h => by
                  obtain ⟨_, A', c', e, _, hr, _⟩ := rowL_of_own h.row (by have := HQL.out i; omega)
                  injection e with e1 _ _
                  rw [← e1] at hr
                  rw [hqi] at hr
                  obtain ⟨b', o', e, _, h⟩ := hr.at_ (i := 0) (e := x) rfl
                  cases e
                  simpa using h
                have HAP : Hid (∀ w1 v, Mw w g w1 v (.slice (some ⟨bV, 0, none⟩) m cap) (Q (i + 1)) (Q i) → ∃ A2 m2 cap2 w2, (Builtin.append_ #[22, 22] 22 #[.slice none 0 0, .slice (some ⟨bV, 5, none⟩) (m - 1) (cap - 1)]).run Try.prog w1 = .ok (.slice A2 m2 cap2) w2 ∧ (Q (i + 1)).length = m2 ∧ Mw w g w2 v (.slice A2 m2 cap2) (Q (i + 1)) (Q (i + 1))) := fun w1 v h => by
                  obtain ⟨_, A', c', e, _, hr, _⟩ := rowL_of_own h.row (by have := HQL.out i; omega)
                  injection e with e1 _ _
                  rw [← e1] at hr
                  rw [hqi] at hr
                  have hr2 : RowL w1 (some ⟨bV, 5, none⟩) xt := by simpa using hr.drop 1
                  obtain ⟨u, w2, e1, e2, e3, e4⟩ := run_appL w1 g (.slice none 0 0) [] (World.ownsRow_nil _ _ _ _) (some ⟨bV, 5, none⟩) (m - 1) (cap - 1) xt (by omega) hr2 (fun e => by cases e) (by have h1 := HQL.out (i + 1); rw [hQ] at h1; simp; omega) h.fg.gw
                  rw [List.nil_append, ← hQ] at e2
                  have h2 := h.setM e2 (grown_none _ e3) (fun k hk => e4.elim (fun e => by rw [e] at hk; cases hk) (fun e => .inr (by rw [e] at hk; cases hk; omega)))
                  obtain ⟨_, A2, cap2, rfl, _⟩ := rowL_of_own e2 (by have := HQL.out (i + 1); omega)
                  exact ⟨A2, _, cap2, w2, e1, rfl, h2⟩
                have hmp : (0 : Int) < (m : Int) := by omega
                have hmp2 : decide ((0 : Int) < (m : Int)) = true := decide_eq_true hmp
                have hm1 : (1 : Int) ≤ (m : Int) := by omega
                have hmn : 1 ≤ m := by omega
                have hmc := HM.out.cap
                have hmci : (m : Int) ≤ (cap : Int) := by omega
                have hc1 : ¬ cap = 1 := hcap1
                clear hqi hQ hml
                generalize x.str = x0 at *
                generalize (x.id : Int) = x1 at *
                generalize (x.ver : Int) = x2 at *
                generalize x.line = x3 at *
                generalize x.cl = x4 at *
                have k0 : (x0.toList == x0.toList) = true := by simp
                have k1 : (x1 == x1) = true := by simp
                have k2 : (x2 == x2) = true := by simp
                have k3 : (x3 == x3) = true := by simp
                have k4 : (x4 == x4) = true := by simp
                go_wp2_with (first
                  | ((with_reducible show wpList _ _ _ (⟨some 8, .alloc _, _, _, _, _⟩ :: _) _ _); refine wpList_alloc_var (o := ⟨some 8, _, _, _, _, _⟩) rfl 29 rfl ga HGA.out _ HZ.out ?_; intro y1 Y1 Z1; have HMa := Lib.hid (HM.out.below (HGA.out.symm ▸ Z1.out)); have hpc1 := HPC.out y1 HMa.out.fg.bel; obtain ⟨d0, d1, d2, d3, d4⟩ := HRX.out _ _ _ HMa.out)
                  | ((with_reducible show wpList _ _ _ (⟨none, .store _ (.tmp 8) _, _, _, _, _⟩ :: _) _ _); refine wpList_store_whole (o := ⟨none, .store 29 (.tmp 8) (.tmp 42), _, _, _, _⟩) rfl _ _ _ rfl rfl ga #[.string x0, .int .u64 x1, .int .u64 x2, .int .i64 x3, .int .i64 x4] rfl rfl 29 _ Y1.out size_link rfl (onesL _ _ _ _ _) ?_; intro y2 Y2 Z2)
                  | fail)
                have HMb := Lib.hid (HM.out.below (HGA.out.symm ▸ (Z1.out.trans Z2.out)))
                refine (HHD2.out _ _ _ HMb.out).mono ?_
                rintro e y3 ⟨rfl, hb3⟩
                have HMc := Lib.hid (HMb.out.below hb3)
                have Y3 := Lib.hid ((hb3.block ga (lt_of_heap Y2.out)).trans Y2.out)
                obtain ⟨gb, hgb⟩ : ∃ gb, y3.heap.size = gb := ⟨_, rfl⟩
                have HGB := Lib.hid hgb
                have HLB : Hid (ga < gb) := hgb ▸ lt_of_heap Y3.out
                clear hb3 hgb
                go_wp2_with (first
                  | ((with_reducible show wpList _ _ _ (⟨some 9, .alloc _, _, _, _, _⟩ :: _) _ _); refine wpList_alloc_var (o := ⟨some 9, _, _, _, _, _⟩) rfl 29 rfl gb HGB.out _ HZ.out ?_; intro y4 Y4 Z4)
                  | ((with_reducible show wpList _ _ _ (⟨none, .store _ (.tmp 9) _, _, _, _, _⟩ :: _) _ _); refine wpList_store_whole (o := ⟨none, .store 29 (.tmp 9) (.tmp 46), _, _, _, _⟩) rfl _ _ _ rfl rfl gb #[.string x0, .int .u64 x1, .int .u64 x2, .int .i64 x3, .int .i64 x4] rfl rfl 29 _ Y4.out size_link rfl (onesL _ _ _ _ _) ?_; intro y5 Y5 Z5)
                  | fail)
                have HMd := Lib.hid (HMc.out.below (HGB.out.symm ▸ (Z4.out.trans Z5.out)))
                have Y35 := Lib.hid (((Z4.out.trans Z5.out).block ga HLB.out).trans Y3.out)
                have HNA : Hid (¬ fiOwn g v ga) := fun e => by have := HM.out.fg.lt e; have := HGA.out; omega
                have HNB : Hid (¬ fiOwn g v gb) := fun e => by have := HM.out.fg.lt e; have := HGA.out; have := HLB.out; omega
                refine (HPO2.out _ _ _ HMd.out).mono ?_
                rintro e y6 ⟨rfl, hb6⟩
                obtain ⟨⟨v2, hm6⟩, hst⟩ := HMd.out.setP hb6
                have HMe := Lib.hid hm6
                have Y6a := Lib.hid ((hst ga (lt_of_heap Y35.out) HNA.out).trans Y35.out)
                have Y6b := Lib.hid ((hst gb (lt_of_heap Y5.out) HNB.out).trans Y5.out)
                obtain ⟨gc, hgc⟩ : ∃ gc, y6.heap.size = gc := ⟨_, rfl⟩
                have HGC := Lib.hid hgc
                have HLA : Hid (ga < gc) := hgc ▸ lt_of_heap Y6a.out
                have HLC : Hid (gb < gc) := hgc ▸ lt_of_heap Y6b.out
                clear hb6 hm6 hst hgc
                go_wp2_with (first
                  | ((with_reducible show wpList _ _ _ (⟨some 11, .alloc _, _, _, _, _⟩ :: _) _ _); refine wpList_alloc_var (o := ⟨some 11, _, _, _, _, _⟩) rfl 29 rfl gc HGC.out _ HZ.out ?_; intro y7 Y7 Z7)
                  | ((with_reducible show wpList _ _ _ (⟨none, .store _ (.tmp 11) _, _, _, _, _⟩ :: _) _ _); refine wpList_store_whole (o := ⟨none, .store 29 (.tmp 11) (.tmp 51), _, _, _, _⟩) rfl _ _ _ rfl rfl gc #[.string x0, .int .u64 x1, .int .u64 x2, .int .i64 x3, .int .i64 x4] rfl rfl 29 _ Y7.out size_link rfl (onesL _ _ _ _ _) ?_; intro y8 Y8 Z8; have HMf := Lib.hid (HMe.out.below (HGC.out.symm ▸ (Z7.out.trans Z8.out))); have Y8a := Lib.hid (((Z7.out.trans Z8.out).block ga HLA.out).trans Y6a.out); have Y8b := Lib.hid (((Z7.out.trans Z8.out).block gb HLC.out).trans Y6b.out); obtain ⟨p0, p1, p2, p3, p4⟩ := cellsL Y8a.out; obtain ⟨q0, q1, q2, q3, q4⟩ := cellsL Y8b.out; obtain ⟨r0, r1, r2, r3, r4⟩ := cellsL Y8.out; obtain ⟨A2, m2, cap2, y9, e1, e2, e3⟩ := HAP.out _ _ HMf.out; have E1 := Lib.hid e1; have HM2 := Lib.hid e2; have HMg := Lib.hid e3; clear e1 e2 e3; have HLN2 := Lib.hid (HLN.out _ _ (i + 1) HMg.out.fg); rw [HM2.out] at HLN2; have hmm : ((m2 : Int) != (m2 : Int)) = false := (by simp))
                  | (at_builtin; refine wpList_app rfl (.const (.slice none 0 0)) (.tmp 77) 22 rfl rfl rfl E1.out ?_)
                  | fail)
                refine HLN2.out.mono ?_
                rintro e w' ⟨rfl, rfl⟩
                go_wp2
                go_roundg gk
                case measure => omega
                case rel => exact ⟨i + 1, v2, A2, m2, cap2, _, _, _, _, _, _, by omega, by go_num, rfl, rfl, rfl, rfl, rfl, rfl, rfl, HM2, HMg⟩
        · have hil1i : ¬ (i : Int) < (len1 : Int) := by omega
          have hpo : p.getD i false = false := by rw [HPL.out i (by omega)]
          have hQ : Q (i + 1) = Q i ++ [z0[i]] := by rw [HQP.out i hpo, hzd]
          have hrx := (HROW.out wr HM.out.fg.bel).at_ hzi
          obtain ⟨bL, oL, ha0, -, -⟩ := hrx
          subst ha0
          generalize z0[i] = x at *
          have HRX : Hid (∀ w1, Below g w w1 → w1.cell? ⟨bL, oL + i * 5, none⟩ = some (.string x.str) ∧ w1.cell? ⟨bL, oL + i * 5 + 1, none⟩ = some (.int .u64 (x.id : Nat)) ∧ w1.cell? ⟨bL, oL + i * 5 + 2, none⟩ = some (.int .u64 (x.ver : Nat)) ∧ w1.cell? ⟨bL, oL + i * 5 + 3, none⟩ = some (.int .i64 x.line) ∧ w1.cell? ⟨bL, oL + i * 5 + 4, none⟩ = some (.int .i64 x.cl)) := fun w1 hb => by
            obtain ⟨b', o', e, _, h⟩ := (HROW.out w1 hb).at_ hzi
            cases e
            exact h
          have HPU2 : Hid (∀ w1 v, Mw w g w1 v (.slice A m cap) (Q i) (Q i) → Calls Try.prog 10 #[.pointer (some ⟨g, 0, none⟩), .agg #[.string x.str, .int .u64 (x.id : Nat), .int .u64 (x.ver : Nat), .int .i64 x.line, .int .i64 x.cl]] w1 fun y w' => y = .returned (.tuple #[]) ∧ FiTo w1 g v (Q (i + 1)) w') := fun w1 v h => by
            obtain ⟨f, P, h1⟩ := h.fg.fi
            have := fipush_any h1 (by have := HQL.out i; omega) x
            rwa [← hQ] at this
          have HAP : Hid (∀ w1 v, Mw w g w1 v (.slice A m cap) (Q (i + 1)) (Q i) → ∃ A2 m2 cap2 w2, (Builtin.append_ #[22, 22] 22 #[.slice A m cap, .slice (some ⟨w1.heap.size, 0, none⟩) 1 1]).run Try.prog (w1.alloc (.cells #[.string x.str, .int .u64 (x.id : Nat), .int .u64 (x.ver : Nat), .int .i64 x.line, .int .i64 x.cl] 29)) = .ok (.slice A2 m2 cap2) w2 ∧ (Q (i + 1)).length = m2 ∧ Mw w g w2 v (.slice A2 m2 cap2) (Q (i + 1)) (Q (i + 1))) := fun w1 v h => by
            obtain ⟨u, w2, e1, e2, e3, e4⟩ := run_appL_one w1 g (.slice A m cap) (Q i) x h.row (by have := HQL.out i; omega) h.fg.gw
            rw [← hQ] at e2
            have h2 := h.setM e2 e3 (fun k hk => e4.elim (fun e => .inl (e ▸ hk)) (fun e => .inr (by rw [e] at hk; cases hk; omega)))
            obtain ⟨_, A2, cap2, rfl, _⟩ := rowL_of_own e2 (by have := HQL.out (i + 1); omega)
            exact ⟨A2, _, cap2, w2, e1, rfl, h2⟩
          clear hQ hzd
          generalize x.str = x0 at *
          generalize (x.id : Int) = x1 at *
          generalize (x.ver : Int) = x2 at *
          generalize x.line = x3 at *
          generalize x.cl = x4 at *
          obtain ⟨d0, d1, d2, d3, d4⟩ := HRX.out wr HM.out.fg.bel
          go_wp2_with (first
            | ((with_reducible show wpList _ _ _ (⟨some 8, .alloc _, _, _, _, _⟩ :: _) _ _); refine wpList_alloc_var (o := ⟨some 8, _, _, _, _, _⟩) rfl 29 rfl ga HGA.out _ HZ.out ?_; intro y1 Y1 Z1; have HMa := Lib.hid (HM.out.below (HGA.out.symm ▸ Z1.out)); obtain ⟨d0, d1, d2, d3, d4⟩ := HRX.out y1 HMa.out.fg.bel)
            | fail)
          refine (HPU2.out _ _ HMa.out).mono ?_
          rintro e y2 ⟨rfl, hb⟩
          obtain ⟨⟨v2, hm2⟩, -⟩ := HMa.out.setP hb
          have HMb := Lib.hid hm2
          obtain ⟨d0, d1, d2, d3, d4⟩ := HRX.out y2 HMb.out.fg.bel
          obtain ⟨A2, m2, cap2, y3, e1, e2, e3⟩ := HAP.out _ _ HMb.out
          have E1 := Lib.hid e1
          have HM2 := Lib.hid e2
          have HMc := Lib.hid e3
          clear hb hm2 e1 e2 e3
          have HLN2 := Lib.hid (HLN.out _ _ (i + 1) HMc.out.fg)
          rw [HM2.out] at HLN2
          have hmm : ((m2 : Int) != (m2 : Int)) = false := by simp
          go_wp2_with (first
            | (at_builtin; refine wpList_app rfl (.tmp 85) (.tmp 90) 22 rfl rfl rfl E1.out ?_)
            | fail)
          refine HLN2.out.mono ?_
          rintro e w' ⟨rfl, rfl⟩
          go_wp2
          go_roundg gk
          case measure => omega
          case rel => exact ⟨i + 1, v2, A2, m2, cap2, _, _, _, _, _, _, by omega, by go_num, rfl, rfl, rfl, rfl, rfl, rfl, rfl, HM2, HMc⟩
set_option maxRecDepth 100000 in
theorem walk (a0 : Option Addr) (len0 cap0 : Nat) (z0 : List Ln) (a1 : Option Addr) (len1 cap1 : Nat) (p : List Bool) (w : World) (w0 : IsLinks w a0 len0 z0) (w1 : IsBools w a1 len1 p) :
    Calls Try.prog 3 #[.slice a0 len0 cap0, .slice a1 len1 cap1] w fun e w' => e = .returned (.bool true) ∧ Below w.heap.size w w' := by
  by_cases h : 300 < len0
  · exact many a0 len0 cap0 a1 len1 cap1 w h
  · exact few a0 len0 cap0 z0 a1 len1 cap1 p w w0 w1 (by omega)

set_option maxRecDepth 100000 in
theorem lifted (os : Os) (started : os.Started) (H : Type) (enc : TypeId × Value → H) :
    ReturnsInHanded {} Try.checked os 3 .any (Rows.fifoScriptSpec.pre6 enc Try.prog Try.f3 Rows.fifoScriptRow.domain false) (Rows.fifoScriptSpec.post enc Try.prog Try.f3 false true false false) := by
  refine returnsInHanded_of_change (C := Try.checked) own started (by kernel_rfl) Try.func3
    (ChangeSpec.witness6 (enc := enc) (C := Try.checked) false ⟨#[], #[.slice none 0 0, .slice none 0 0], []⟩ 8 (by kernel_rfl) (by kernel_rfl) (by kernel_rfl) (by kernel_rfl)) ?_
  intro W base args ds gs before hval0 hW hcnd _
  have hval : ∀ (j : Nat) t v, Try.f3.params[j]? = some t → args[j]? = some v → Value.okWide Try.prog W .any base t v := hval0
  have hW' := hW
  obtain ⟨p, q, hA0, hV, rfl, hfz, hnd⟩ := hW
  have hA : DataW.TrodAll enc Try.prog W 0 (fun _ => true) true Try.f3.params.toList args.toList ds p := hA0
  rw [Try.params3] at hA hval
  obtain ⟨v0, vs0, d0, ds0, p0, q0, hargs, rfl, rfl, h0, r0⟩ := trodAll_cons hA
  obtain ⟨v1, vs1, d1, ds1, p1, q1, rfl, rfl, rfl, h1, r1⟩ := trodAll_cons r0
  obtain ⟨rfl, rfl, rfl⟩ := trodAll_nil r1
  obtain rfl : args = #[v0, v1] := by cases args; simp_all
  obtain ⟨rfl, rfl⟩ := trodVars_none hV
  obtain ⟨a0, len0, cap0, rfl⟩ := okWide_slice Try.underlying22 (hval 0 22 v0 rfl rfl)
  have k0 := h0
  have lt0 : ∀ x ∈ p0, x.block < W.heap.size := by obtain ⟨m, hm⟩ := k0; exact DataW.trod_lt m _ _ _ hm
  obtain ⟨z0, w0⟩ : ∃ zs, IsLinks W a0 len0 zs := by
    obtain ⟨fuel, hf⟩ := h0
    exact isLinks_of hf
  obtain ⟨a1, len1, cap1, rfl⟩ := okWide_slice Try.underlying23 (hval 1 23 v1 rfl rfl)
  have k1 := h1
  have lt1 : ∀ x ∈ p1, x.block < W.heap.size := by obtain ⟨m, hm⟩ := k1; exact DataW.trod_lt m _ _ _ hm
  obtain ⟨z1, w1⟩ : ∃ zs, IsBools W a1 len1 zs := by
    obtain ⟨fuel, hf⟩ := h1
    exact isBools_at Try.underlying23 Try.underlying4 (by kernel_rfl) hf
  clear hA0 hval0
  refine (walk a0 len0 cap0 z0 a1 len1 cap1 z1 W w0 w1).mono fun e W' ⟨he, bel⟩ => ?_
  subst he
  exact ⟨_, rfl, _, _, _, [], _, [], hW', trodAll_mk1 (shut_bool Try.underlying4 _), (trodAll_cons_mk (Below.trod laidOut (by kernel_rfl) (of_decide_eq_true (by kernel_rfl)) k0 bel lt0) (trodAll_cons_mk (Below.trod laidOut (by kernel_rfl) (of_decide_eq_true (by kernel_rfl)) k1 bel lt1) trodAll_mk0)), rfl, bel.frame _, fun h => by cases h⟩

theorem over : Rows.fifoScriptRow.holds Try.pinned (OpenSpec.ofChange Rows.fifoScriptSpec) :=
  OpenClaim.holds_of_wide 3 Try.f3 rfl rfl rfl rfl rfl rfl rfl ⟨rfl, rfl, rfl, rfl, rfl⟩ rfl rfl rfl rfl rfl (by kernel_rfl) Try.func3 (by kernel_rfl)
    (of_decide_eq_true (by kernel_rfl)) (by unfold Func.isWrapper; first | (rw [if_pos (by decide +kernel)]; kernel_rfl) | (rw [if_neg (by decide +kernel)]; exact ⟨rfl, rfl⟩))
    (fun os started H enc _ => lifted os started H enc)

theorem proved : Rows.FifoScriptSaid := over
#print axioms proved
end Go.Proofs.Ytejljkpnhdnncaa.fifoScript
