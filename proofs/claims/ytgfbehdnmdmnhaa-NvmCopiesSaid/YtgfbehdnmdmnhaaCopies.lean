/-
  Proved here: for every two lists of acts the law NvmCopies returns true, and what came in reads as it did: a copy has the device's lines and counts, and whatever is done to it the device stays as one that was made likewise (longer lists: the law asks the chapter's example alone).
  Conditions: none beyond the given statement's.
-/
import Derived.Test.YtgfbehdnmdmnhaaRows
import Derived.Test.YtgfbehdnmdmnhaaNvmL
import Derived.IntWalk
import Derived.WalkSmall
import Derived.Deep.QuietTactic
import Derived.BigQuiet
import Derived.WalkKit
import Derived.ProofKit
import Derived.OpenShut
import Derived.ShutString
import Derived.ChangeOld
import Derived.Below
namespace Go.Proofs.Ytgfbehdnmdmnhaa.nvmCopies
open Go.ChangeShapes Go.WideShapes Go.ChangeAt Go.RowKit
open Go.ChangeMaps (open_string shut_string)
set_option linter.unusedVariables false

theorem own : ownKnob Try.prog.godebug = none := by kernel_rfl
theorem laidOut : laidOutB Try.prog = true := by kernel_rfl

set_option maxHeartbeats 1600000 in
set_option maxRecDepth 100000 in
theorem walk (a0 : Option Addr) (len0 cap0 : Nat) (z0 : List ActV) (a1 : Option Addr) (len1 cap1 : Nat) (z1 : List ActV) (w : World) (w0 : IsActs w a0 len0 z0) (w1 : IsActs w a1 len1 z1) :
    Calls Try.prog 7 #[.slice a0 len0 cap0, .slice a1 len1 cap1] w fun e w' => e = .returned (.bool true) ∧ Below w.heap.size w w' := by
  have HLA := Lib.hid (large_any (cap := cap0) w0)
  have HLB := Lib.hid (fun k => large_any (cap := cap1) (w := w.drewN k) (w1.below (below_drewN (Below.refl _ _) k)))
  cases hlg : largeB len0 z0 with
  | true =>
    rw [hlg] at HLA
    clear w0 hlg w1 HLB
    go_enter Try.func7, Try.ntmps7
    go_wp2_with fail
    refine HLA.out.mono ?_
    rintro e w' ⟨rfl, k, rfl⟩
    go_wp2_with fail
    refine (awake_any _).mono ?_
    rintro e w' ⟨rfl, hb⟩
    go_wp2
    go_ret
    exact ⟨rfl, (below_drewN (Below.refl _ _) k).trans hb⟩
  | false =>
    rw [hlg] at HLA
    cases hlg2 : largeB len1 z1 with
    | true =>
      rw [hlg2] at HLB
      clear w0 hlg w1 hlg2
      go_enter Try.func7, Try.ntmps7
      go_wp2_with fail
      refine HLA.out.mono ?_
      rintro e w' ⟨rfl, k, rfl⟩
      go_wp2_with fail
      refine (HLB.out k).mono ?_
      rintro e w' ⟨rfl, k2, rfl⟩
      go_wp2_with fail
      refine (awake_any _).mono ?_
      rintro e w' ⟨rfl, hb⟩
      go_wp2
      go_ret
      exact ⟨rfl, (below_drewN (Below.refl _ _) (k + k2)).trans hb⟩
    | false =>
      rw [hlg2] at HLB
      have HSO := Lib.hid (fun W (hW : Below w.heap.size w W) => some_any (cap := cap0) (w := W) (w0.below hW) hlg)
      obtain ⟨h80, hbig⟩ := largeB_false hlg2
      have HBIG := Lib.hid hbig
      have HA1 := Lib.hid w1
      have hs8 := s8_len z0
      generalize s8.playAll z0 = s at *
      have HS8 := Lib.hid hs8
      clear w0 hlg w1 hlg2 hs8 hbig
      go_enter Try.func7, Try.ntmps7
      go_wp2_with fail
      refine HLA.out.mono ?_
      rintro e w' ⟨rfl, kk, rfl⟩
      go_wp2_with fail
      refine (HLB.out kk).mono ?_
      rintro e w' ⟨rfl, k2, rfl⟩
      go_wp2_with fail
      refine (HSO.out _ (below_drewN (Below.refl _ _) (kk + k2))).mono ?_
      rintro e w1 ⟨p, q, rfl, hp, hq, hd, hb⟩
      have HD1 := Lib.hid hd
      have HB1 : Hid (Below w.heap.size w w1) := (below_drewN (Below.refl _ _) (kk + k2)).trans hb
      clear hd hb hp hq
      go_wp2_with fail
      refine (HSO.out _ HB1.out).mono ?_
      rintro e w2 ⟨p2, q2, rfl, hp2, hq2, hd, hb⟩
      have HD2 := Lib.hid (HD1.out.below hb)
      have HE2 := Lib.hid hd
      have HB2 : Hid (Below w.heap.size w w2) := HB1.out.trans (hb.mono HB1.out.size)
      clear hd hb hp2 hq2
      go_wp2_with fail
      refine (copy_ok HD2.out).mono ?_
      rintro e w3 ⟨p3, q3, rfl, hp3, hq3, hd, hb⟩
      have HF3 := Lib.hid hd
      have HD3 := Lib.hid (HD2.out.below hb)
      have HE3 := Lib.hid (HE2.out.below hb)
      have HB3 : Hid (Below w.heap.size w w3) := HB2.out.trans (hb.mono HB2.out.size)
      have HAP : Hid (p ≠ p3 ∧ p ≠ q3 ∧ q ≠ p3 ∧ q ≠ q3 ∧ p2 ≠ p3 ∧ p2 ≠ q3 ∧ q2 ≠ p3 ∧ q2 ≠ q3 ∧ w.heap.size ≤ p3 ∧ w.heap.size ≤ q3) := by
        have h1 := HD2.out.lt_p
        have h2 := HD2.out.lt_q
        have h3 := HE2.out.lt_p
        have h4 := HE2.out.lt_q
        have h5 := HB2.out.size
        show _ ∧ _
        omega
      clear hd hb hp3 hq3
      go_wp2_with fail
      refine (lin_ok HF3.out).mono ?_
      rintro e w' ⟨rfl, rfl⟩
      rw [HS8.out]
      go_wp2_with fail
      refine (counts_ok HF3.out).mono ?_
      rintro e w4 ⟨rfl, hb⟩
      have HF4 := Lib.hid (HF3.out.below hb)
      have HD4 := Lib.hid (HD3.out.below hb)
      have HE4 := Lib.hid (HE3.out.below hb)
      have HB4 : Hid (Below w.heap.size w w4) := HB3.out.trans (hb.mono HB3.out.size)
      clear hb
      go_wp2_with fail
      refine (counts_ok HD4.out).mono ?_
      rintro e w5 ⟨rfl, hb⟩
      have HF5 := Lib.hid (HF4.out.below hb)
      have HD5 := Lib.hid (HD4.out.below hb)
      have HE5 := Lib.hid (HE4.out.below hb)
      have HB5 : Hid (Below w.heap.size w w5) := HB4.out.trans (hb.mono HB4.out.size)
      have hne := neq_counts s.2 s.2 HD4.out.five HD4.out.five w5
      rw [show (!(s.2 == s.2)) = false by simp] at hne
      have hgu : ∀ x y, (eqGuard .neq 59 x y (aggI s.2) (aggI s.2)).run Try.prog w5 = .ok () w5 := fun x y => guard_run .neq x y s.2 s.2 w5
      clear hb
      generalize aggI s.2 = AC at *
      go_wp2
      clear hne hgu
      go_loopg [8] len1 (fun gk s8 wx => ∃ (i : Nat) (t : St), i + gk = len1 ∧ s8 = .int .i64 i ∧ Hid (DvS wx p3 q3 t) ∧ Hid (DvS wx p q s) ∧ Hid (DvS wx p2 q2 s) ∧ Hid (Below w.heap.size w wx))
      case atStart => exact ⟨0, s, by omega, rfl, HF5, HD5, HE5, HB5⟩
      case round =>
        obtain ⟨i, t, hig, rfl, HFr, HDr, HEr, HBr⟩ := hrel
        cases gk with
        | succ gk =>
          have hii : (i : Int) < (len1 : Int) := by omega
          obtain ⟨x, b, off, hx, rfl, hb, hok, hc⟩ := HA1.out.at_ (i := i) (by omega)
          have hxn := HBIG.out x (List.mem_of_getElem? hx)
          obtain ⟨n1, n2, n3, n4, n5, n6, n7, n8, n9, n10⟩ := HAP.out
          have HPL := Lib.hid (play_any HFr.out x hok hxn.1 hxn.2 HBr.out n9 n10)
          have HRG : Hid (wr.rangeAt b (off + i * 5) x.cells) := fun j v hv => (HBr.out.cell (p := ⟨b, off + i * 5 + j, none⟩) hb).trans (hc j v hv)
          have HLC : Hid (x.cells.length = 5) := rfl
          generalize x.cells = C at *
          generalize t.play x = t1 at *
          clear hc hx hok hxn hb n1 n2 n3 n4 n5 n6 n7 n8 n9 n10
          go_wp2_with (first
            | ((with_reducible show wpList _ _ _ (⟨some 61, _, _, _, _, _⟩ :: _) _ _); refine wpList_load_agg (o := ⟨some 61, _, _, _, _, _⟩) rfl 36 (.tmp 60) rfl b (off + i * 5) rfl C _ HRG.out Try.underlying36 rfl (by rw [HLC.out]; exact size_act) ?_)
            | ((with_reducible show Calls _ 23 _ _ _); refine HPL.out.mono ?_; rintro e w6 ⟨rfl, hd2, ht2⟩; have HF6 := Lib.hid hd2; have HT6 := Lib.hid ht2; clear hd2 ht2))
          go_roundg gk
          case measure => omega
          case rel =>
            obtain ⟨n1, n2, n3, n4, n5, n6, n7, n8, n9, n10⟩ := HAP.out
            exact ⟨i + 1, t1, by omega, by go_num, HF6, HDr.out.turns HT6.out n1 n2 n3 n4, HEr.out.turns HT6.out n5 n6 n7 n8, HBr.out.trans (HT6.out.below n9 n10 HBr.out.size)⟩
        | zero =>
          obtain rfl : i = len1 := by omega
          have hii : ¬ (i : Int) < (i : Int) := by omega
          clear HFr
          go_wp2
          go_loopg [9] 8 (fun gk s9 wx => ∃ (j : Nat), j + gk = 8 ∧ s9 = .int .i64 j ∧ Hid (DvS wx p q s) ∧ Hid (DvS wx p2 q2 s) ∧ Hid (Below w.heap.size w wx))
          case atStart => exact ⟨0, by omega, rfl, HDr, HEr, HBr⟩
          case round =>
            clear HDr HEr HBr
            obtain ⟨j, hjg, rfl, HDr, HEr, HBr⟩ := hrel
            cases gk with
            | succ gk =>
              have hjj : (j : Int) < 8 := by omega
              have HJ : Hid (j < s.1.length) := by have := HS8.out; show _ < _; omega
              have HOK := Lib.hid (clAt_ok HDr.out j HJ.out)
              obtain ⟨X, hX⟩ : ∃ X, (clAt s.1 (j : Int)).v = X := ⟨_, rfl⟩
              obtain ⟨Y, hY⟩ : ∃ Y, (clAt s.1 (j : Int)).p = Y := ⟨_, rfl⟩
              have HX : Hid (X.length = 64) := hX ▸ HOK.out.1
              have HY : Hid (Y.length = 64) := hY ▸ HOK.out.2.1
              have HVX := Lib.hid hX
              have HPY := Lib.hid hY
              clear hX hY
              go_wp2_with fail
              refine (load_at HDr.out j HJ.out).mono ?_
              rintro e v1 ⟨g1, rfl, _, ha, hb⟩
              rw [HVX.out] at ha
              have A1 := Lib.hid ha
              have D1 := Lib.hid (HDr.out.below hb)
              have E1 := Lib.hid (HEr.out.below hb)
              have B1 := Lib.hid (HBr.out.trans (hb.mono HBr.out.size))
              clear ha hb
              go_wp2_with fail
              refine (load_at E1.out j HJ.out).mono ?_
              rintro e v2 ⟨g2, rfl, _, ha, hb⟩
              rw [HVX.out] at ha
              have A2 := Lib.hid (A1.out.below hb A1.out.lt)
              have C2 := Lib.hid ha
              have D2 := Lib.hid (D1.out.below hb)
              have E2 := Lib.hid (E1.out.below hb)
              have B2 := Lib.hid (B1.out.trans (hb.mono B1.out.size))
              clear ha hb
              go_wp2_with fail
              refine (durable_at D2.out j HJ.out).mono ?_
              rintro e v3 ⟨g3, rfl, _, ha, hb⟩
              rw [HPY.out] at ha
              have A3 := Lib.hid (A2.out.below hb A2.out.lt)
              have C3 := Lib.hid (C2.out.below hb C2.out.lt)
              have F3 := Lib.hid ha
              have D3 := Lib.hid (D2.out.below hb)
              have E3 := Lib.hid (E2.out.below hb)
              have B3 := Lib.hid (B2.out.trans (hb.mono B2.out.size))
              clear ha hb
              go_wp2_with fail
              refine (durable_at E3.out j HJ.out).mono ?_
              rintro e v4 ⟨g4, rfl, _, ha, hb⟩
              rw [HPY.out] at ha
              have A4 := Lib.hid (A3.out.below hb A3.out.lt)
              have C4 := Lib.hid (C3.out.below hb C3.out.lt)
              have F4 := Lib.hid (F3.out.below hb F3.out.lt)
              have G4 := Lib.hid ha
              have D4 := Lib.hid (D3.out.below hb)
              have E4 := Lib.hid (E3.out.below hb)
              have B4 := Lib.hid (B3.out.trans (hb.mono B3.out.size))
              have hs1 := same_any v4 (some ⟨g1, 0, none⟩) (some ⟨g2, 0, none⟩) 64 64 64 64 X X HX.out HX.out (A4.out.row (by have := HX.out; omega)) (C4.out.row (by have := HX.out; omega))
              have hs2 := same_any v4 (some ⟨g3, 0, none⟩) (some ⟨g4, 0, none⟩) 64 64 64 64 Y Y HY.out HY.out (F4.out.row (by have := HY.out; omega)) (G4.out.row (by have := HY.out; omega))
              rw [show (X == X) = true by simp] at hs1
              rw [show (Y == Y) = true by simp] at hs2
              have HS1 := Lib.hid hs1
              have HS2 := Lib.hid hs2
              clear ha hb hs1 hs2
              go_wp2_with fail
              refine HS1.out.mono ?_
              rintro e w' ⟨rfl, rfl⟩
              go_wp2_with fail
              refine HS2.out.mono ?_
              rintro e w' ⟨rfl, rfl⟩
              go_wp2
              go_roundg gk
              case measure => omega
              case rel => exact ⟨j + 1, by omega, by go_num, D4, E4, B4⟩
            | zero =>
              obtain rfl : j = 8 := by omega
              go_wp2_with fail
              refine (looses_ok HDr.out).mono ?_
              rintro e v1 ⟨V, rfl, ho, hb⟩
              obtain ⟨A, capA, rfl, hrow, _, _⟩ := rowI_of_own ho (by have := idx_len (fun c => c.v != c.p) s.1 0; have := HS8.out; unfold looseL; omega)
              have R1 := Lib.hid hrow
              have D1 := Lib.hid (HDr.out.below hb)
              have E1 := Lib.hid (HEr.out.below hb)
              have B1 := Lib.hid (HBr.out.trans (hb.mono HBr.out.size))
              clear ho hb hrow
              go_wp2_with fail
              refine (looses_ok E1.out).mono ?_
              rintro e v2 ⟨V, rfl, ho, hb⟩
              obtain ⟨A', capA', rfl, hrow, _, _⟩ := rowI_of_own ho (by have := idx_len (fun c => c.v != c.p) s.1 0; have := HS8.out; unfold looseL; omega)
              have D2 := Lib.hid (D1.out.below hb)
              have E2 := Lib.hid (E1.out.below hb)
              have B2 := Lib.hid (B1.out.trans (hb.mono B1.out.size))
              have S2 := Lib.hid (samei_any v2 A A' _ capA capA' (looseL s.1) rfl (R1.out.below hb) hrow)
              clear ho hb hrow
              go_wp2_with fail
              refine S2.out.mono ?_
              rintro e w' ⟨rfl, k5, rfl⟩
              have D3 := Lib.hid (D2.out.below (below_drewN (Below.refl _ _) k5))
              have E3 := Lib.hid (E2.out.below (below_drewN (Below.refl _ _) k5))
              have B3 := Lib.hid (below_drewN B2.out k5)
              go_wp2_with fail
              refine (ways_ok D3.out).mono ?_
              rintro e v4 ⟨V, rfl, ho, hb⟩
              obtain ⟨C, capC, rfl, hrow, _, _⟩ := rowI_of_own ho (by have := idx_len (fun c => c.on) s.1 0; have := HS8.out; unfold wayL; omega)
              have R4 := Lib.hid hrow
              have E4 := Lib.hid (E3.out.below hb)
              have B4 := Lib.hid (B3.out.trans (hb.mono B3.out.size))
              clear ho hb hrow
              go_wp2_with fail
              refine (ways_ok E4.out).mono ?_
              rintro e v5 ⟨V, rfl, ho, hb⟩
              obtain ⟨C', capC', rfl, hrow, _, _⟩ := rowI_of_own ho (by have := idx_len (fun c => c.on) s.1 0; have := HS8.out; unfold wayL; omega)
              have B5 := Lib.hid (B4.out.trans (hb.mono B4.out.size))
              have S5 := Lib.hid (samei_any v5 C C' _ capC capC' (wayL s.1) rfl (R4.out.below hb) hrow)
              clear ho hb hrow
              go_wp2_with fail
              refine S5.out.mono ?_
              rintro e w' ⟨rfl, k6, rfl⟩
              go_wp2_with fail
              refine (awake_any _).mono ?_
              rintro e v7 ⟨rfl, hb⟩
              go_wp2
              go_ret
              exact ⟨rfl, (below_drewN B5.out k6).trans (hb.mono (below_drewN B5.out k6).size)⟩

set_option maxRecDepth 100000 in
theorem lifted (os : Os) (started : os.Started) (H : Type) (enc : TypeId × Value → H) :
    ReturnsInHanded {} Try.checked os 7 .any (Rows.nvmCopiesSpec.pre6 enc Try.prog Try.f7 Rows.nvmCopiesRow.domain false) (Rows.nvmCopiesSpec.post enc Try.prog Try.f7 false true false false) := by
  refine returnsInHanded_of_change (C := Try.checked) own started (by kernel_rfl) Try.func7
    (ChangeSpec.witness6 (enc := enc) (C := Try.checked) false ⟨#[], #[.slice none 0 0, .slice none 0 0], []⟩ 8 (by kernel_rfl) (by kernel_rfl) (by kernel_rfl) (by kernel_rfl)) ?_
  intro W base args ds gs before hval0 hW hcnd _
  have hval : ∀ (j : Nat) t v, Try.f7.params[j]? = some t → args[j]? = some v → Value.okWide Try.prog W .any base t v := hval0
  have hW' := hW
  obtain ⟨p, q, hA0, hV, rfl, hfz, hnd⟩ := hW
  have hA : DataW.TrodAll enc Try.prog W 0 (fun _ => true) true Try.f7.params.toList args.toList ds p := hA0
  rw [Try.params7] at hA hval
  obtain ⟨v0, vs0, d0, ds0, p0, q0, hargs, rfl, rfl, h0, r0⟩ := trodAll_cons hA
  obtain ⟨v1, vs1, d1, ds1, p1, q1, rfl, rfl, rfl, h1, r1⟩ := trodAll_cons r0
  obtain ⟨rfl, rfl, rfl⟩ := trodAll_nil r1
  obtain rfl : args = #[v0, v1] := by cases args; simp_all
  obtain ⟨rfl, rfl⟩ := trodVars_none hV
  obtain ⟨a0, len0, cap0, rfl⟩ := okWide_slice Try.underlying22 (hval 0 22 v0 rfl rfl)
  have k0 := h0
  have lt0 : ∀ x ∈ p0, x.block < W.heap.size := by obtain ⟨m, hm⟩ := k0; exact DataW.trod_lt m _ _ _ hm
  obtain ⟨z0, w0⟩ : ∃ zs, IsActs W a0 len0 zs := by
    obtain ⟨fuel, hf⟩ := h0
    exact isActs_of hf
  obtain ⟨a1, len1, cap1, rfl⟩ := okWide_slice Try.underlying22 (hval 1 22 v1 rfl rfl)
  have k1 := h1
  have lt1 : ∀ x ∈ p1, x.block < W.heap.size := by obtain ⟨m, hm⟩ := k1; exact DataW.trod_lt m _ _ _ hm
  obtain ⟨z1, w1⟩ : ∃ zs, IsActs W a1 len1 zs := by
    obtain ⟨fuel, hf⟩ := h1
    exact isActs_of hf
  clear hA0 hval0
  refine (walk a0 len0 cap0 z0 a1 len1 cap1 z1 W w0 w1).mono fun e W' ⟨he, bel⟩ => ?_
  subst he
  exact ⟨_, rfl, _, _, _, [], _, [], hW', trodAll_mk1 (shut_bool Try.underlying4 _), (trodAll_cons_mk (Below.trod laidOut (by kernel_rfl) (of_decide_eq_true (by kernel_rfl)) k0 bel lt0) (trodAll_cons_mk (Below.trod laidOut (by kernel_rfl) (of_decide_eq_true (by kernel_rfl)) k1 bel lt1) trodAll_mk0)), rfl, bel.frame _, fun h => by cases h⟩

theorem over : Rows.nvmCopiesRow.holds Try.pinned (OpenSpec.ofChange Rows.nvmCopiesSpec) :=
  OpenClaim.holds_of_wide 7 Try.f7 rfl rfl rfl rfl rfl rfl rfl ⟨rfl, rfl, rfl, rfl, rfl⟩ rfl rfl rfl rfl rfl (by kernel_rfl) Try.func7 (by kernel_rfl)
    (of_decide_eq_true (by kernel_rfl)) (by unfold Func.isWrapper; first | (rw [if_pos (by decide +kernel)]; kernel_rfl) | (rw [if_neg (by decide +kernel)]; exact ⟨rfl, rfl⟩))
    (fun os started H enc _ => lifted os started H enc)

theorem proved : Rows.NvmCopiesSaid := over
#print axioms proved
end Go.Proofs.Ytgfbehdnmdmnhaa.nvmCopies
