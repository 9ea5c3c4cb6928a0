/-
  Proved here: for every two lists of acts and every number the law NvmKeeps returns true, and what came in reads as it did: what was flushed and then fenced stays in both copies, whatever is done behind it, cuts too, but a store to that line (longer lists: the law asks the chapter's example alone).
  Conditions: none beyond the given statement's.
-/
import Derived.Test.YtgfbehdnmdmnhaaRows
import Derived.Test.YtgfbehdnmdmnhaaNvmL
import Derived.IntWalk
import Derived.WalkSmall
import Derived.Deep.QuietTactic
import Derived.BigQuiet
import Derived.WalkKit
import Derived.ProofKit
import Derived.OpenShut
import Derived.ShutString
import Derived.ChangeOld
import Derived.Below
namespace Go.Proofs.Ytgfbehdnmdmnhaa.nvmKeeps
open Go.ChangeShapes Go.WideShapes Go.ChangeAt Go.RowKit
open Go.ChangeMaps (open_string shut_string)
set_option linter.unusedVariables false

theorem own : ownKnob Try.prog.godebug = none := by kernel_rfl
theorem laidOut : laidOutB Try.prog = true := by kernel_rfl

set_option maxHeartbeats 1600000 in
set_option maxRecDepth 100000 in
theorem walk (a0 : Option Addr) (len0 cap0 : Nat) (z0 : List ActV) (a1 : Int) (a2 : Option Addr) (len2 cap2 : Nat) (z2 : List ActV) (w : World) (w0 : IsActs w a0 len0 z0) (w1 : (Lit.int .i64 a1).wf = true) (w2 : IsActs w a2 len2 z2) :
    Calls Try.prog 4 #[.slice a0 len0 cap0, .int .i64 a1, .slice a2 len2 cap2] w fun e w' => e = .returned (.bool true) ∧ Below w.heap.size w w' := by
  have HLA := Lib.hid (large_any (cap := cap0) w0)
  have HLB := Lib.hid (fun k => large_any (cap := cap2) (w := w.drewN k) (w2.below (below_drewN (Below.refl _ _) k)))
  clear w1
  cases hlg : largeB len0 z0 with
  | true =>
    rw [hlg] at HLA
    clear w0 hlg w2 HLB
    go_enter Try.func4, Try.ntmps4
    go_wp2_with fail
    refine HLA.out.mono ?_
    rintro e w' ⟨rfl, k, rfl⟩
    go_wp2_with fail
    refine (awake_any _).mono ?_
    rintro e w' ⟨rfl, hb⟩
    go_wp2
    go_ret
    exact ⟨rfl, (below_drewN (Below.refl _ _) k).trans hb⟩
  | false =>
    rw [hlg] at HLA
    cases hlg2 : largeB len2 z2 with
    | true =>
      rw [hlg2] at HLB
      clear w0 hlg w2 hlg2
      go_enter Try.func4, Try.ntmps4
      go_wp2_with fail
      refine HLA.out.mono ?_
      rintro e w' ⟨rfl, k, rfl⟩
      go_wp2_with fail
      refine (HLB.out k).mono ?_
      rintro e w' ⟨rfl, k2, rfl⟩
      go_wp2_with fail
      refine (awake_any _).mono ?_
      rintro e w' ⟨rfl, hb⟩
      go_wp2
      go_ret
      exact ⟨rfl, (below_drewN (Below.refl _ _) (k + k2)).trans hb⟩
    | false =>
      rw [hlg2] at HLB
      have HSO := Lib.hid (fun W (hW : Below w.heap.size w W) => some_any (cap := cap0) (w := W) (w0.below hW) hlg)
      obtain ⟨h80, hbig⟩ := largeB_false hlg2
      have HBIG := Lib.hid hbig
      have HA2 := Lib.hid w2
      have hs8 := s8_len z0
      generalize s8.playAll z0 = s at *
      have hkl := low_lt a1 (n := 8) (by omega)
      have HLOW : Hid (∀ w, Calls Try.prog 18 #[.int .i64 a1, .int .i64 8] w fun e w' => e = .returned (.int .i64 (low a1 8 : Nat)) ∧ w = w') := fun w => low_any a1 8 w (by omega) (by omega)
      generalize low a1 8 = k at *
      have HS8 := Lib.hid hs8
      have HHAS : Hid (err (has s.1 (k : Int)) = 0) := by show _ = _; rw [has_nat (by omega)]; rfl
      have HL1 : Hid ((s.flush (k : Int)).1.length = 8) := (St.flush_len _ _).trans hs8
      have HL2 : Hid ((s.flush (k : Int)).fence.1.length = 8) := (St.fence_len _).trans HL1.out
      have HKE := Lib.hid (flushed_kept s k (by omega))
      clear w0 hlg w2 hlg2 hs8 hbig
      go_enter Try.func4, Try.ntmps4
      go_wp2_with fail
      refine HLA.out.mono ?_
      rintro e w' ⟨rfl, kk, rfl⟩
      go_wp2_with fail
      refine (HLB.out kk).mono ?_
      rintro e w' ⟨rfl, k2, rfl⟩
      go_wp2_with fail
      refine (HLOW.out _).mono ?_
      rintro e w' ⟨rfl, rfl⟩
      go_wp2_with fail
      refine (HSO.out _ (below_drewN (Below.refl _ _) (kk + k2))).mono ?_
      rintro e w1 ⟨p, q, rfl, hp, hq, hd, hb⟩
      have HD1 := Lib.hid hd
      have HB1 : Hid (Below w.heap.size w w1) := (below_drewN (Below.refl _ _) (kk + k2)).trans hb
      have HP : Hid (w.heap.size ≤ p) := hp
      have HQ : Hid (w.heap.size ≤ q) := hq
      clear hd hb hp hq
      go_wp2_with fail
      refine (flush_any HD1.out (k : Int)).mono ?_
      rintro e w2 ⟨rfl, hd, ht⟩
      rw [HHAS.out]
      have HD2 := Lib.hid hd
      have HB2 := Lib.hid (HB1.out.trans (ht.below HP.out HQ.out HB1.out.size))
      clear hd ht
      go_wp2_with fail
      refine (load_at HD2.out k (by rw [HL1.out]; exact hkl)).mono ?_
      rintro e w3 ⟨g3, rfl, hg3, ha, hb⟩
      have HA3 := Lib.hid ha
      have HD3 := Lib.hid (HD2.out.below hb)
      have HB3 := Lib.hid (HB2.out.trans (hb.mono HB2.out.size))
      have HG3 : Hid (g3 ≠ p ∧ g3 ≠ q) := by have h1 := HD2.out.lt_p; have h2 := HD2.out.lt_q; show _ ∧ _; omega
      have HLv := Lib.hid (clAt_ok HD2.out k (by rw [HL1.out]; exact hkl)).1
      clear ha hb hg3
      generalize (clAt (s.flush (k : Int)).1 (k : Int)).v = X at *
      go_wp2_with fail
      refine (fence_any HD3.out).mono ?_
      rintro e w4 ⟨rfl, hd, ht⟩
      have HD4 := Lib.hid hd
      have HA4 := Lib.hid (HA3.out.turns ht HG3.out.1 HG3.out.2)
      have HB4 := Lib.hid (HB3.out.trans (ht.below HP.out HQ.out HB3.out.size))
      clear hd ht
      generalize (s.flush (k : Int)).fence = s1 at *
      go_wp2
      go_loopg [11] len2 (fun gk s11 wx => ∃ (i : Nat) (t : St), i + gk = len2 ∧ s11 = .int .i64 i ∧ Hid (t.1.length = 8) ∧ Hid (Kept X (clAt t.1 (k : Int))) ∧ Hid (DvS wx p q t) ∧ Hid (Arr 77 wx g3 X) ∧ Hid (Below w.heap.size w wx))
      case atStart => exact ⟨0, s1, by omega, rfl, HL2, HKE, HD4, HA4, HB4⟩
      case round =>
        obtain ⟨i, t, hig, rfl, HLT, HKT, HDr, HAr, HBr⟩ := hrel
        cases gk with
        | zero =>
          obtain rfl : i = len2 := by omega
          have hii : ¬ (i : Int) < (i : Int) := by omega
          go_wp2_with fail
          refine (awake_any _).mono ?_
          rintro e w9 ⟨rfl, hb9⟩
          go_wp2
          go_ret
          exact ⟨rfl, HBr.out.trans (hb9.mono HBr.out.size)⟩
        | succ gk =>
          have hii : (i : Int) < (len2 : Int) := by omega
          obtain ⟨x, b, off, hx, rfl, hb, hok, hc⟩ := HA2.out.at_ (i := i) (by omega)
          have hxn := HBIG.out x (List.mem_of_getElem? hx)
          have HPL := Lib.hid (play_any HDr.out x hok hxn.1 hxn.2 HBr.out HP.out HQ.out)
          have c0 : wr.cell? ⟨b, off + i * 5, none⟩ = some (.int .i64 x.kd) := (HBr.out.cell (p := ⟨b, off + i * 5, none⟩) hb).trans (hc 0 _ rfl)
          have c1 : wr.cell? ⟨b, off + i * 5 + 1, none⟩ = some (.int .i64 x.line) := (HBr.out.cell (p := ⟨b, off + i * 5 + 1, none⟩) hb).trans (hc 1 _ rfl)
          have HRG : Hid (wr.rangeAt b (off + i * 5) x.cells) := fun j v hv => (HBr.out.cell (p := ⟨b, off + i * 5 + j, none⟩) hb).trans (hc j v hv)
          have HLC : Hid (x.cells.length = 5) := rfl
          have HPK := Lib.hid (fun h => play_kept (X := X) (s := t) (k := k) x (by have := HLT.out; omega) HKT.out h)
          have HPN : Hid ((t.play x).1.length = 8) := (St.play_len _ _).trans HLT.out
          generalize x.cells = C at *
          generalize t.play x = t1 at *
          clear hc hx hok hxn hb
          rcases Classical.em (x.kd = 0 ∧ x.line = (k : Int)) with hsk | hsk
          · obtain ⟨e1, e2⟩ := hsk
            rw [e1] at c0
            rw [e2] at c1
            have hkk : ((k : Int) == (k : Int)) = true := by simp
            clear e1 e2
            go_wp2
            go_roundg gk
            case measure => omega
            case rel => exact ⟨i + 1, t, by omega, by go_num, HLT, HKT, HDr, HAr, HBr⟩
          · have HKT1 := Lib.hid (HPK.out hsk)
            have hv : (clAt t1.1 (k : Int)).v = X := HKT1.out.1
            have hpp : (clAt t1.1 (k : Int)).p = X := HKT1.out.2.1
            have HVV := Lib.hid hv
            have HPP := Lib.hid hpp
            clear hv hpp
            rcases Classical.em (x.kd = 0) with hk0 | hk0
            · have hl0 : (x.line == (k : Int)) = false := by simp; exact fun h => hsk ⟨hk0, h⟩
              rw [hk0] at c0
              generalize x.line = ln at *
              clear hsk hk0
              go_wp2_with (first
                | ((with_reducible show wpList _ _ _ (⟨some 74, _, _, _, _, _⟩ :: _) _ _); refine wpList_load_agg (o := ⟨some 74, _, _, _, _, _⟩) rfl 36 (.tmp 73) rfl b (off + i * 5) rfl C _ HRG.out Try.underlying36 rfl (by rw [HLC.out]; exact size_act) ?_)
                | ((with_reducible show Calls _ 23 _ _ _); refine HPL.out.mono ?_; rintro e w2 ⟨rfl, hd2, ht2⟩; have HD5 := Lib.hid hd2; have HA5 := Lib.hid (HAr.out.turns ht2 HG3.out.1 HG3.out.2); have HB5 := Lib.hid (HBr.out.trans (ht2.below HP.out HQ.out HBr.out.size)); clear hd2 ht2)
                | ((with_reducible show Calls _ 24 _ _ _); refine (durable_at HD5.out k (by rw [HPN.out]; exact hkl)).mono ?_; rintro e w6 ⟨g6, rfl, _, ha, hb⟩; rw [HPP.out] at ha; have HC6 := Lib.hid ha; have HA6 := Lib.hid (HA5.out.below hb HA5.out.lt); have HD6 := Lib.hid (HD5.out.below hb); have HB6 := Lib.hid (HB5.out.trans (hb.mono HB5.out.size)); clear ha hb)
                | ((with_reducible show Calls _ 21 _ _ _); refine (load_at HD6.out k (by rw [HPN.out]; exact hkl)).mono ?_; rintro e w7 ⟨g7, rfl, _, ha, hb⟩; rw [HVV.out] at ha; have HE7 := Lib.hid ha; have HC7 := Lib.hid (HC6.out.below hb HC6.out.lt); have HA7 := Lib.hid (HA6.out.below hb HA6.out.lt); have HD7 := Lib.hid (HD6.out.below hb); have HB7 := Lib.hid (HB6.out.trans (hb.mono HB6.out.size)); clear ha hb))
              have hs1 := same_any w7 (some ⟨g6, 0, none⟩) (some ⟨g3, 0, none⟩) 64 64 64 64 X X HLv.out HLv.out (HC7.out.row (by have := HLv.out; omega)) (HA7.out.row (by have := HLv.out; omega))
              have hs2 := same_any w7 (some ⟨g7, 0, none⟩) (some ⟨g3, 0, none⟩) 64 64 64 64 X X HLv.out HLv.out (HE7.out.row (by have := HLv.out; omega)) (HA7.out.row (by have := HLv.out; omega))
              rw [show (X == X) = true by simp] at hs1 hs2
              have HS1 := Lib.hid hs1
              have HS2 := Lib.hid hs2
              clear hs1 hs2
              refine HS1.out.mono ?_
              rintro e w' ⟨rfl, rfl⟩
              go_wp2_with fail
              refine HS2.out.mono ?_
              rintro e w' ⟨rfl, rfl⟩
              go_wp2
              go_roundg gk
              case measure => omega
              case rel => exact ⟨i + 1, t1, by omega, by go_num, HPN, HKT1, HD7, HA7, HB7⟩
            · have hk1 : (x.kd == 0) = false := by simpa using hk0
              generalize x.kd = kd at *
              clear hsk hk0
              go_wp2_with (first
                | ((with_reducible show wpList _ _ _ (⟨some 74, _, _, _, _, _⟩ :: _) _ _); refine wpList_load_agg (o := ⟨some 74, _, _, _, _, _⟩) rfl 36 (.tmp 73) rfl b (off + i * 5) rfl C _ HRG.out Try.underlying36 rfl (by rw [HLC.out]; exact size_act) ?_)
                | ((with_reducible show Calls _ 23 _ _ _); refine HPL.out.mono ?_; rintro e w2 ⟨rfl, hd2, ht2⟩; have HD5 := Lib.hid hd2; have HA5 := Lib.hid (HAr.out.turns ht2 HG3.out.1 HG3.out.2); have HB5 := Lib.hid (HBr.out.trans (ht2.below HP.out HQ.out HBr.out.size)); clear hd2 ht2)
                | ((with_reducible show Calls _ 24 _ _ _); refine (durable_at HD5.out k (by rw [HPN.out]; exact hkl)).mono ?_; rintro e w6 ⟨g6, rfl, _, ha, hb⟩; rw [HPP.out] at ha; have HC6 := Lib.hid ha; have HA6 := Lib.hid (HA5.out.below hb HA5.out.lt); have HD6 := Lib.hid (HD5.out.below hb); have HB6 := Lib.hid (HB5.out.trans (hb.mono HB5.out.size)); clear ha hb)
                | ((with_reducible show Calls _ 21 _ _ _); refine (load_at HD6.out k (by rw [HPN.out]; exact hkl)).mono ?_; rintro e w7 ⟨g7, rfl, _, ha, hb⟩; rw [HVV.out] at ha; have HE7 := Lib.hid ha; have HC7 := Lib.hid (HC6.out.below hb HC6.out.lt); have HA7 := Lib.hid (HA6.out.below hb HA6.out.lt); have HD7 := Lib.hid (HD6.out.below hb); have HB7 := Lib.hid (HB6.out.trans (hb.mono HB6.out.size)); clear ha hb))
              have hs1 := same_any w7 (some ⟨g6, 0, none⟩) (some ⟨g3, 0, none⟩) 64 64 64 64 X X HLv.out HLv.out (HC7.out.row (by have := HLv.out; omega)) (HA7.out.row (by have := HLv.out; omega))
              have hs2 := same_any w7 (some ⟨g7, 0, none⟩) (some ⟨g3, 0, none⟩) 64 64 64 64 X X HLv.out HLv.out (HE7.out.row (by have := HLv.out; omega)) (HA7.out.row (by have := HLv.out; omega))
              rw [show (X == X) = true by simp] at hs1 hs2
              have HS1 := Lib.hid hs1
              have HS2 := Lib.hid hs2
              clear hs1 hs2
              refine HS1.out.mono ?_
              rintro e w' ⟨rfl, rfl⟩
              go_wp2_with fail
              refine HS2.out.mono ?_
              rintro e w' ⟨rfl, rfl⟩
              go_wp2
              go_roundg gk
              case measure => omega
              case rel => exact ⟨i + 1, t1, by omega, by go_num, HPN, HKT1, HD7, HA7, HB7⟩

set_option maxRecDepth 100000 in
theorem lifted (os : Os) (started : os.Started) (H : Type) (enc : TypeId × Value → H) :
    ReturnsInHanded {} Try.checked os 4 .any (Rows.nvmKeepsSpec.pre6 enc Try.prog Try.f4 Rows.nvmKeepsRow.domain false) (Rows.nvmKeepsSpec.post enc Try.prog Try.f4 false true false false) := by
  refine returnsInHanded_of_change (C := Try.checked) own started (by kernel_rfl) Try.func4
    (ChangeSpec.witness6 (enc := enc) (C := Try.checked) false ⟨#[], #[.slice none 0 0, .int .i64 0, .slice none 0 0], []⟩ 8 (by kernel_rfl) (by kernel_rfl) (by kernel_rfl) (by kernel_rfl)) ?_
  intro W base args ds gs before hval0 hW hcnd _
  have hval : ∀ (j : Nat) t v, Try.f4.params[j]? = some t → args[j]? = some v → Value.okWide Try.prog W .any base t v := hval0
  have hW' := hW
  obtain ⟨p, q, hA0, hV, rfl, hfz, hnd⟩ := hW
  have hA : DataW.TrodAll enc Try.prog W 0 (fun _ => true) true Try.f4.params.toList args.toList ds p := hA0
  rw [Try.params4] at hA hval
  obtain ⟨v0, vs0, d0, ds0, p0, q0, hargs, rfl, rfl, h0, r0⟩ := trodAll_cons hA
  obtain ⟨v1, vs1, d1, ds1, p1, q1, rfl, rfl, rfl, h1, r1⟩ := trodAll_cons r0
  obtain ⟨v2, vs2, d2, ds2, p2, q2, rfl, rfl, rfl, h2, r2⟩ := trodAll_cons r1
  obtain ⟨rfl, rfl, rfl⟩ := trodAll_nil r2
  obtain rfl : args = #[v0, v1, v2] := by cases args; simp_all
  obtain ⟨rfl, rfl⟩ := trodVars_none hV
  obtain ⟨a0, len0, cap0, rfl⟩ := okWide_slice Try.underlying22 (hval 0 22 v0 rfl rfl)
  have k0 := h0
  have lt0 : ∀ x ∈ p0, x.block < W.heap.size := by obtain ⟨m, hm⟩ := k0; exact DataW.trod_lt m _ _ _ hm
  obtain ⟨z0, w0⟩ : ∃ zs, IsActs W a0 len0 zs := by
    obtain ⟨fuel, hf⟩ := h0
    exact isActs_of hf
  obtain ⟨a1, rfl, rfl, rfl, w1⟩ := open_int Try.underlying3 (hval 1 3 v1 rfl rfl) h1
  obtain ⟨a2, len2, cap2, rfl⟩ := okWide_slice Try.underlying22 (hval 2 22 v2 rfl rfl)
  have k2 := h2
  have lt2 : ∀ x ∈ p2, x.block < W.heap.size := by obtain ⟨m, hm⟩ := k2; exact DataW.trod_lt m _ _ _ hm
  obtain ⟨z2, w2⟩ : ∃ zs, IsActs W a2 len2 zs := by
    obtain ⟨fuel, hf⟩ := h2
    exact isActs_of hf
  clear hA0 hval0
  refine (walk a0 len0 cap0 z0 a1 a2 len2 cap2 z2 W w0 w1 w2).mono fun e W' ⟨he, bel⟩ => ?_
  subst he
  exact ⟨_, rfl, _, _, _, [], _, [], hW', trodAll_mk1 (shut_bool Try.underlying4 _), (trodAll_cons_mk (Below.trod laidOut (by kernel_rfl) (of_decide_eq_true (by kernel_rfl)) k0 bel lt0) (trodAll_cons_mk (shut_int Try.underlying3 w1) (trodAll_cons_mk (Below.trod laidOut (by kernel_rfl) (of_decide_eq_true (by kernel_rfl)) k2 bel lt2) trodAll_mk0))), rfl, bel.frame _, fun h => by cases h⟩

theorem over : Rows.nvmKeepsRow.holds Try.pinned (OpenSpec.ofChange Rows.nvmKeepsSpec) :=
  OpenClaim.holds_of_wide 4 Try.f4 rfl rfl rfl rfl rfl rfl rfl ⟨rfl, rfl, rfl, rfl, rfl⟩ rfl rfl rfl rfl rfl (by kernel_rfl) Try.func4 (by kernel_rfl)
    (of_decide_eq_true (by kernel_rfl)) (by unfold Func.isWrapper; first | (rw [if_pos (by decide +kernel)]; kernel_rfl) | (rw [if_neg (by decide +kernel)]; exact ⟨rfl, rfl⟩))
    (fun os started H enc _ => lifted os started H enc)

theorem proved : Rows.NvmKeepsSaid := over
#print axioms proved
end Go.Proofs.Ytgfbehdnmdmnhaa.nvmKeeps
