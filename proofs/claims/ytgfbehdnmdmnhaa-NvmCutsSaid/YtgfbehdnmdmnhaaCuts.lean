/-
  Proved here: for every list of acts and every list of numbers the law NvmCuts returns true, and what came in reads as it did: behind a cut each line has its volatile bytes, if it was kept, else its persistent ones, in both copies, and nothing is loose or on its way (longer lists: the law asks the chapter's example alone).
  Conditions: none beyond the given statement's.
-/
import Derived.Test.YtgfbehdnmdmnhaaRows
import Derived.Test.YtgfbehdnmdmnhaaNvmM
import Derived.IntWalk
import Derived.WalkSmall
import Derived.Deep.QuietTactic
import Derived.BigQuiet
import Derived.WalkKit
import Derived.ProofKit
import Derived.OpenShut
import Derived.ShutString
import Derived.ChangeOld
import Derived.Below
namespace Go.Proofs.Ytgfbehdnmdmnhaa.nvmCuts
open Go.ChangeShapes Go.WideShapes Go.ChangeAt Go.RowKit
open Go.ChangeMaps (open_string shut_string)
set_option linter.unusedVariables false

theorem own : ownKnob Try.prog.godebug = none := by kernel_rfl
theorem laidOut : laidOutB Try.prog = true := by kernel_rfl

set_option maxHeartbeats 1600000 in
set_option maxRecDepth 100000 in
theorem walk (a0 : Option Addr) (len0 cap0 : Nat) (z0 : List ActV) (a1 : Option Addr) (len1 cap1 : Nat) (z1 : List Int) (w : World) (w0 : IsActs w a0 len0 z0) (w1 : IsRow .i64 w a1 len1 cap1 z1) :
    Calls Try.prog 5 #[.slice a0 len0 cap0, .slice a1 len1 cap1] w fun e w' => e = .returned (.bool true) ∧ Below w.heap.size w w' := by
  have HLA := Lib.hid (large_any (cap := cap0) w0)
  cases hlg : largeB len0 z0 with
  | true =>
    rw [hlg] at HLA
    clear w0 hlg w1
    go_enter Try.func5, Try.ntmps5
    go_wp2_with fail
    refine HLA.out.mono ?_
    rintro e w' ⟨rfl, k, rfl⟩
    go_wp2_with fail
    refine (awake_any _).mono ?_
    rintro e w' ⟨rfl, hb⟩
    go_wp2
    go_ret
    exact ⟨rfl, (below_drewN (Below.refl _ _) k).trans hb⟩
  | false =>
    rw [hlg] at HLA
    rcases Nat.lt_or_ge 100 len1 with h100 | h100
    · have h101 : (100 : Int) < (len1 : Int) := by omega
      clear w0 hlg w1 h100
      go_enter Try.func5, Try.ntmps5
      go_wp2_with fail
      refine HLA.out.mono ?_
      rintro e w' ⟨rfl, k, rfl⟩
      go_wp2_with fail
      refine (awake_any _).mono ?_
      rintro e w' ⟨rfl, hb⟩
      go_wp2
      go_ret
      exact ⟨rfl, (below_drewN (Below.refl _ _) k).trans hb⟩
    · have h101 : ¬ (100 : Int) < (len1 : Int) := by omega
      have HSO := Lib.hid (fun k => some_any (cap := cap0) (w := w.drewN k) (w0.below (below_drewN (Below.refl _ _) k)) hlg)
      obtain ⟨keep, hkl, hrow, hk0⟩ := w1.rowI (by omega)
      have hs8 := s8_len z0
      generalize s8.playAll z0 = s at *
      have HS8 := Lib.hid hs8
      have HROW := Lib.hid hrow
      have HKL := Lib.hid hkl
      clear w0 hlg w1 hrow hk0 hkl hs8
      go_enter Try.func5, Try.ntmps5
      go_wp2_with fail
      refine HLA.out.mono ?_
      rintro e w' ⟨rfl, kk, rfl⟩
      go_wp2_with fail
      refine (HSO.out kk).mono ?_
      rintro e w1 ⟨p, q, rfl, hp, hq, hd, hb⟩
      have HD1 := Lib.hid hd
      have HB1 : Hid (Below w.heap.size w w1) := (below_drewN (Below.refl _ _) kk).trans hb
      have HP : Hid (w.heap.size ≤ p) := hp
      have HQ : Hid (w.heap.size ≤ q) := hq
      obtain ⟨B, hB⟩ : ∃ B, w1.heap.size = B := ⟨_, rfl⟩
      have HBB := Lib.hid hB
      have HPB : Hid (p < B) := hB ▸ hd.lt_p
      have HQB : Hid (q < B) := hB ▸ hd.lt_q
      clear hd hb hp hq hB
      go_wp2
      go_loopg [6, 7] 8 (fun gk s6 s7 wx => ∃ (i : Nat) (V : Value) (G : List Nat), i + gk = 8 ∧ s7 = .int .i64 i ∧ V = s6 ∧ Hid (G.length = i) ∧ Hid (wx.ownsRow B 33 1 V (G.map sl64).length (G.map sl64)) ∧ Hid (Wants 77 B wx s keep G) ∧ Hid (DvS wx p q s) ∧ Hid (Below w.heap.size w wx) ∧ Hid (B ≤ wx.heap.size))
      case atStart => exact ⟨0, _, [], by omega, rfl, rfl, rfl, World.ownsRow_nil _ _ _ _, Wants.nil _ _ _ _ _, HD1, HB1, Nat.le_of_eq HBB.out.symm⟩
      case round =>
        obtain ⟨i, V, G, hig, rfl, rfl, HGL, HOW, HWN, HDr, HBr, HSZ⟩ := hrel
        cases gk with
        | succ go =>
          have hii : (i : Int) < 8 := by omega
          have HI : Hid (i < s.1.length) := by have := HS8.out; show _ < _; omega
          have HOK := Lib.hid (clAt_ok HDr.out i HI.out)
          go_wp2_with fail
          refine (load_at HDr.out i HI.out).mono ?_
          rintro e v1 ⟨g1, rfl, hg1, ha, hb⟩
          have A1 := Lib.hid ha
          have D1 := Lib.hid (HDr.out.below hb)
          have B1 := Lib.hid (HBr.out.trans (hb.mono HBr.out.size))
          have O1 := Lib.hid (own_below HOW.out hb HPB.out HQB.out)
          have W1 := Lib.hid (HWN.out.below hb)
          have Z1 : Hid (B ≤ v1.heap.size) := Nat.le_trans HSZ.out hb.size
          have G1 : Hid (B ≤ g1) := Nat.le_trans HSZ.out hg1
          clear ha hb hg1
          go_wp2_with fail
          refine (durable_at D1.out i HI.out).mono ?_
          rintro e v2 ⟨g2, rfl, hg2, ha, hb⟩
          have A2 := Lib.hid (A1.out.below hb A1.out.lt)
          have C2 := Lib.hid ha
          have D2 := Lib.hid (D1.out.below hb)
          have B2 := Lib.hid (B1.out.trans (hb.mono B1.out.size))
          have O2 := Lib.hid (own_below O1.out hb HPB.out HQB.out)
          have W2 := Lib.hid (W1.out.below hb)
          have Z2 : Hid (B ≤ v2.heap.size) := Nat.le_trans Z1.out hb.size
          have G2 : Hid (B ≤ g2) := Nat.le_trans Z1.out hg2
          clear ha hb hg2 HOW HWN HDr HBr HSZ A1 D1 B1 O1 W1 Z1
          go_wp2
          go_loopg [12, 13] len1 (fun gj s12 s13 wx => ∃ (k gx : Nat), k + gj = len1 ∧ s13 = .int .i64 k ∧ s12 = .slice (some ⟨gx, 0, none⟩) 64 64 ∧ Hid (gx = if (keep.take k).any (· == (i : Int)) then g1 else g2) ∧ v2 = wx)
          case atStart => exact ⟨0, g2, by omega, rfl, rfl, rfl, rfl⟩
          case round =>
            obtain ⟨k, gx, hkg, rfl, rfl, HGX, rfl⟩ := hrel
            cases gk with
            | succ gj =>
              have hkk : (k : Int) < (len1 : Int) := by omega
              obtain ⟨bb, oo, rfl, _, hcl⟩ := HROW.out.at_ (j := k) (by have := HKL.out; omega)
              have hcell := hcl v2 B2.out
              have HTK := Lib.hid (any_take keep k (i : Int) (by have := HKL.out; omega))
              generalize keep.getD k 0 = x at *
              clear hcl
              cases hx : (x == (i : Int)) with
              | true =>
                have HG3 : Hid (g1 = if (keep.take (k + 1)).any (· == (i : Int)) then g1 else g2) := by show _ = _; rw [HTK.out, hx, Bool.or_true, if_pos rfl]
                go_wp2
                go_roundg gj
                case measure => omega
                case rel => exact ⟨k + 1, g1, by omega, by go_num, rfl, HG3, rfl⟩
              | false =>
                have HG3 : Hid (gx = if (keep.take (k + 1)).any (· == (i : Int)) then g1 else g2) := by show _ = _; rw [HTK.out, hx, Bool.or_false]; exact HGX.out
                go_wp2
                go_roundg gj
                case measure => omega
                case rel => exact ⟨k + 1, gx, by omega, by go_num, rfl, HG3, rfl⟩
            | zero =>
              obtain rfl : k = len1 := by omega
              have hkk : ¬ (k : Int) < (k : Int) := by omega
              have HGA : Hid (Arr 77 v2 gx (wantL s keep G.length) ∧ B ≤ gx) := by
                have h1 := HGX.out
                rw [List.take_of_length_le (by have := HKL.out; omega)] at h1
                rw [HGL.out, wantL]
                show _ ∧ _
                cases hany : keep.any (· == (i : Int)) with
                | true =>
                  rw [hany, if_pos rfl] at h1
                  subst h1
                  rw [if_pos rfl]
                  exact ⟨A2.out, G1.out⟩
                | false =>
                  rw [hany, if_neg (by simp)] at h1
                  subst h1
                  rw [if_neg (by simp)]
                  exact ⟨C2.out, G2.out⟩
              obtain ⟨V', v3, hrun, hown, hb, hoth⟩ := run_appS_one v2 B V (G.map sl64) (sl64 gx) rfl O2.out (by rw [List.length_map, HGL.out]; omega) Z2.out
              have HRUN : Hid (Sem.run Try.prog (Builtin.append_ #[50, 50] 50 #[V, .slice (some ⟨v2.heap.size, 0, none⟩) 1 1]) (v2.alloc (.cells #[.slice (some ⟨gx, 0, none⟩) 64 64] 33)) = .ok V' v3) := hrun
              have O3 : Hid (v3.ownsRow B 33 1 V' ((G ++ [gx]).map sl64).length ((G ++ [gx]).map sl64)) := by
                show World.ownsRow _ _ _ _ _ _ _
                rw [List.map_append, List.length_append]
                exact hown
              have hw3 := ((W2.out.snoc HGA.out.1 HGA.out.2).grown O2.out (by decide) hoth)
              have W3 := Lib.hid hw3
              have D3 := Lib.hid (D2.out.same (hb.block p HPB.out) (hb.block q HQB.out))
              have B3 : Hid (Below w.heap.size w v3) := B2.out.trans (hb.mono (by have := HBB.out; have := HB1.out.size; omega))
              have Z3 : Hid (B ≤ v3.heap.size) := Nat.le_trans Z2.out hb.size
              have L3 : Hid ((G ++ [gx]).length = i + 1) := by show _ = _; rw [List.length_append, HGL.out]; rfl
              clear hrun hown hb hoth hw3
              go_wp2_with (at_builtin; refine wpList_app rfl (.tmp 63) (.tmp 65) 50 rfl rfl rfl HRUN.out ?_)
              go_roundg go
              case measure => omega
              case rel => exact ⟨i + 1, V', G ++ [gx], by omega, by go_num, rfl, L3, O3, W3, D3, B3, Z3⟩
        | zero =>
          obtain rfl : i = 8 := by omega
          have hne : 0 < keep.length → ∀ x, a1 = some x → x.block ≠ p ∧ x.block ≠ q := by
            intro hl x hx
            obtain ⟨bb, o, e, hlt, _⟩ := HROW.out.2 hl
            rw [e] at hx
            cases hx
            have h1 := HP.out
            have h2 := HQ.out
            constructor <;> show bb ≠ _ <;> omega
          have HCUT := Lib.hid (cut_any HDr.out a1 len1 cap1 keep HKL.out (HROW.out.below HBr.out) hne)
          have hlw : (G.map sl64).length = 8 := by rw [List.length_map, HGL.out]
          have HOW8 := HOW.out
          rw [hlw] at HOW8
          obtain ⟨gw, capw, rfl, _, _⟩ := HOW8.form (by omega)
          have HO8 := Lib.hid HOW8
          have HLO := Lib.hid (cut_loose (keepAll s.1 keep))
          have HLW := Lib.hid (cut_way (keepAll s.1 keep))
          have HLL : Hid ((looseL (keepAll s.1 keep)).length ≤ 8) := by show _ ≤ _; have := idx_len (fun c => c.v != c.p) (keepAll s.1 keep) 0; rw [keepAll_len, HS8.out] at this; exact this
          have HWT := Lib.hid (fun k hk => cut_want s keep k hk)
          have HSC : Hid (s.cut keep = ((keepAll s.1 keep).map Cl.cut, bump s.2 4)) := rfl
          have HCL : Hid ((s.cut keep).1.length = 8) := (St.cut_len _ _).trans HS8.out
          clear hne hlw HOW8 HOW
          go_wp2_with fail
          refine HCUT.out.mono ?_
          rintro e v1 ⟨V1, rfl, ho, hd, ht⟩
          obtain ⟨AL, capL, rfl, _, _, _⟩ := rowI_of_own ho (by have := HLL.out; omega)
          have D1 := Lib.hid hd
          have B1 := Lib.hid (HBr.out.trans (ht.below HP.out HQ.out HBr.out.size))
          have O1 := Lib.hid (own_turns HO8.out ht HPB.out HQB.out)
          have W1 := Lib.hid (HWN.out.turns ht HPB.out HQB.out)
          have hll := HLL.out
          generalize (looseL (keepAll s.1 keep)).length = nl at *
          have hll8 : ¬ (8 : Int) < (nl : Int) := by omega
          clear ho hd ht HO8 HWN HDr HBr HSZ HCUT HLL
          go_wp2_with fail
          refine (looses_ok D1.out).mono ?_
          rintro e v2 ⟨V2, rfl, ho, hb⟩
          rw [HSC.out, HLO.out] at ho
          obtain ⟨A2, cap2, rfl, _, _, _⟩ := rowI_of_own ho (by simp)
          have D2 := Lib.hid (D1.out.below hb)
          have B2 := Lib.hid (B1.out.trans (hb.mono B1.out.size))
          have O2 := Lib.hid (own_below O1.out hb HPB.out HQB.out)
          have W2 := Lib.hid (W1.out.below hb)
          clear ho hb
          rw [show ([] : List Int).length = 0 from rfl]
          go_wp2_with fail
          refine (ways_ok D2.out).mono ?_
          rintro e v3 ⟨V3, rfl, ho, hb⟩
          rw [HSC.out, HLW.out] at ho
          obtain ⟨A3, cap3, rfl, _, _, _⟩ := rowI_of_own ho (by simp)
          have D3 := Lib.hid (D2.out.below hb)
          have B3 := Lib.hid (B2.out.trans (hb.mono B2.out.size))
          have O3 := Lib.hid (own_below O2.out hb HPB.out HQB.out)
          have W3 := Lib.hid (W2.out.below hb)
          clear ho hb
          rw [show ([] : List Int).length = 0 from rfl]
          generalize s.cut keep = sc at *
          go_wp2
          go_loopg [16] 8 (fun gk s16 wx => ∃ (j : Nat), j + gk = 8 ∧ s16 = .int .i64 j ∧ Hid (DvS wx p q sc) ∧ Hid (Below w.heap.size w wx) ∧ Hid (wx.ownsRow B 33 1 (.slice (some ⟨gw, 0, none⟩) 8 capw) 8 (G.map sl64)) ∧ Hid (Wants 77 B wx s keep G))
          case atStart => exact ⟨0, by omega, rfl, D3, B3, O3, W3⟩
          case round =>
            obtain ⟨j, hjg, rfl, HDr, HBr, HOr, HWr⟩ := hrel
            cases gk with
            | zero =>
              obtain rfl : j = 8 := by omega
              go_wp2_with fail
              refine (awake_any _).mono ?_
              rintro e w9 ⟨rfl, hb9⟩
              go_wp2
              go_ret
              exact ⟨rfl, HBr.out.trans (hb9.mono HBr.out.size)⟩
            | succ gk =>
              have hjj : (j : Int) < 8 := by omega
              have hj8 : j < G.length := by have := HGL.out; omega
              have HJ : Hid (j < sc.1.length) := by have := HCL.out; show _ < _; omega
              have hwt := HWT.out j (by have := HS8.out; omega)
              have HOK := Lib.hid (clAt_ok HDr.out j HJ.out)
              have hX := (HWr.out j hj8)
              obtain ⟨X, hXX⟩ : ∃ X, wantL s keep j = X := ⟨_, rfl⟩
              obtain ⟨gj, hgj⟩ : ∃ gj, G.getD j 0 = gj := ⟨_, rfl⟩
              rw [hXX] at hwt hX
              have HV := Lib.hid hwt.1
              have HPp := Lib.hid hwt.2
              have HXL : Hid (X.length = 64) := hwt.1 ▸ HOK.out.1
              have HGJ : Hid ((G.map sl64)[j]? = some (sl64 gj)) := by show _ = _; rw [← hgj]; simp [List.getD, List.getElem?_eq_getElem hj8]
              rw [hgj] at hX
              have HAX := Lib.hid hX.1
              clear hX hwt hXX hgj hj8
              go_wp2_with fail
              refine (load_at HDr.out j HJ.out).mono ?_
              rintro e v5 ⟨g5, rfl, _, ha, hb⟩
              rw [HV.out] at ha
              have A5 := Lib.hid ha
              have X5 := Lib.hid (HAX.out.below hb HAX.out.lt)
              have D5 := Lib.hid (HDr.out.below hb)
              have B5 := Lib.hid (HBr.out.trans (hb.mono HBr.out.size))
              have O5 := Lib.hid (own_below HOr.out hb HPB.out HQB.out)
              have W5 := Lib.hid (HWr.out.below hb)
              clear ha hb
              go_wp2_with fail
              refine (durable_at D5.out j HJ.out).mono ?_
              rintro e v6 ⟨g6, rfl, _, ha, hb⟩
              rw [HPp.out] at ha
              have A6 := Lib.hid (A5.out.below hb A5.out.lt)
              have C6 := Lib.hid ha
              have X6 := Lib.hid (X5.out.below hb X5.out.lt)
              have D6 := Lib.hid (D5.out.below hb)
              have B6 := Lib.hid (B5.out.trans (hb.mono B5.out.size))
              have O6 := Lib.hid (own_below O5.out hb HPB.out HQB.out)
              have W6 := Lib.hid (W5.out.below hb)
              have hcell : v6.cell? ⟨gw, j, none⟩ = some (.slice (some ⟨gj, 0, none⟩) 64 64) := cell_of_form O6.out j _ HGJ.out
              have hs1 := same_any v6 (some ⟨g5, 0, none⟩) (some ⟨gj, 0, none⟩) 64 64 64 64 X X HXL.out HXL.out (A6.out.row (by have := HXL.out; omega)) (X6.out.row (by have := HXL.out; omega))
              have hs2 := same_any v6 (some ⟨g6, 0, none⟩) (some ⟨gj, 0, none⟩) 64 64 64 64 X X HXL.out HXL.out (C6.out.row (by have := HXL.out; omega)) (X6.out.row (by have := HXL.out; omega))
              rw [show (X == X) = true by simp] at hs1 hs2
              have HS1 := Lib.hid hs1
              have HS2 := Lib.hid hs2
              clear ha hb hs1 hs2
              go_wp2_with fail
              refine HS1.out.mono ?_
              rintro e w' ⟨rfl, rfl⟩
              go_wp2_with fail
              refine HS2.out.mono ?_
              rintro e w' ⟨rfl, rfl⟩
              go_wp2
              go_roundg gk
              case measure => omega
              case rel => exact ⟨j + 1, by omega, by go_num, D6, B6, O6, W6⟩

set_option maxRecDepth 100000 in
theorem lifted (os : Os) (started : os.Started) (H : Type) (enc : TypeId × Value → H) :
    ReturnsInHanded {} Try.checked os 5 .any (Rows.nvmCutsSpec.pre6 enc Try.prog Try.f5 Rows.nvmCutsRow.domain false) (Rows.nvmCutsSpec.post enc Try.prog Try.f5 false true false false) := by
  refine returnsInHanded_of_change (C := Try.checked) own started (by kernel_rfl) Try.func5
    (ChangeSpec.witness6 (enc := enc) (C := Try.checked) false ⟨#[], #[.slice none 0 0, .slice none 0 0], []⟩ 8 (by kernel_rfl) (by kernel_rfl) (by kernel_rfl) (by kernel_rfl)) ?_
  intro W base args ds gs before hval0 hW hcnd _
  have hval : ∀ (j : Nat) t v, Try.f5.params[j]? = some t → args[j]? = some v → Value.okWide Try.prog W .any base t v := hval0
  have hW' := hW
  obtain ⟨p, q, hA0, hV, rfl, hfz, hnd⟩ := hW
  have hA : DataW.TrodAll enc Try.prog W 0 (fun _ => true) true Try.f5.params.toList args.toList ds p := hA0
  rw [Try.params5] at hA hval
  obtain ⟨v0, vs0, d0, ds0, p0, q0, hargs, rfl, rfl, h0, r0⟩ := trodAll_cons hA
  obtain ⟨v1, vs1, d1, ds1, p1, q1, rfl, rfl, rfl, h1, r1⟩ := trodAll_cons r0
  obtain ⟨rfl, rfl, rfl⟩ := trodAll_nil r1
  obtain rfl : args = #[v0, v1] := by cases args; simp_all
  obtain ⟨rfl, rfl⟩ := trodVars_none hV
  obtain ⟨a0, len0, cap0, rfl⟩ := okWide_slice Try.underlying22 (hval 0 22 v0 rfl rfl)
  have k0 := h0
  have lt0 : ∀ x ∈ p0, x.block < W.heap.size := by obtain ⟨m, hm⟩ := k0; exact DataW.trod_lt m _ _ _ hm
  obtain ⟨z0, w0⟩ : ∃ zs, IsActs W a0 len0 zs := by
    obtain ⟨fuel, hf⟩ := h0
    exact isActs_of hf
  obtain ⟨a1, len1, cap1, rfl⟩ := okWide_slice Try.underlying34 (hval 1 34 v1 rfl rfl)
  have k1 := h1
  have lt1 : ∀ x ∈ p1, x.block < W.heap.size := by obtain ⟨m, hm⟩ := k1; exact DataW.trod_lt m _ _ _ hm
  obtain ⟨z1, w1⟩ : ∃ zs, IsRow .i64 W a1 len1 cap1 zs := by
    obtain ⟨fuel, hf⟩ := h1
    rcases open_ints Try.underlying34 Try.underlying3 (by kernel_rfl) hf with ⟨hcs, _⟩ | ⟨x, l, c, zs, hcs, _, hl, hm, hz, _, hcell, hwz⟩
    · simp [Value.cells] at hcs
      obtain ⟨rfl, rfl, rfl⟩ := hcs
      exact ⟨[], .inl ⟨rfl, rfl, rfl, rfl⟩⟩
    · simp [Value.cells] at hcs
      obtain ⟨rfl, rfl, rfl⟩ := hcs
      exact ⟨zs, .inr ⟨_, rfl, hl, hm, by simpa using hz, hcell, hwz⟩⟩
  clear hA0 hval0
  refine (walk a0 len0 cap0 z0 a1 len1 cap1 z1 W w0 w1).mono fun e W' ⟨he, bel⟩ => ?_
  subst he
  exact ⟨_, rfl, _, _, _, [], _, [], hW', trodAll_mk1 (shut_bool Try.underlying4 _), (trodAll_cons_mk (Below.trod laidOut (by kernel_rfl) (of_decide_eq_true (by kernel_rfl)) k0 bel lt0) (trodAll_cons_mk (Below.trod laidOut (by kernel_rfl) (of_decide_eq_true (by kernel_rfl)) k1 bel lt1) trodAll_mk0)), rfl, bel.frame _, fun h => by cases h⟩

theorem over : Rows.nvmCutsRow.holds Try.pinned (OpenSpec.ofChange Rows.nvmCutsSpec) :=
  OpenClaim.holds_of_wide 5 Try.f5 rfl rfl rfl rfl rfl rfl rfl ⟨rfl, rfl, rfl, rfl, rfl⟩ rfl rfl rfl rfl rfl (by kernel_rfl) Try.func5 (by kernel_rfl)
    (of_decide_eq_true (by kernel_rfl)) (by unfold Func.isWrapper; first | (rw [if_pos (by decide +kernel)]; kernel_rfl) | (rw [if_neg (by decide +kernel)]; exact ⟨rfl, rfl⟩))
    (fun os started H enc _ => lifted os started H enc)

theorem proved : Rows.NvmCutsSaid := over
#print axioms proved
end Go.Proofs.Ytgfbehdnmdmnhaa.nvmCuts
