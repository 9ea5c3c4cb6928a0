/-
  Proved here: for every list of acts the law NvmSorted returns true, and the list reads as it did: what Loose and Way answer rises, each line once, and just the lines whose two copies differ are loose (lists of over 80 acts, or of acts with over 100 bytes or numbers: the law asks the chapter's example alone).
  Conditions: none beyond the given statement's.
-/
import Derived.Test.YtgfbehdnmdmnhaaRows
import Derived.Test.YtgfbehdnmdmnhaaNvmJ
import Derived.IntWalk
import Derived.WalkSmall
import Derived.Deep.QuietTactic
import Derived.BigQuiet
import Derived.WalkKit
import Derived.ProofKit
import Derived.OpenShut
import Derived.ShutString
import Derived.ChangeOld
import Derived.Below
namespace Go.Proofs.Ytgfbehdnmdmnhaa.nvmSorted
open Go.ChangeShapes Go.WideShapes Go.ChangeAt Go.RowKit
open Go.ChangeMaps (open_string shut_string)
set_option linter.unusedVariables false

theorem own : ownKnob Try.prog.godebug = none := by kernel_rfl
theorem laidOut : laidOutB Try.prog = true := by kernel_rfl

set_option maxHeartbeats 1600000 in
theorem walk (a0 : Option Addr) (len0 cap0 : Nat) (z0 : List ActV) (w : World) (w0 : IsActs w a0 len0 z0) :
    Calls Try.prog 9 #[.slice a0 len0 cap0] w fun e w' => e = .returned (.bool true) ∧ Below w.heap.size w w' := by
  have HLA := Lib.hid (large_any (cap := cap0) w0)
  cases hlg : largeB len0 z0 with
  | true =>
    rw [hlg] at HLA
    clear w0 hlg
    go_enter Try.func9, Try.ntmps9
    go_wp2_with fail
    refine HLA.out.mono ?_
    rintro e w' ⟨rfl, k, rfl⟩
    go_wp2_with fail
    refine (awake_any _).mono ?_
    rintro e w' ⟨rfl, hb⟩
    go_wp2
    go_ret
    exact ⟨rfl, (below_drewN (Below.refl _ _) k).trans hb⟩
  | false =>
    rw [hlg] at HLA
    have HSO := Lib.hid (fun k => some_any (cap := cap0) (w := w.drewN k) (w0.below (below_drewN (Below.refl _ _) k)) hlg)
    have h8 := s8_len z0
    generalize s8.playAll z0 = s at *
    have HS8 := Lib.hid h8
    clear w0 hlg h8
    go_enter Try.func9, Try.ntmps9
    go_wp2_with fail
    refine HLA.out.mono ?_
    rintro e w' ⟨rfl, k, rfl⟩
    go_wp2_with fail
    refine (HSO.out k).mono ?_
    rintro e w1 ⟨p, q, rfl, _, _, hd, hb⟩
    have HD1 := Lib.hid hd
    have HB1 : Hid (Below w.heap.size w w1) := (below_drewN (Below.refl _ _) k).trans hb
    clear hd hb
    go_wp2_with fail
    refine (looses_ok HD1.out).mono ?_
    rintro e w2 ⟨V, rfl, ho, hb⟩
    obtain ⟨A, capA, rfl, hrow, _, _⟩ := rowI_of_own ho (by have := idx_len (fun c => c.v != c.p) s.1 0; have := HS8.out; unfold looseL; omega)
    have HRA := Lib.hid hrow
    have HD2 := Lib.hid (HD1.out.below hb)
    have HB2 := Lib.hid (HB1.out.trans (hb.mono HB1.out.size))
    clear ho hb hrow
    go_wp2_with fail
    refine (ways_ok HD2.out).mono ?_
    rintro e w3 ⟨V, rfl, ho, hb⟩
    obtain ⟨B, capB, rfl, hrow, _, _⟩ := rowI_of_own ho (by have := idx_len (fun c => c.on) s.1 0; have := HS8.out; unfold wayL; omega)
    have HRB := Lib.hid hrow
    have HRA3 := Lib.hid (HRA.out.below hb)
    have HD3 := Lib.hid (HD2.out.below hb)
    have HB3 := Lib.hid (HB2.out.trans (hb.mono HB2.out.size))
    clear ho hb hrow
    have hla : (looseL s.1).length ≤ 8 := by have := idx_len (fun c => c.v != c.p) s.1 0; have := HS8.out; unfold looseL; omega
    have hlb : (wayL s.1).length ≤ 8 := by have := idx_len (fun c => c.on) s.1 0; have := HS8.out; unfold wayL; omega
    obtain ⟨na, hna⟩ : ∃ n, (looseL s.1).length = n := ⟨_, rfl⟩
    obtain ⟨nb, hnb⟩ : ∃ n, (wayL s.1).length = n := ⟨_, rfl⟩
    rw [hna] at hla ⊢
    rw [hnb] at hlb ⊢
    have HNA := Lib.hid hna
    have HNB := Lib.hid hnb
    clear hna hnb
    go_wp2
    go_loopg [6, 7] 8 (fun gk s6 s7 wx => ∃ i n : Nat, i + gk = 8 ∧ s7 = .int .i64 i ∧ s6 = .int .i64 n ∧ Hid (n = (looseL (s.1.take i)).length) ∧ Hid (DvS wx p q s) ∧ Hid (Below w3.heap.size w3 wx))
    case atStart => exact ⟨0, 0, by omega, rfl, rfl, rfl, HD3, Below.refl _ _⟩
    case round =>
      obtain ⟨i, n, hig, rfl, rfl, HNN, HDr, HBr⟩ := hrel
      cases gk with
      | succ gk =>
        have hi : i < s.1.length := by have := HS8.out; omega
        obtain ⟨c, hc⟩ : ∃ c, s.1[i]? = some c := ⟨_, List.getElem?_eq_getElem hi⟩
        have hii : (i : Int) < 8 := by omega
        have HL := Lib.hid (load_ok HDr.out hc)
        have HC := Lib.hid hc
        have HOK := Lib.hid (oks_at HDr.out.oks hc)
        have HT := Lib.hid (idx_take (fun c => c.v != c.p) s.1 i c hc)
        have HG := Lib.hid (idx_get (fun c => c.v != c.p) s.1 i c hc)
        clear hi hc
        go_wp2_with fail
        refine HL.out.mono ?_
        rintro e w4 ⟨g4, rfl, hg4, ha4, hb4⟩
        have HA4 := Lib.hid ha4
        have HD4 := Lib.hid (HDr.out.below hb4)
        have HB4 := Lib.hid (HBr.out.trans (hb4.mono HBr.out.size))
        clear hg4 ha4 hb4
        go_wp2_with fail
        refine (durable_ok HD4.out HC.out).mono ?_
        rintro e w5 ⟨g5, rfl, hg5, ha5, hb5⟩
        have HD5 := Lib.hid (HD4.out.below hb5)
        have HB5 := Lib.hid (HB4.out.trans (hb5.mono HB4.out.size))
        have HSM := Lib.hid (same_any w5 (some ⟨g4, 0, none⟩) (some ⟨g5, 0, none⟩) 64 64 64 64 c.v c.p HOK.out.1 HOK.out.2.1 ((HA4.out.below hb5 HA4.out.lt).row (by have := HOK.out.1; omega)) (ha5.row (by have := HOK.out.2.1; omega)))
        clear hg5 ha5 hb5
        cases hvp : (c.v == c.p) with
        | true =>
          rw [hvp] at HSM
          have HN2 : Hid (n = (looseL (s.1.take (i + 1))).length) := by
            show _ = _
            rw [looseL, HT.out, bne, hvp]
            simpa [looseL] using HNN.out
          clear hvp
          go_wp2_with fail
          refine HSM.out.mono ?_
          rintro e w' ⟨rfl, rfl⟩
          go_wp2
          go_roundg gk
          case measure => omega
          case rel => exact ⟨i + 1, n, by omega, by go_num, rfl, HN2, HD5, HB5⟩
        | false =>
          rw [hvp] at HSM
          have HN2 : Hid (n + 1 = (looseL (s.1.take (i + 1))).length) := by
            show _ = _
            rw [looseL, HT.out, bne, hvp]
            have := HNN.out
            simp [looseL] at this ⊢
            exact this
          obtain ⟨hg1, hg2⟩ := HG.out (by rw [bne, hvp]; rfl)
          have hg1' : n < na := by have := HNN.out; have := HNA.out; unfold looseL at *; omega
          have hnn : ¬ (na : Int) ≤ (n : Int) := by omega
          obtain ⟨bb, oo, rfl, _, hcl⟩ := HRA3.out.at_ (j := n) (by have := HNA.out; omega)
          have hcell' := hcl w5 HB5.out
          rw [show (looseL s.1).getD n 0 = (i : Int) by rw [HNN.out]; exact hg2] at hcell'
          clear hcl
          have hne : ((i : Int) != (i : Int)) = false := by simp
          have hnlt : (n : Int) < (na : Int) := by omega
          clear hvp hg1 hg2
          go_wp2_with fail
          refine HSM.out.mono ?_
          rintro e w' ⟨rfl, rfl⟩
          go_wp2
          go_roundg gk
          case measure => omega
          case rel => exact ⟨i + 1, n + 1, by omega, by go_num, by go_num, HN2, HD5, HB5⟩
      | zero =>
        obtain rfl : i = 8 := by omega
        have hnn : n = na := by
          have h1 := HNN.out
          rw [List.take_of_length_le (by have := HS8.out; omega)] at h1
          have := HNA.out
          omega
        subst hnn
        have HBRW := Lib.hid (HB3.out.trans (HBr.out.mono HB3.out.size))
        go_wp2
        go_loopg [12] nb (fun gk s12 wx => ∃ i k : Nat, i + gk = nb ∧ s12 = .int .i64 i ∧ wx = wr.drewN k)
        case atStart => exact ⟨0, 0, by omega, rfl, rfl⟩
        case round =>
          obtain ⟨i, k, hig2, rfl, rfl⟩ := hrel
          cases gk with
          | zero =>
            obtain rfl : i = nb := by omega
            have hii : ¬ (i : Int) < (i : Int) := by omega
            have hee : ((n : Int) == (n : Int)) = true := by simp
            go_wp2_with fail
            refine (awake_any _).mono ?_
            rintro e w9 ⟨rfl, hb9⟩
            have hfin := HBRW.out.trans ((below_drewN (Below.refl _ _) k).trans hb9 |>.mono HBRW.out.size)
            go_wp2
            go_ret
            exact ⟨rfl, hfin⟩
          | succ gk =>
            have hii : (i : Int) < (nb : Int) := by omega
            have hin : 0 ≤ (wayL s.1).getD i 0 ∧ (wayL s.1).getD i 0 < 8 := by have := idx_in (fun c => c.on) s.1 i (by have := HNB.out; unfold wayL at this; omega); have h8 := HS8.out; unfold wayL; omega
            obtain ⟨bb, oo, rfl, _, hcl⟩ := HRB.out.at_ (j := i) (by have := HNB.out; omega)
            have hcell := hcl wr HBr.out
            clear hcl
            cases i with
            | zero =>
              generalize (wayL s.1).getD 0 0 = x at *
              obtain ⟨h1, h2⟩ := hin
              have h3 : decide (x < 0) = false := by simp; omega
              have h4 : decide (7 < x) = false := by simp; omega
              have h5 : ¬ (0 : Int) < ((0 : Nat) : Int) := by omega
              have hcell' : wr.cell? ⟨bb, oo, none⟩ = some (.int .i64 x) := hcell
              clear hcell
              go_wp2
              go_quiet (fail)
              go_wp2
              go_roundg gk
              case measure => omega
              case rel => exact ⟨1, k + nq, by omega, by go_num, rfl⟩
            | succ j =>
              have hst := idx_step (fun c => c.on) s.1 0 j (by have := HNB.out; unfold wayL at this; omega)
              have hst' : (wayL s.1).getD j 0 < (wayL s.1).getD (j + 1) 0 := hst
              obtain ⟨b2, o2, e2, _, hcl2⟩ := HRB.out.at_ (j := j) (by have := HNB.out; omega)
              obtain ⟨rfl, rfl⟩ : bb = b2 ∧ oo = o2 := by cases e2; exact ⟨rfl, rfl⟩
              have hcell2 := hcl2 wr HBr.out
              clear hcl2 e2 hst
              generalize (wayL s.1).getD (j + 1) 0 = x at *
              generalize (wayL s.1).getD j 0 = y at *
              obtain ⟨h1, h2⟩ := hin
              have h3 : decide (x < 0) = false := by simp; omega
              have h4 : decide (7 < x) = false := by simp; omega
              have h6 : decide (x ≤ y) = false := by simp; omega
              have h7 : (j : Int) < (nb : Int) := by omega
              have h8 : (j : Int) + 1 < (nb : Int) := by omega
              have h5 : (0 : Int) < (j : Int) + 1 := by omega
              have h9 : IntKind.i64.wrap ((j : Int) + 1 - 1) = (j : Int) := by rw [show (j : Int) + 1 - 1 = j by omega]; exact IntWalk.i64_in _ (by omega)
              have h10 : ((j : Int) + 1).toNat = j + 1 := by omega
              rw [show ((j + 1 : Nat) : Int) = (j : Int) + 1 by omega]
              go_wp2
              go_quiet (fail)
              go_wp2
              go_roundg gk
              case measure => omega
              case rel => exact ⟨j + 1 + 1, k + nq, by omega, by go_num, rfl⟩

set_option maxRecDepth 100000 in
theorem lifted (os : Os) (started : os.Started) (H : Type) (enc : TypeId × Value → H) :
    ReturnsInHanded {} Try.checked os 9 .any (Rows.nvmSortedSpec.pre6 enc Try.prog Try.f9 Rows.nvmSortedRow.domain false) (Rows.nvmSortedSpec.post enc Try.prog Try.f9 false true false false) := by
  refine returnsInHanded_of_change (C := Try.checked) own started (by kernel_rfl) Try.func9
    (ChangeSpec.witness6 (enc := enc) (C := Try.checked) false ⟨#[], #[.slice none 0 0], []⟩ 8 (by kernel_rfl) (by kernel_rfl) (by kernel_rfl) (by kernel_rfl)) ?_
  intro W base args ds gs before hval0 hW hcnd _
  have hval : ∀ (j : Nat) t v, Try.f9.params[j]? = some t → args[j]? = some v → Value.okWide Try.prog W .any base t v := hval0
  have hW' := hW
  obtain ⟨p, q, hA0, hV, rfl, hfz, hnd⟩ := hW
  have hA : DataW.TrodAll enc Try.prog W 0 (fun _ => true) true Try.f9.params.toList args.toList ds p := hA0
  rw [Try.params9] at hA hval
  obtain ⟨v0, vs0, d0, ds0, p0, q0, hargs, rfl, rfl, h0, r0⟩ := trodAll_cons hA
  obtain ⟨rfl, rfl, rfl⟩ := trodAll_nil r0
  obtain rfl : args = #[v0] := by cases args; simp_all
  obtain ⟨rfl, rfl⟩ := trodVars_none hV
  obtain ⟨a0, len0, cap0, rfl⟩ := okWide_slice Try.underlying22 (hval 0 22 v0 rfl rfl)
  have k0 := h0
  have lt0 : ∀ x ∈ p0, x.block < W.heap.size := by obtain ⟨m, hm⟩ := k0; exact DataW.trod_lt m _ _ _ hm
  obtain ⟨z0, w0⟩ : ∃ zs, IsActs W a0 len0 zs := by
    obtain ⟨fuel, hf⟩ := h0
    exact isActs_of hf
  clear hA0 hval0
  refine (walk a0 len0 cap0 z0 W w0).mono fun e W' ⟨he, bel⟩ => ?_
  subst he
  exact ⟨_, rfl, _, _, _, [], _, [], hW', trodAll_mk1 (shut_bool Try.underlying4 _), (trodAll_cons_mk (Below.trod laidOut (by kernel_rfl) (of_decide_eq_true (by kernel_rfl)) k0 bel lt0) trodAll_mk0), rfl, bel.frame _, fun h => by cases h⟩

theorem over : Rows.nvmSortedRow.holds Try.pinned (OpenSpec.ofChange Rows.nvmSortedSpec) :=
  OpenClaim.holds_of_wide 9 Try.f9 rfl rfl rfl rfl rfl rfl rfl ⟨rfl, rfl, rfl, rfl, rfl⟩ rfl rfl rfl rfl rfl (by kernel_rfl) Try.func9 (by kernel_rfl)
    (of_decide_eq_true (by kernel_rfl)) (by unfold Func.isWrapper; first | (rw [if_pos (by decide +kernel)]; kernel_rfl) | (rw [if_neg (by decide +kernel)]; exact ⟨rfl, rfl⟩))
    (fun os started H enc _ => lifted os started H enc)

theorem proved : Rows.NvmSortedSaid := over
#print axioms proved
end Go.Proofs.Ytgfbehdnmdmnhaa.nvmSorted
