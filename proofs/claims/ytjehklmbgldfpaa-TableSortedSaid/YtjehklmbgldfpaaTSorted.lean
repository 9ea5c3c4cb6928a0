/-
Proved here: whatever list of acts is handed in, fuseelaw12.TableSorted returns true, and the list reads afterwards as it did.
  Conditions: none.
-/
import Derived.Test.YtjehklmbgldfpaaRows
import Derived.Test.YtjehklmbgldfpaaPlays12
import Derived.IntWalk
import Derived.WalkSmall
import Derived.Deep.QuietTactic
import Derived.BigQuiet
import Derived.WalkKit
import Derived.ProofKit
import Derived.OpenShut
import Derived.ShutString
import Derived.ChangeOld
import Derived.Below
namespace Go.Proofs.Ytjehklmbgldfpaa.tableSorted
open Go.ChangeShapes Go.WideShapes Go.ChangeAt Go.RowKit
open Go.ChangeMaps (open_string shut_string)
set_option linter.unusedVariables false

theorem own : ownKnob Try.prog.godebug = none := by kernel_rfl
theorem laidOut : laidOutB Try.prog = true := by kernel_rfl

set_option maxRecDepth 100000 in
set_option maxHeartbeats 1600000 in
theorem many (a0 : Option Addr) (len0 cap0 : Nat) (z0 : List ActP) (w : World) (w0 : IsActs w a0 len0 z0) (hb : largeB z0 = true) :
    Calls Try.prog 6 #[.slice a0 len0 cap0] w fun e w' => e = .returned (.bool true) ∧ Below w.heap.size w w' := by
  have HAW := Lib.hid (awake12_any w)
  have HLG := Lib.hid (large_any (cap := cap0) w0)
  rw [hb] at HLG
  clear w0 hb
  go_enter Try.func6, Try.ntmps6
  go_wp2_with fail
  refine HLG.out.mono ?_
  rintro e w' ⟨rfl, rfl⟩
  go_wp2_with fail
  refine HAW.out.mono ?_
  rintro e w' ⟨rfl, hb⟩
  have HB := Lib.hid hb
  clear hb
  go_wp2
  go_ret
  exact ⟨rfl, HB.out⟩
set_option maxRecDepth 100000 in
set_option maxHeartbeats 3200000 in
theorem few (a0 : Option Addr) (len0 cap0 : Nat) (z0 : List ActP) (w : World) (w0 : IsActs w a0 len0 z0) (hb : largeB z0 = false) :
    Calls Try.prog 6 #[.slice a0 len0 cap0] w fun e w' => e = .returned (.bool true) ∧ Below w.heap.size w w' := by
  have HAW := Lib.hid (fun w1 => awake12_any w1)
  have HLG := Lib.hid (large_any (cap := cap0) w0)
  rw [hb] at HLG
  have HPL := Lib.hid (played_any (cap := cap0) w0 hb)
  have hpl := playT_len z0
  obtain ⟨hl1, -⟩ := large_no hb
  obtain ⟨g, hg⟩ : ∃ g, w.heap.size = g := ⟨_, rfl⟩
  have HG := Lib.hid hg
  rw [hg] at HPL ⊢
  obtain ⟨L, hL⟩ : ∃ L, playT z0 = L := ⟨_, rfl⟩
  rw [hL] at HPL hpl
  have hlm : L.length ≤ 1048576 := by omega
  clear w0 hb hL hg
  go_enter Try.func6, Try.ntmps6
  go_wp2_with fail
  refine HLG.out.mono ?_
  rintro e w' ⟨rfl, rfl⟩
  go_wp2_with fail
  refine HPL.out.mono ?_
  rintro e w1 ⟨rfl, m, ht⟩
  have HT := Lib.hid ht
  have HAL := Lib.hid (tball_any ht.tb hlm)
  unfold AllTo at HAL
  have HRS := Lib.hid ht.tb.rises
  clear ht
  go_wp2_with fail
  refine HAL.out.mono ?_
  rintro e w2 ⟨g2, cap2, rfl, ho, hb2⟩
  have HT2 := Lib.hid (HT.out.below hb2)
  obtain ⟨-, A, cap, hA, -, hrow, -⟩ := rowL_of_own ho hlm
  simp only [Value.slice.injEq] at hA
  obtain ⟨rfl, -, rfl⟩ := hA
  have HRW := Lib.hid hrow
  have HLN : Hid (∀ k, Calls Try.prog 19 #[.pointer (some ⟨g, 0, none⟩)] (w2.drewN k) fun e w' => e = .returned (.int .i64 (L.length : Nat)) ∧ w2.drewN k = w') := fun k => tblen_any (HT2.out.drewN k).tb hlm
  obtain ⟨n, hn⟩ : ∃ n, L.length = n := ⟨_, rfl⟩
  have HN := Lib.hid hn
  rw [hn] at HLN hlm ⊢
  clear ho hb2 hrow hn hpl hl1
  go_wp2
  go_loopg [5] (n - 1) (fun gk s5 wx => ∃ j k : Nat, j + gk = n - 1 ∧ s5 = .int .i64 ((j : Int) + 1) ∧ wx = w2.drewN k)
  case atStart => exact ⟨0, 0, by omega, rfl, rfl⟩
  case round =>
    obtain ⟨j, k, hjg, rfl, rfl⟩ := hrel
    cases gk with
    | zero =>
      have hii : ¬ (j : Int) + 1 < (n : Int) := by omega
      have hnn : ((n : Int) == (n : Int)) = true := by simp
      have HLK := Lib.hid (HLN.out k)
      have HB2 : Hid (Below g w (w2.drewN k)) := below_drewN HT2.out.bel k
      have HAWK := Lib.hid (HAW.out (w2.drewN k))
      have HGW := Lib.hid HT2.out.gw
      clear hjg
      go_wp2_with fail
      refine HLK.out.mono ?_
      rintro e w3 ⟨rfl, rfl⟩
      go_wp2_with fail
      refine HAWK.out.mono ?_
      rintro e w3 ⟨rfl, hb3⟩
      have HB3 : Hid (Below g w w3) := HB2.out.trans (hb3.mono HGW.out)
      clear hb3
      go_wp2
      go_ret
      exact ⟨rfl, HB3.out⟩
    | succ gk =>
      have hii : (j : Int) + 1 < (n : Int) := by omega
      have hj1 : j + 1 < L.length := by have := HN.out; omega
      obtain ⟨b1, o1, hb1, -, c0, -⟩ := HRW.out.at_ (List.getElem?_eq_getElem (show j < L.length by omega))
      cases hb1
      obtain ⟨b2, o2, hb2, -, e0, -⟩ := HRW.out.at_ (List.getElem?_eq_getElem hj1)
      cases hb2
      have hlt : Op.bytesLess L[j].k L[j + 1].k = true := List.pairwise_iff_getElem.1 HRS.out j (j + 1) (by omega) hj1 (by omega)
      have hge : Op.bytesLess L[j].str.toList L[j + 1].str.toList = true := by
        rw [Lib.toList_data, Lib.toList_data]
        exact hlt
      generalize L[j].str = x0 at *
      generalize L[j + 1].str = y0 at *
      have HJ := Lib.hid hjg
      clear hlt hjg
      rw [Nat.zero_add] at c0 e0
      go_wp2
      go_quiet (fail)
      go_wp2
      go_roundg gk
      case measure => omega
      case rel => exact ⟨j + 1, k + nq, by have := HJ.out; omega, by go_num, rfl⟩
theorem walk (a0 : Option Addr) (len0 cap0 : Nat) (z0 : List ActP) (w : World) (w0 : IsActs w a0 len0 z0) :
    Calls Try.prog 6 #[.slice a0 len0 cap0] w fun e w' => e = .returned (.bool true) ∧ Below w.heap.size w w' := by
  cases h : largeB z0 with
  | true => exact many a0 len0 cap0 z0 w w0 h
  | false => exact few a0 len0 cap0 z0 w w0 h

set_option maxRecDepth 100000 in
theorem lifted (os : Os) (started : os.Started) (H : Type) (enc : TypeId × Value → H) :
    ReturnsInHanded {} Try.checked os 6 .any (Rows.tableSortedSpec.pre6 enc Try.prog Try.f6 Rows.tableSortedRow.domain false) (Rows.tableSortedSpec.post enc Try.prog Try.f6 false true false false) := by
  refine returnsInHanded_of_change (C := Try.checked) own started (by kernel_rfl) Try.func6
    (ChangeSpec.witness6 (enc := enc) (C := Try.checked) false ⟨#[], #[.slice none 0 0], []⟩ 8 (by kernel_rfl) (by kernel_rfl) (by kernel_rfl) (by kernel_rfl)) ?_
  intro W base args ds gs before hval0 hW hcnd _
  have hval : ∀ (j : Nat) t v, Try.f6.params[j]? = some t → args[j]? = some v → Value.okWide Try.prog W .any base t v := hval0
  have hW' := hW
  obtain ⟨p, q, hA0, hV, rfl, hfz, hnd⟩ := hW
  have hA : DataW.TrodAll enc Try.prog W 0 (fun _ => true) true Try.f6.params.toList args.toList ds p := hA0
  rw [Try.params6] at hA hval
  obtain ⟨v0, vs0, d0, ds0, p0, q0, hargs, rfl, rfl, h0, r0⟩ := trodAll_cons hA
  obtain ⟨rfl, rfl, rfl⟩ := trodAll_nil r0
  obtain rfl : args = #[v0] := by cases args; simp_all
  obtain ⟨rfl, rfl⟩ := trodVars_none hV
  obtain ⟨a0, len0, cap0, rfl⟩ := okWide_slice Try.underlying22 (hval 0 22 v0 rfl rfl)
  have k0 := h0
  have lt0 : ∀ x ∈ p0, x.block < W.heap.size := by obtain ⟨m, hm⟩ := k0; exact DataW.trod_lt m _ _ _ hm
  obtain ⟨z0, w0⟩ : ∃ zs, IsActs W a0 len0 zs := by
    obtain ⟨fuel, hf⟩ := h0
    exact isActs_of hf
  clear hA0 hval0
  refine (walk a0 len0 cap0 z0 W w0).mono fun e W' ⟨he, bel⟩ => ?_
  subst he
  exact ⟨_, rfl, _, _, _, [], _, [], hW', trodAll_mk1 (shut_bool Try.underlying4 _), (trodAll_cons_mk (Below.trod laidOut (by kernel_rfl) (of_decide_eq_true (by kernel_rfl)) k0 bel lt0) trodAll_mk0), rfl, bel.frame _, fun h => by cases h⟩

theorem over : Rows.tableSortedRow.holds Try.pinned (OpenSpec.ofChange Rows.tableSortedSpec) :=
  OpenClaim.holds_of_wide 6 Try.f6 rfl rfl rfl rfl rfl rfl rfl ⟨rfl, rfl, rfl, rfl, rfl⟩ rfl rfl rfl rfl rfl (by kernel_rfl) Try.func6 (by kernel_rfl)
    (of_decide_eq_true (by kernel_rfl)) (by unfold Func.isWrapper; first | (rw [if_pos (by decide +kernel)]; kernel_rfl) | (rw [if_neg (by decide +kernel)]; exact ⟨rfl, rfl⟩))
    (fun os started H enc _ => lifted os started H enc)

theorem proved : Rows.TableSortedSaid := over
#print axioms proved
end Go.Proofs.Ytjehklmbgldfpaa.tableSorted
