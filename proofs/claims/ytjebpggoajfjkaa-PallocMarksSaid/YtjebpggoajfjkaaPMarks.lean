/-
  Proved here: PallocMarks, the full form.
  Conditions: none.
-/
import Derived.Test.YtjebpggoajfjkaaRows
import Derived.Test.YtjebpggoajfjkaaMarks7
import Derived.IntWalk
import Derived.WalkSmall
import Derived.Deep.QuietTactic
import Derived.BigQuiet
import Derived.WalkKit
import Derived.ProofKit
import Derived.OpenShut
import Derived.ShutString
import Derived.ChangeOld
import Derived.Below
namespace Go.Proofs.Ytjebpggoajfjkaa.pallocMarks
open Go.ChangeShapes Go.WideShapes Go.ChangeAt Go.RowKit
open Go.ChangeMaps (open_string shut_string)
set_option linter.unusedVariables false

theorem own : ownKnob Try.prog.godebug = none := by kernel_rfl
theorem laidOut : laidOutB Try.prog = true := by kernel_rfl

theorem ones2 (a b : Int) : (#[.int .i64 a, .int .i64 b] : Array Value).all (·.oneCell') = true := all_oneCell_toArray (encI_one (l := [a, b]))
set_option maxRecDepth 100000 in
set_option maxHeartbeats 4000000 in
theorem walk (a0 : Int) (a1 : Option Addr) (len1 cap1 : Nat) (z1 : List ActP) (a2 : Int) (w : World) (w0 : (Lit.int .i64 a0).wf = true) (w1 : IsActs w a1 len1 z1) (w2 : (Lit.int .i64 a2).wf = true) :
    Calls Try.prog 7 #[.int .i64 a0, .slice a1 len1 cap1, .int .i64 a2] w fun e w' => e = .returned (.bool true) ∧ Below w.heap.size w w' := by
  have hlen := w1.2.1
  unfold maxLen at hlen
  rcases Nat.lt_or_ge 60 len1 with hl | hl
  · have h1 : (60 : Int) < (len1 : Int) := by omega
    have HAW := Lib.hid (awake_any w)
    clear w0 w1 w2 hl
    go_enter Try.func7, Try.ntmps7
    go_wp2_with fail
    refine HAW.out.mono ?_
    rintro e w' ⟨rfl, hb⟩
    have HB := Lib.hid hb
    clear hb
    go_wp2
    go_ret
    exact ⟨rfl, HB.out⟩
  · have h1 : ¬ (60 : Int) < (len1 : Int) := by omega
    have HPD := Lib.hid (played_any w a0 a1 len1 cap1 z1 w1)
    unfold PlayedTo at HPD
    generalize playedL (1 + low a0 32) z1 = L at *
    generalize 1 + low a0 32 = n at *
    have HGG : Hid (w.heap.size = w.heap.size) := rfl
    obtain ⟨g, hg⟩ : ∃ g, w.heap.size = g := ⟨_, rfl⟩
    rw [hg] at HPD ⊢
    have HG := Lib.hid hg
    clear w0 w1 w2 hl hg HGG
    go_enter Try.func7, Try.ntmps7
    go_wp2_with fail
    refine HPD.out.mono ?_
    rintro e v1 ⟨p, q, rfl, hp, hq, hpl, hb⟩
    have HP := Lib.hid hp
    have HQ := Lib.hid hq
    have hn1 := hpl.one
    have hn2 := hpl.most
    have HP1 := Lib.hid hpl
    have HPO := Lib.hid hpl.pool
    have HLL : Hid (L.length ≤ 256) := by have h1 := pool_len hpl.pool; have h2 := hpl.most; show L.length ≤ 256; omega
    have HB := Lib.hid hb
    have HR1 : Hid (Turns p q v1 v1) := Turns.refl _ _ _
    clear hp hq hpl hb
    go_wp2_with fail
    refine (taken_he HP1.out).mono ?_
    rintro e v2 ⟨AT, capT, rfl, hh, hpl, ht⟩
    have HHT2 := Lib.hid hh
    have HP2 := Lib.hid hpl
    have HR2 : Hid (Turns p q v1 v2) := HR1.out.trans ht
    clear hpl ht hh
    go_wp2_with fail
    refine (slabs_he HP2.out).mono ?_
    rintro e v3 ⟨AS, capS, rfl, hh, hpl, ht⟩
    have HHS3 := Lib.hid hh
    have HP3 := Lib.hid hpl
    have HR3 : Hid (Turns p q v1 v3) := HR2.out.trans ht
    have HHT3 := Lib.hid (HHT2.out.turns ht)
    clear hpl ht hh
    clear HP2 HR2 HHT2
    have HN := Lib.hid (new_ok n hn1 hn2 v3)
    unfold MadeP at HN
    have HB3 : Hid (Below g w v3) := HB.out.trans (HR3.out.below HP.out HQ.out (by have := HB.out.size; have := HG.out; omega))
    obtain ⟨m, hm⟩ : ∃ m, L.length = m := ⟨_, rfl⟩
    rw [hm]
    have HM := Lib.hid hm
    have hm2 : m ≤ 256 := by have := HLL.out; omega
    clear hm
    go_wp2_with fail
    refine HN.out.mono ?_
    rintro e v4 ⟨p2, q2, rfl, hp2, hq2, hpl2, hb4⟩
    have HK4 := Lib.hid (mk_new HG.out HB3.out HP3.out HHT3.out.row hp2 hq2 hpl2 hb4)
    clear hp2 hq2 hpl2 hb4 HN HP3 HR3 HHT3 HHS3 HP1 HR1 HB HB3
    rcases Nat.eq_zero_or_pos m with h0 | h0
    · have hd : decide ((0 : Int) < (m : Int)) = false := decide_eq_false (by omega)
      have hd2 : decide (0 < m) = false := decide_eq_false (by omega)
      have H0 := Lib.hid h0
      clear h0
      go_wp2
      go_loopg [12] m (fun gk s12 wx => ∃ (z : Int) (R : List Tk), z + 1 = (gk : Int) ∧ gk ≤ m ∧ s12 = .int .i64 z ∧ Hid (Mk w g wx p q p2 q2 n L R AT) ∧ Hid (Marked L m (0 : Nat) gk R))
      case atStart => exact ⟨(m : Int) - 1, [], by omega, Nat.le_refl _, rfl, HK4, marked_zero L m (0 : Nat)⟩
      case round =>
        obtain ⟨z, R, hz, hgm, rfl, HKr, HMR⟩ := hrel
        cases gk with
        | zero =>
          obtain rfl : z = -1 := by omega
          have he := marked_all HPO.out HKr.out.pb.pool.rising HM.out HMR.out
          subst he
          clear hz hgm HMR
          go_wp2_with fail
          refine (taken_he HKr.out.pb).mono ?_
          rintro e y1 ⟨A1, c1, rfl, hh, hpl, ht⟩
          have HK1 := Lib.hid (HKr.out.step hpl ht)
          have HH1 := Lib.hid hh
          rw [HM.out]
          clear hh hpl ht
          go_wp2_with fail
          refine (samet_any y1 A1 AT m c1 capT R HM.out HH1.out.row HK1.out.row).mono ?_
          rintro e y2 ⟨rfl, k2, rfl⟩
          have HK2 := Lib.hid (HK1.out.b_step (below_drewN (Below.refl _ _) k2))
          go_wp2_with fail
          refine (slabs_he HK2.out.pb).mono ?_
          rintro e y3 ⟨A3, c3, rfl, hh, hpl, ht⟩
          have HK3 := Lib.hid (HK2.out.step hpl ht)
          have HH3 := Lib.hid hh
          clear hh hpl ht
          go_wp2_with fail
          refine (slabs_all HK3.out.pa).mono ?_
          rintro e y4 ⟨V4, rfl, ho, hb⟩
          obtain ⟨A4, c4, rfl, hr4, _, _⟩ := rowI_of_own ho (by rw [slabsL_len]; omega)
          have HK5 := Lib.hid (HK3.out.b_step hb)
          have HH5 := Lib.hid (HH3.out.turns (Turns.of_below hb p2 q2))
          have HR4 := Lib.hid hr4
          rw [slabsL_len]
          clear ho hb hr4
          go_wp2_with fail
          refine (samei_any y4 A3 A4 n c3 c4 (slabsL n R) (slabsL_len n R) HH5.out.row HR4.out).mono ?_
          rintro e y5 ⟨rfl, k5, rfl⟩
          have HK6 := Lib.hid (HK5.out.b_step (below_drewN (Below.refl _ _) k5))
          go_wp2_with fail
          refine (awake_any _).mono ?_
          rintro e y6 ⟨rfl, hb⟩
          have HBE : Hid (Below g w y6) := HK6.out.bel.trans (hb.mono HK6.out.gw)
          clear hb
          go_wp2
          go_ret
          exact ⟨rfl, HBE.out⟩
        | succ i =>
          obtain rfl : z = (i : Int) := by omega
          exact absurd hgm (by have := H0.out; omega)
    · have hd : decide ((0 : Int) < (m : Int)) = true := decide_eq_true (by omega)
      have hd2 : decide (0 < m) = true := decide_eq_true (by omega)
      have HLW := Lib.hid (low_any a2 m v4 h0 (by omega))
      have hlt := low_lt a2 h0
      generalize low a2 m = tn at *
      go_wp2_with fail
      refine HLW.out.mono ?_
      rintro e w' ⟨rfl, rfl⟩
      go_wp2
      go_loopg [12] m (fun gk s12 wx => ∃ (z : Int) (R : List Tk), z + 1 = (gk : Int) ∧ gk ≤ m ∧ s12 = .int .i64 z ∧ Hid (Mk w g wx p q p2 q2 n L R AT) ∧ Hid (Marked L m tn gk R))
      case atStart => exact ⟨(m : Int) - 1, [], by omega, Nat.le_refl _, rfl, HK4, marked_zero L m tn⟩
      case round =>
        obtain ⟨z, R, hz, hgm, rfl, HKr, HMR⟩ := hrel
        cases gk with
        | zero =>
          obtain rfl : z = -1 := by omega
          have he := marked_all HPO.out HKr.out.pb.pool.rising HM.out HMR.out
          subst he
          clear hz hgm HMR
          go_wp2_with fail
          refine (taken_he HKr.out.pb).mono ?_
          rintro e y1 ⟨A1, c1, rfl, hh, hpl, ht⟩
          have HK1 := Lib.hid (HKr.out.step hpl ht)
          have HH1 := Lib.hid hh
          rw [HM.out]
          clear hh hpl ht
          go_wp2_with fail
          refine (samet_any y1 A1 AT m c1 capT R HM.out HH1.out.row HK1.out.row).mono ?_
          rintro e y2 ⟨rfl, k2, rfl⟩
          have HK2 := Lib.hid (HK1.out.b_step (below_drewN (Below.refl _ _) k2))
          go_wp2_with fail
          refine (slabs_he HK2.out.pb).mono ?_
          rintro e y3 ⟨A3, c3, rfl, hh, hpl, ht⟩
          have HK3 := Lib.hid (HK2.out.step hpl ht)
          have HH3 := Lib.hid hh
          clear hh hpl ht
          go_wp2_with fail
          refine (slabs_all HK3.out.pa).mono ?_
          rintro e y4 ⟨V4, rfl, ho, hb⟩
          obtain ⟨A4, c4, rfl, hr4, _, _⟩ := rowI_of_own ho (by rw [slabsL_len]; omega)
          have HK5 := Lib.hid (HK3.out.b_step hb)
          have HH5 := Lib.hid (HH3.out.turns (Turns.of_below hb p2 q2))
          have HR4 := Lib.hid hr4
          rw [slabsL_len]
          clear ho hb hr4
          go_wp2_with fail
          refine (samei_any y4 A3 A4 n c3 c4 (slabsL n R) (slabsL_len n R) HH5.out.row HR4.out).mono ?_
          rintro e y5 ⟨rfl, k5, rfl⟩
          have HK6 := Lib.hid (HK5.out.b_step (below_drewN (Below.refl _ _) k5))
          go_wp2_with fail
          refine (awake_any _).mono ?_
          rintro e y6 ⟨rfl, hb⟩
          have HBE : Hid (Below g w y6) := HK6.out.bel.trans (hb.mono HK6.out.gw)
          clear hb
          go_wp2
          go_ret
          exact ⟨rfl, HBE.out⟩
        | succ i =>
          obtain rfl : z = (i : Int) := by omega
          have him : i < m := by omega
          obtain ⟨ρ, hρ⟩ : ∃ ρ, (i + tn) % m = ρ := ⟨_, rfl⟩
          have hρm : ρ < m := by rw [← hρ]; exact Nat.mod_lt _ (by omega)
          have hρl : ρ < L.length := by have := HM.out; omega
          have hr1 : ((i : Int) + (tn : Int)).tmod (m : Int) = (ρ : Int) := by rw [Int.tmod_eq_emod_of_nonneg (by omega), ← hρ]; simp
          have hr2 : ((i : Int) + (tn : Int)) % (m : Int) = (ρ : Int) := by rw [← hρ]; simp
          have hρi : (ρ : Int) < (m : Int) := by omega
          have hmz : ((m : Int) == 0) = false := by simp; omega
          obtain ⟨b, off, e1, _, hcc⟩ := HKr.out.row.2 (by omega)
          obtain ⟨c1, c2⟩ := hcc ρ _ (List.getElem?_eq_getElem hρl)
          subst e1
          have hi2 : (i + tn) % m < L.length := by rw [hρ]; exact hρl
          have h5 := marked_not HPO.out.rising him HMR.out hi2
          have h6 := marked_step him HMR.out hi2
          have h7 : L[(i + tn) % m] = L[ρ] := by congr 1
          rw [h7] at h5 h6
          have HMN := Lib.hid h6
          have HM1 : Hid (∀ w', PlP w' p2 q2 n R → Calls Try.prog 19 #[.pointer (some ⟨p2, 0, none⟩), .int .i64 L[ρ].1, .int .i64 L[ρ].2] w' fun e w2 => e = .returned (.int .i64 0) ∧ PlP w2 p2 q2 n (putL R L[ρ].1 L[ρ].2) ∧ Turns p2 q2 w' w2) := fun w' hp => mark_new hp HPO.out (marked_sub HMR.out) (List.getElem_mem hρl) h5
          have HBN := Lib.hid (fun (y2 : World) (x y : Int) (hc : y2.heap[wr.heap.size]? = some (Obj.cells #[.int .i64 x, .int .i64 y] 52 (0, 0))) => bt_new HKr.out.pb hc)
          obtain ⟨bx, hbx⟩ : ∃ bx, wr.heap.size = bx := ⟨_, rfl⟩
          rw [hbx] at HBN
          have HBS := Lib.hid hbx
          clear hbx hρ h5 h6 h7 hi2 hcc hz HMR
          generalize L[ρ].1 = x at *
          generalize L[ρ].2 = y at *
          replace HBN := Lib.hid (fun y2 => HBN.out y2 x y)
          go_wp2_with (first | ((with_reducible show wpList _ _ _ (⟨some 13, .alloc _, _, _, _, _⟩ :: _) _ _); refine wpList_alloc_var (o := ⟨some 13, _, _, _, _, _⟩) rfl 52 rfl bx HBS.out _ zero_taken ?_; intro y1 HA1 HB1) | ((with_reducible show wpList _ _ _ (⟨none, .store _ _ _, _, _, _, _⟩ :: _) _ _); refine wpList_store_whole (o := ⟨none, .store 52 (.tmp 13) (.tmp 60), _, _, _, _⟩) rfl _ _ _ rfl rfl bx #[.int .i64 x, .int .i64 y] rfl rfl 52 _ HA1.out size_taken rfl (ones2 x y) ?_; intro y2 HA2 HB2; have HX2 := Lib.hid (HBN.out y2 HA2.out); have HK2 := Lib.hid (HKr.out.b_step (w' := y2) (by rw [HBS.out]; exact HB1.out.trans HB2.out)); have d0 := HX2.out.c0; have d1 := HX2.out.c1))
          refine (HM1.out _ HK2.out.pb).mono ?_
          rintro e y3 ⟨rfl, hpl, ht⟩
          have HK3 := Lib.hid (HK2.out.step hpl ht)
          have HX3 := Lib.hid (HX2.out.step ht)
          have e0 := HX3.out.c0
          have e1 := HX3.out.c1
          clear hpl ht d0 d1
          go_wp2_with fail
          refine (mark_twice HK3.out.pb).mono ?_
          rintro e y4 ⟨rfl, hpl, ht⟩
          have HK4' := Lib.hid (HK3.out.step hpl ht)
          clear hpl ht e0 e1
          go_wp2
          go_roundg i
          case measure => omega
          case rel => exact ⟨(i : Int) - 1, _, by omega, by omega, rfl, HK4', HMN⟩

set_option maxRecDepth 100000 in
theorem lifted (os : Os) (started : os.Started) (H : Type) (enc : TypeId × Value → H) :
    ReturnsInHanded {} Try.checked os 7 .any (Rows.pallocMarksSpec.pre6 enc Try.prog Try.f7 Rows.pallocMarksRow.domain false) (Rows.pallocMarksSpec.post enc Try.prog Try.f7 false true false false) := by
  refine returnsInHanded_of_change (C := Try.checked) own started (by kernel_rfl) Try.func7
    (ChangeSpec.witness6 (enc := enc) (C := Try.checked) false ⟨#[], #[.int .i64 0, .slice none 0 0, .int .i64 0], []⟩ 8 (by kernel_rfl) (by kernel_rfl) (by kernel_rfl) (by kernel_rfl)) ?_
  intro W base args ds gs before hval0 hW hcnd _
  have hval : ∀ (j : Nat) t v, Try.f7.params[j]? = some t → args[j]? = some v → Value.okWide Try.prog W .any base t v := hval0
  have hW' := hW
  obtain ⟨p, q, hA0, hV, rfl, hfz, hnd⟩ := hW
  have hA : DataW.TrodAll enc Try.prog W 0 (fun _ => true) true Try.f7.params.toList args.toList ds p := hA0
  rw [Try.params7] at hA hval
  obtain ⟨v0, vs0, d0, ds0, p0, q0, hargs, rfl, rfl, h0, r0⟩ := trodAll_cons hA
  obtain ⟨v1, vs1, d1, ds1, p1, q1, rfl, rfl, rfl, h1, r1⟩ := trodAll_cons r0
  obtain ⟨v2, vs2, d2, ds2, p2, q2, rfl, rfl, rfl, h2, r2⟩ := trodAll_cons r1
  obtain ⟨rfl, rfl, rfl⟩ := trodAll_nil r2
  obtain rfl : args = #[v0, v1, v2] := by cases args; simp_all
  obtain ⟨rfl, rfl⟩ := trodVars_none hV
  obtain ⟨a0, rfl, rfl, rfl, w0⟩ := open_int Try.underlying3 (hval 0 3 v0 rfl rfl) h0
  obtain ⟨a1, len1, cap1, rfl⟩ := okWide_slice Try.underlying22 (hval 1 22 v1 rfl rfl)
  have k1 := h1
  have lt1 : ∀ x ∈ p1, x.block < W.heap.size := by obtain ⟨m, hm⟩ := k1; exact DataW.trod_lt m _ _ _ hm
  obtain ⟨z1, w1⟩ : ∃ zs, IsActs W a1 len1 zs := by
    obtain ⟨fuel, hf⟩ := h1
    exact isActs_of hf
  obtain ⟨a2, rfl, rfl, rfl, w2⟩ := open_int Try.underlying3 (hval 2 3 v2 rfl rfl) h2
  clear hA0 hval0
  refine (walk a0 a1 len1 cap1 z1 a2 W w0 w1 w2).mono fun e W' ⟨he, bel⟩ => ?_
  subst he
  exact ⟨_, rfl, _, _, _, [], _, [], hW', trodAll_mk1 (shut_bool Try.underlying4 _), (trodAll_cons_mk (shut_int Try.underlying3 w0) (trodAll_cons_mk (Below.trod laidOut (by kernel_rfl) (of_decide_eq_true (by kernel_rfl)) k1 bel lt1) (trodAll_cons_mk (shut_int Try.underlying3 w2) trodAll_mk0))), rfl, bel.frame _, fun h => by cases h⟩

theorem over : Rows.pallocMarksRow.holds Try.pinned (OpenSpec.ofChange Rows.pallocMarksSpec) :=
  OpenClaim.holds_of_wide 7 Try.f7 rfl rfl rfl rfl rfl rfl rfl ⟨rfl, rfl, rfl, rfl, rfl⟩ rfl rfl rfl rfl rfl (by kernel_rfl) Try.func7 (by kernel_rfl)
    (of_decide_eq_true (by kernel_rfl)) (by unfold Func.isWrapper; first | (rw [if_pos (by decide +kernel)]; kernel_rfl) | (rw [if_neg (by decide +kernel)]; exact ⟨rfl, rfl⟩))
    (fun os started H enc _ => lifted os started H enc)

theorem proved : Rows.PallocMarksSaid := over
#print axioms proved
end Go.Proofs.Ytjebpggoajfjkaa.pallocMarks
