/-
  Proved here: for every number and every list of acts the law NvmScript returns true, and the list reads as it did: whatever is stored, flushed, fenced, written back, cut and copied, each call answers as the chapter's own device does, and both copies of each line, the loose lines, those on their way, the counts and the number of lines are told so; what was lent stays, and what was answered shares no memory with the device (longer lists, and devices of 13 to 258 lines: the law asks the chapter's example alone).
  Conditions: none beyond the given statement's.
-/
import Derived.Test.YtgfbehdnmdmnhaaRows
import Derived.Test.YtgfbehdnmdmnhaaDone3
import Derived.IntWalk
import Derived.WalkSmall
import Derived.Deep.QuietTactic
import Derived.BigQuiet
import Derived.WalkKit
import Derived.ProofKit
import Derived.OpenShut
import Derived.ShutString
import Derived.ChangeOld
import Derived.Below
namespace Go.Proofs.Ytgfbehdnmdmnhaa.nvmScript
open Go.ChangeShapes Go.WideShapes Go.ChangeAt Go.RowKit
open Go.ChangeMaps (open_string shut_string)
set_option linter.unusedVariables false

theorem own : ownKnob Try.prog.godebug = none := by kernel_rfl
theorem laidOut : laidOutB Try.prog = true := by kernel_rfl

set_option maxHeartbeats 1600000 in
set_option maxRecDepth 100000 in
theorem awakened (a0 : Int) (a1 : Option Addr) (len1 cap1 : Nat) (w : World) (lg : Bool) (hlg : lg = true ∨ (lg = false ∧ 12 < a0 ∧ a0 ≤ 258)) (HLA : Hid (Calls Try.prog 10 #[.slice a1 len1 cap1] w fun e w' => e = .returned (.bool lg) ∧ ∃ k, w' = w.drewN k)) :
    Calls Try.prog 3 #[.int .i64 a0, .slice a1 len1 cap1] w fun e w' => e = .returned (.bool true) ∧ Below w.heap.size w w' := by
  rcases hlg with rfl | ⟨rfl, h1, h2⟩
  all_goals
    go_enter Try.func3, Try.ntmps3
    go_wp2_with fail
    refine HLA.out.mono ?_
    rintro e w' ⟨rfl, k, rfl⟩
    go_wp2_with fail
    refine (awake_any _).mono ?_
    rintro e w' ⟨rfl, hb⟩
    go_wp2
    go_ret
    exact ⟨rfl, (below_drewN (Below.refl _ _) k).trans hb⟩
set_option maxHeartbeats 1600000 in
set_option maxRecDepth 100000 in
theorem refused (a0 : Int) (a1 : Option Addr) (len1 cap1 : Nat) (w : World) (h0 : a0 < 1 ∨ 258 < a0) (HLA : Hid (Calls Try.prog 10 #[.slice a1 len1 cap1] w fun e w' => e = .returned (.bool false) ∧ ∃ k, w' = w.drewN k)) :
    Calls Try.prog 3 #[.int .i64 a0, .slice a1 len1 cap1] w fun e w' => e = .returned (.bool true) ∧ Below w.heap.size w w' := by
  have HN := Lib.hid (fun w => new_bad a0 h0 w)
  have HR := Lib.hid (fun w => rnew_bad a0 h0 w)
  rcases h0 with h1 | h1
  · have h2 : ¬ 12 < a0 := by omega
    go_enter Try.func3, Try.ntmps3
    go_wp2_with fail
    refine HLA.out.mono ?_
    rintro e w' ⟨rfl, k, rfl⟩
    go_wp2_with fail
    refine (HN.out _).mono ?_
    rintro e w' ⟨rfl, rfl⟩
    go_wp2_with fail
    refine (HR.out _).mono ?_
    rintro e w' ⟨rfl, rfl⟩
    go_wp2_with fail
    refine (num_any 2 _).mono ?_
    rintro e w' ⟨rfl, rfl⟩
    go_wp2_with fail
    refine (awake_any _).mono ?_
    rintro e w' ⟨rfl, hb⟩
    go_wp2
    go_ret
    exact ⟨rfl, (below_drewN (Below.refl _ _) k).trans hb⟩
  · have h2 : 12 < a0 := by omega
    have h3 : ¬ a0 ≤ 258 := by omega
    go_enter Try.func3, Try.ntmps3
    go_wp2_with fail
    refine HLA.out.mono ?_
    rintro e w' ⟨rfl, k, rfl⟩
    go_wp2_with fail
    refine (HN.out _).mono ?_
    rintro e w' ⟨rfl, rfl⟩
    go_wp2_with fail
    refine (HR.out _).mono ?_
    rintro e w' ⟨rfl, rfl⟩
    go_wp2_with fail
    refine (num_any 2 _).mono ?_
    rintro e w' ⟨rfl, rfl⟩
    go_wp2_with fail
    refine (awake_any _).mono ?_
    rintro e w' ⟨rfl, hb⟩
    go_wp2
    go_ret
    exact ⟨rfl, (below_drewN (Below.refl _ _) k).trans hb⟩
set_option maxHeartbeats 3200000 in
set_option maxRecDepth 100000 in
theorem played (n : Nat) (a1 : Option Addr) (len1 cap1 : Nat) (z1 : List ActV) (w : World) (h1 : 1 ≤ n) (h12 : n ≤ 12) (w1 : IsActs w a1 len1 z1) (hlg : largeB len1 z1 = false) (HLA : Hid (Calls Try.prog 10 #[.slice a1 len1 cap1] w fun e w' => e = .returned (.bool false) ∧ ∃ k, w' = w.drewN k)) :
    Calls Try.prog 3 #[.int .i64 (n : Int), .slice a1 len1 cap1] w fun e w' => e = .returned (.bool true) ∧ Below w.heap.size w w' := by
  obtain ⟨h80, hbig⟩ := largeB_false hlg
  have HN := Lib.hid (fun w => new_ok n h1 (by omega) w)
  have HR := Lib.hid (fun w => rnew_ok n h1 (by omega) w)
  have HBIG := Lib.hid hbig
  have HA1 := Lib.hid w1
  have hn12 : ¬ 12 < (n : Int) := by omega
  clear w1 hlg hbig h1
  go_enter Try.func3, Try.ntmps3
  go_wp2_with fail
  refine HLA.out.mono ?_
  rintro e w' ⟨rfl, k, rfl⟩
  go_wp2_with fail
  refine (HN.out _).mono ?_
  rintro e v1 ⟨p, q, rfl, hp, hq, hd, hb⟩
  have HD1 := Lib.hid hd
  have HB1 : Hid (Below w.heap.size w v1) := (below_drewN (Below.refl _ _) k).trans hb
  have HP : Hid (w.heap.size ≤ p ∧ w.heap.size ≤ q) := ⟨hp, hq⟩
  clear hp hq hd hb
  go_wp2_with fail
  refine (HR.out _).mono ?_
  rintro e v2 ⟨p', q', rfl, hp, hq, hd, hb⟩
  have HE2 := Lib.hid hd
  have HD2 := Lib.hid (HD1.out.below hb)
  have HB2 : Hid (Below w.heap.size w v2) := HB1.out.trans (hb.mono HB1.out.size)
  have HP' : Hid (w.heap.size ≤ p' ∧ w.heap.size ≤ q') := by have := HB1.out.size; show _ ∧ _; omega
  have HAP : Hid (p ≠ p' ∧ p ≠ q' ∧ q ≠ p' ∧ q ≠ q') := by have := HD1.out.lt_p; have := HD1.out.lt_q; show _ ∧ _; omega
  clear hp hq hd hb
  go_wp2_with fail
  refine (num_any 0 _).mono ?_
  rintro e w' ⟨rfl, rfl⟩
  have HSF := Lib.hid (sim_fresh n)
  go_wp2
  go_loopg [5, 9] len1 (fun gk s5 s9 wx => ∃ (i p q : Nat) (s r : St), i + gk = len1 ∧ s9 = .int .i64 i ∧ s5 = .pointer (some ⟨p, 0, none⟩) ∧ Hid (DvS wx p q s) ∧ Hid (DvT wx p' q' r) ∧ Hid (Sim s r) ∧ Hid (w.heap.size ≤ p ∧ w.heap.size ≤ q) ∧ Hid (p ≠ p' ∧ p ≠ q' ∧ q ≠ p' ∧ q ≠ q') ∧ Hid (Below w.heap.size w wx))
  case atStart => exact ⟨0, p, q, (fresh n, five0), (fresh n, five0), by omega, rfl, rfl, HD2, HE2, HSF, HP, HAP, HB2⟩
  case round =>
    clear HD1 HD2 HE2 HB1 HB2 HP HAP HSF HN HR
    obtain ⟨i, p, q, s, r, hig, rfl, rfl, HDr, HEr, HSr, HP, HAP, HBr⟩ := hrel
    cases gk with
    | zero =>
      obtain rfl : i = len1 := by omega
      have hii : ¬ (i : Int) < (i : Int) := by omega
      go_wp2_with fail
      refine (alike_any HDr.out HEr.out HSr.out).mono ?_
      rintro e v3 ⟨rfl, hb⟩
      have HB3 := Lib.hid (HBr.out.trans (hb.mono HBr.out.size))
      clear hb
      go_wp2_with fail
      refine (awake_any _).mono ?_
      rintro e v4 ⟨rfl, hb⟩
      go_wp2
      go_ret
      exact ⟨rfl, HB3.out.trans (hb.mono HB3.out.size)⟩
    | succ gk =>
      have hii : (i : Int) < (len1 : Int) := by omega
      obtain ⟨x, b, off, hx, rfl, hb, hok, hc⟩ := HA1.out.at_ (i := i) (by omega)
      have hxn := HBIG.out x (List.mem_of_getElem? hx)
      have HOK := Lib.hid hok
      have HXN := Lib.hid hxn
      have HCB : Hid (∀ W, Below w.heap.size w W → W.rangeAt b (off + i * 5) x.cells) := fun W hW j v hv => (hW.cell (p := ⟨b, off + i * 5 + j, none⟩) hb).trans (hc j v hv)
      have c0 : wr.cell? ⟨b, off + i * 5, none⟩ = some (.int .i64 x.kd) := (HBr.out.cell (p := ⟨b, off + i * 5, none⟩) hb).trans (hc 0 _ rfl)
      have HLC : Hid (x.cells.length = 5) := rfl
      have HSM := Lib.hid (HSr.out.play x)
      clear hc hx hok hxn hb
      rcases Classical.em (x.kd = 5) with h5 | h5
      · rw [h5] at c0
        clear h5
        go_wp2_with fail
        refine (copy_ok HDr.out).mono ?_
        rintro e v1 ⟨p2, q2, rfl, hp2, hq2, hd, hb⟩
        have HD1 := Lib.hid hd
        have HE1 := Lib.hid (HEr.out.below hb)
        have HB1 := Lib.hid (HBr.out.trans (hb.mono HBr.out.size))
        have HP2 : Hid (w.heap.size ≤ p2 ∧ w.heap.size ≤ q2) := by have := HBr.out.size; show _ ∧ _; omega
        have HAP2 : Hid (p2 ≠ p' ∧ p2 ≠ q' ∧ q2 ≠ p' ∧ q2 ≠ q') := by have := HEr.out.lt_p; have := HEr.out.lt_q; show _ ∧ _; omega
        clear hp2 hq2 hd hb c0
        have HDO := Lib.hid (done_any (s := s) (r := r) HD1.out HE1.out HSr.out x HOK.out HXN.out.1 HXN.out.2 HB1.out HP2.out.1 HP2.out.2 HP'.out.1 HP'.out.2 HAP2.out)
        have HRG := Lib.hid (HCB.out v1 HB1.out)
        generalize x.cells = C at *
        generalize s.play x = s1 at *
        generalize r.rplay x = r1 at *
        go_wp2_with (first
          | ((with_reducible show wpList _ _ _ (⟨some 66, _, _, _, _, _⟩ :: _) _ _); refine wpList_load_agg (o := ⟨some 66, _, _, _, _, _⟩) rfl 36 (.tmp 65) rfl b (off + i * 5) rfl C _ HRG.out Try.underlying36 rfl (by rw [HLC.out]; exact size_act) ?_)
          | ((with_reducible show Calls _ 16 _ _ _); refine HDO.out.mono ?_; rintro e v2 ⟨rfl, hd, he, hb⟩; have D2 := Lib.hid hd; have E2 := Lib.hid he; have B2 := Lib.hid hb; clear hd he hb)
          | ((with_reducible show Calls _ 17 _ _ _); refine (alike_any D2.out E2.out HSM.out).mono ?_; rintro e v3 ⟨rfl, hb⟩; have D3 := Lib.hid (D2.out.below hb); have E3 := Lib.hid (E2.out.below hb); have B3 := Lib.hid (B2.out.trans (hb.mono B2.out.size)); clear hb))
        go_roundg gk
        case measure => omega
        case rel => exact ⟨i + 1, p2, q2, s1, r1, by omega, by go_num, rfl, D3, E3, HSM, HP2, HAP2, B3⟩
      · have h6 : (x.kd == 5) = false := by simpa using h5
        have HDO := Lib.hid (done_any HDr.out HEr.out HSr.out x HOK.out HXN.out.1 HXN.out.2 HBr.out HP.out.1 HP.out.2 HP'.out.1 HP'.out.2 HAP.out)
        have HRG := Lib.hid (HCB.out wr HBr.out)
        generalize x.kd = kd at *
        generalize x.cells = C at *
        generalize s.play x = s1 at *
        generalize r.rplay x = r1 at *
        clear h5
        go_wp2_with (first
          | ((with_reducible show wpList _ _ _ (⟨some 66, _, _, _, _, _⟩ :: _) _ _); refine wpList_load_agg (o := ⟨some 66, _, _, _, _, _⟩) rfl 36 (.tmp 65) rfl b (off + i * 5) rfl C _ HRG.out Try.underlying36 rfl (by rw [HLC.out]; exact size_act) ?_)
          | ((with_reducible show Calls _ 16 _ _ _); refine HDO.out.mono ?_; rintro e v2 ⟨rfl, hd, he, hb⟩; have D2 := Lib.hid hd; have E2 := Lib.hid he; have B2 := Lib.hid hb; clear hd he hb)
          | ((with_reducible show Calls _ 17 _ _ _); refine (alike_any D2.out E2.out HSM.out).mono ?_; rintro e v3 ⟨rfl, hb⟩; have D3 := Lib.hid (D2.out.below hb); have E3 := Lib.hid (E2.out.below hb); have B3 := Lib.hid (B2.out.trans (hb.mono B2.out.size)); clear hb))
        go_roundg gk
        case measure => omega
        case rel => exact ⟨i + 1, p, q, s1, r1, by omega, by go_num, rfl, D3, E3, HSM, HP, HAP, B3⟩
theorem walk (a0 : Int) (a1 : Option Addr) (len1 cap1 : Nat) (z1 : List ActV) (w : World) (w0 : (Lit.int .i64 a0).wf = true) (w1 : IsActs w a1 len1 z1) :
    Calls Try.prog 3 #[.int .i64 a0, .slice a1 len1 cap1] w fun e w' => e = .returned (.bool true) ∧ Below w.heap.size w w' := by
  have HLA := Lib.hid (large_any (cap := cap1) w1)
  cases hlg : largeB len1 z1 with
  | true => rw [hlg] at HLA; exact awakened a0 a1 len1 cap1 w true (.inl rfl) HLA
  | false =>
    rw [hlg] at HLA
    rcases Classical.em (12 < a0 ∧ a0 ≤ 258) with h1 | h1
    · exact awakened a0 a1 len1 cap1 w false (.inr ⟨rfl, h1⟩) HLA
    · rcases Classical.em (a0 < 1 ∨ 258 < a0) with h2 | h2
      · exact refused a0 a1 len1 cap1 w h2 HLA
      · obtain ⟨n, rfl⟩ : ∃ n : Nat, a0 = (n : Int) := ⟨a0.toNat, by omega⟩
        exact played n a1 len1 cap1 z1 w (by omega) (by omega) w1 hlg HLA

set_option maxRecDepth 100000 in
theorem lifted (os : Os) (started : os.Started) (H : Type) (enc : TypeId × Value → H) :
    ReturnsInHanded {} Try.checked os 3 .any (Rows.nvmScriptSpec.pre6 enc Try.prog Try.f3 Rows.nvmScriptRow.domain false) (Rows.nvmScriptSpec.post enc Try.prog Try.f3 false true false false) := by
  refine returnsInHanded_of_change (C := Try.checked) own started (by kernel_rfl) Try.func3
    (ChangeSpec.witness6 (enc := enc) (C := Try.checked) false ⟨#[], #[.int .i64 0, .slice none 0 0], []⟩ 8 (by kernel_rfl) (by kernel_rfl) (by kernel_rfl) (by kernel_rfl)) ?_
  intro W base args ds gs before hval0 hW hcnd _
  have hval : ∀ (j : Nat) t v, Try.f3.params[j]? = some t → args[j]? = some v → Value.okWide Try.prog W .any base t v := hval0
  have hW' := hW
  obtain ⟨p, q, hA0, hV, rfl, hfz, hnd⟩ := hW
  have hA : DataW.TrodAll enc Try.prog W 0 (fun _ => true) true Try.f3.params.toList args.toList ds p := hA0
  rw [Try.params3] at hA hval
  obtain ⟨v0, vs0, d0, ds0, p0, q0, hargs, rfl, rfl, h0, r0⟩ := trodAll_cons hA
  obtain ⟨v1, vs1, d1, ds1, p1, q1, rfl, rfl, rfl, h1, r1⟩ := trodAll_cons r0
  obtain ⟨rfl, rfl, rfl⟩ := trodAll_nil r1
  obtain rfl : args = #[v0, v1] := by cases args; simp_all
  obtain ⟨rfl, rfl⟩ := trodVars_none hV
  obtain ⟨a0, rfl, rfl, rfl, w0⟩ := open_int Try.underlying3 (hval 0 3 v0 rfl rfl) h0
  obtain ⟨a1, len1, cap1, rfl⟩ := okWide_slice Try.underlying22 (hval 1 22 v1 rfl rfl)
  have k1 := h1
  have lt1 : ∀ x ∈ p1, x.block < W.heap.size := by obtain ⟨m, hm⟩ := k1; exact DataW.trod_lt m _ _ _ hm
  obtain ⟨z1, w1⟩ : ∃ zs, IsActs W a1 len1 zs := by
    obtain ⟨fuel, hf⟩ := h1
    exact isActs_of hf
  clear hA0 hval0
  refine (walk a0 a1 len1 cap1 z1 W w0 w1).mono fun e W' ⟨he, bel⟩ => ?_
  subst he
  exact ⟨_, rfl, _, _, _, [], _, [], hW', trodAll_mk1 (shut_bool Try.underlying4 _), (trodAll_cons_mk (shut_int Try.underlying3 w0) (trodAll_cons_mk (Below.trod laidOut (by kernel_rfl) (of_decide_eq_true (by kernel_rfl)) k1 bel lt1) trodAll_mk0)), rfl, bel.frame _, fun h => by cases h⟩

theorem over : Rows.nvmScriptRow.holds Try.pinned (OpenSpec.ofChange Rows.nvmScriptSpec) :=
  OpenClaim.holds_of_wide 3 Try.f3 rfl rfl rfl rfl rfl rfl rfl ⟨rfl, rfl, rfl, rfl, rfl⟩ rfl rfl rfl rfl rfl (by kernel_rfl) Try.func3 (by kernel_rfl)
    (of_decide_eq_true (by kernel_rfl)) (by unfold Func.isWrapper; first | (rw [if_pos (by decide +kernel)]; kernel_rfl) | (rw [if_neg (by decide +kernel)]; exact ⟨rfl, rfl⟩))
    (fun os started H enc _ => lifted os started H enc)

theorem proved : Rows.NvmScriptSaid := over
#print axioms proved
end Go.Proofs.Ytgfbehdnmdmnhaa.nvmScript
