/-
  Proved here: PallocSpace, the full form.
  Conditions: none.
-/
import Derived.Test.YtjebpggoajfjkaaRows
import Derived.Test.YtjebpggoajfjkaaPoolQ
import Derived.IntWalk
import Derived.WalkSmall
import Derived.Deep.QuietTactic
import Derived.BigQuiet
import Derived.WalkKit
import Derived.ProofKit
import Derived.OpenShut
import Derived.ShutString
import Derived.ChangeOld
import Derived.Below
namespace Go.Proofs.Ytjebpggoajfjkaa.pallocSpace
open Go.ChangeShapes Go.WideShapes Go.ChangeAt Go.RowKit
open Go.ChangeMaps (open_string shut_string)
set_option linter.unusedVariables false

theorem own : ownKnob Try.prog.godebug = none := by kernel_rfl
theorem laidOut : laidOutB Try.prog = true := by kernel_rfl

set_option maxRecDepth 100000 in
set_option maxHeartbeats 4000000 in
theorem walk (a0 : Int) (a1 : Option Addr) (len1 cap1 : Nat) (z1 : List ActP) (a2 : Int) (w : World) (w0 : (Lit.int .i64 a0).wf = true) (w1 : IsActs w a1 len1 z1) (w2 : (Lit.int .i64 a2).wf = true) :
    Calls Try.prog 5 #[.int .i64 a0, .slice a1 len1 cap1, .int .i64 a2] w fun e w' => e = .returned (.bool true) ∧ Below w.heap.size w w' := by
  have hlen := w1.2.1
  unfold maxLen at hlen
  rcases Nat.lt_or_ge 60 len1 with hl | hl
  · have h1 : (60 : Int) < (len1 : Int) := by omega
    have HAW := Lib.hid (awake_any w)
    clear w0 w1 w2 hl
    go_enter Try.func5, Try.ntmps5
    go_wp2_with fail
    refine HAW.out.mono ?_
    rintro e w' ⟨rfl, hb⟩
    have HB := Lib.hid hb
    clear hb
    go_wp2
    go_ret
    exact ⟨rfl, HB.out⟩
  · have h1 : ¬ (60 : Int) < (len1 : Int) := by omega
    have HPD := Lib.hid (played_any w a0 a1 len1 cap1 z1 w1)
    unfold PlayedTo at HPD
    generalize playedL (1 + low a0 32) z1 = L at *
    generalize 1 + low a0 32 = n at *
    have HLW : Hid (Calls Try.prog 30 #[.int .i64 a2, .int .i64 4] w fun e w' => e = .returned (.int .i64 (low a2 4 : Nat)) ∧ w = w') := low_any a2 4 w (by omega) (by omega)
    have hc4 := low_lt a2 (n := 4) (by omega)
    generalize low a2 4 = c at *
    have HCC : Hid (0 ≤ (c : Int) ∧ (c : Int) ≤ 3) := ⟨by omega, by omega⟩
    have HGG : Hid (w.heap.size = w.heap.size) := rfl
    obtain ⟨g, hg⟩ : ∃ g, w.heap.size = g := ⟨_, rfl⟩
    rw [hg] at HPD ⊢
    have HG := Lib.hid hg
    clear w0 w1 w2 hl hg HGG
    go_enter Try.func5, Try.ntmps5
    go_wp2_with fail
    refine HLW.out.mono ?_
    rintro e w' ⟨rfl, rfl⟩
    go_wp2_with fail
    refine HPD.out.mono ?_
    rintro e v1 ⟨p, q, rfl, hp, hq, hpl, hb⟩
    have HP := Lib.hid hp
    have HQ := Lib.hid hq
    have hn1 := hpl.one
    have hn2 := hpl.most
    have HP1 := Lib.hid hpl
    have HPO := Lib.hid hpl.pool
    have HLL : Hid (L.length ≤ 256) := by have h1 := pool_len hpl.pool; have h2 := hpl.most; show L.length ≤ 256; omega
    have HB := Lib.hid hb
    have HR1 : Hid (Turns p q v1 v1) := Turns.refl _ _ _
    clear hp hq hpl hb
    have HTK : Hid (∀ w', PlP w' p q n L → Calls Try.prog 15 #[.pointer (some ⟨p, 0, none⟩), .int .i64 c] w' fun e w2 => e = .returned (.tuple #[.int .i64 (takeV n L c), .int .i64 (takeE n L c)]) ∧ PlP w2 p q n (takeL n L c) ∧ Turns p q w' w2) := fun w' h => take_any h c
    go_wp2_with fail
    refine (taken_he HP1.out).mono ?_
    rintro e v2 ⟨AT, capT, rfl, hh, hpl, ht⟩
    have HHT2 := Lib.hid hh
    have HP2 := Lib.hid hpl
    have HR2 : Hid (Turns p q v1 v2) := HR1.out.trans ht
    clear hpl ht hh
    go_wp2_with fail
    refine (slabs_he HP2.out).mono ?_
    rintro e v3 ⟨AS, capS, rfl, hh, hpl, ht⟩
    have HHS3 := Lib.hid hh
    have HP3 := Lib.hid hpl
    have HR3 : Hid (Turns p q v1 v3) := HR2.out.trans ht
    have HHT3 := Lib.hid (HHT2.out.turns ht)
    clear hpl ht hh
    clear HP2 HR2 HHT2
    go_wp2_with fail
    refine (free_he HP3.out c).mono ?_
    rintro e v4 ⟨AF, capF, rfl, hh, hpl, ht⟩
    have HHF4 := Lib.hid hh
    have HP4 := Lib.hid hpl
    have HR4 : Hid (Turns p q v1 v4) := HR3.out.trans ht
    have HHT4 := Lib.hid (HHT3.out.turns ht)
    have HHS4 := Lib.hid (HHS3.out.turns ht)
    clear hpl ht hh
    clear HP3 HR3 HHT3 HHS3
    have HRM := Lib.hid (room_all (n := n) (L := L) (c := c) hn2)
    have hfl := freeL_le n L c
    generalize freeL n L c = fl at *
    obtain ⟨f, hf⟩ : ∃ f, fl.length = f := ⟨_, rfl⟩
    rw [hf] at HRM hfl ⊢
    obtain ⟨m, hm⟩ : ∃ m, L.length = m := ⟨_, rfl⟩
    rw [hm]
    have HM := Lib.hid hm
    have hm2 : m ≤ 256 := by have := HLL.out; omega
    have hf2 : f ≤ 256 := by omega
    obtain ⟨rb, hrb⟩ : ∃ rb, decide (0 < f) = rb := ⟨_, rfl⟩
    have hrb2 : decide ((0 : Int) < (f : Int)) = rb := by rw [← hrb]; simp
    have HRB : Hid (rb = roomTo L f 0) := by show _ = _; rw [← hrb]; simp [roomTo]
    clear hf hm hfl
    go_wp2
    clear hrb hrb2
    go_loopg [10, 11] n (fun gk s10 s11 wx => ∃ (i : Nat) (b : Bool), i + gk = n ∧ s11 = .int .i64 i ∧ s10 = .bool b ∧ Hid (b = roomTo L f i) ∧ v4 = wx)
    case atStart => exact ⟨0, rb, by omega, rfl, rfl, HRB, rfl⟩
    case round =>
      obtain ⟨i, rc, hin, rfl, rfl, HRC, rfl⟩ := hrel
      cases gk with
      | zero =>
        obtain rfl : i = n := by omega
        have hii : ¬ (i : Int) < (i : Int) := by omega
        have hrc := HRC.out.trans HRM.out
        rcases Classical.em (0 ≤ nextL i L c) with hx | hx
        · rw [decide_eq_true hx] at hrc
          subst hrc
          have hE : takeE i L c = 0 := by unfold takeE; rw [if_pos HCC.out, if_pos hx]
          have hV : takeV i L c = nextL i L c := by unfold takeV; rw [if_pos ⟨HCC.out, hx⟩]
          have HNO := Lib.hid (next_ok HPO.out hn2 HCC.out hx).2.2.1
          rw [hE, hV] at HTK
          clear hE hV hx HRC HRM
          generalize takeL i L c = M at *
          generalize nextL i L c = x at *
          go_wp2_with fail
          refine (HTK.out _ HP4.out).mono ?_
          rintro e v5 ⟨rfl, hpl, ht⟩
          have HP5 := Lib.hid hpl
          have HR5 : Hid (Turns p q v1 v5) := HR4.out.trans ht
          have HHT5 := Lib.hid (HHT4.out.turns ht)
          have HHS5 := Lib.hid (HHS4.out.turns ht)
          have HHF5 := Lib.hid (HHF4.out.turns ht)
          clear hpl ht
          clear HP4 HR4 HHT4 HHS4 HHF4
          go_wp2
          go_loopg [14] m (fun gk s14 wx => ∃ j : Nat, j + gk = m ∧ s14 = .int .i64 j ∧ v5 = wx)
          case atStart => exact ⟨0, by omega, rfl, rfl⟩
          case round =>
            obtain ⟨j, hjm, rfl, rfl⟩ := hrel
            cases gk with
            | zero =>
              obtain rfl : j = m := by omega
              have hjj : ¬ (j : Int) < (j : Int) := by omega
              go_wp2_with fail
              refine (awake_he HG.out HP.out HQ.out HB.out HR5.out).mono ?_
              rintro e w' ⟨rfl, hb⟩
              have HBE := Lib.hid hb
              clear hb
              go_wp2
              go_ret
              exact ⟨rfl, HBE.out⟩
            | succ gk =>
              have hjj : (j : Int) < (m : Int) := by omega
              have hjl : j < L.length := by have := HM.out; omega
              obtain ⟨b, off, rfl, hc1, hc2⟩ := HHT5.out.at_ hjl
              have hne := HNO.out _ (List.getElem_mem hjl)
              have hnf : (L[j].1 == x) = false := by simpa using hne
              generalize L[j].1 = y at *
              clear hne hc2
              go_wp2
              go_roundg gk
              case measure => omega
              case rel => exact ⟨j + 1, by omega, by go_num, rfl⟩
        · rw [decide_eq_false hx] at hrc
          subst hrc
          have hE : takeE i L c = 4 := by unfold takeE; rw [if_pos HCC.out, if_neg hx]
          have hV : takeV i L c = 0 := by unfold takeV; rw [if_neg (fun h => hx h.2)]
          have hL : takeL i L c = L := by unfold takeL; rw [if_neg (fun h => hx h.2)]
          rw [hE, hV, hL] at HTK
          clear hE hV hL hx HRC HRM
          go_wp2_with fail
          refine (HTK.out _ HP4.out).mono ?_
          rintro e v5 ⟨rfl, hpl, ht⟩
          have HP5 := Lib.hid hpl
          have HR5 : Hid (Turns p q v1 v5) := HR4.out.trans ht
          have HHT5 := Lib.hid (HHT4.out.turns ht)
          have HHS5 := Lib.hid (HHS4.out.turns ht)
          have HHF5 := Lib.hid (HHF4.out.turns ht)
          clear hpl ht
          clear HP4 HR4 HHT4 HHS4 HHF4
          go_wp2_with fail
          refine (taken_he HP5.out).mono ?_
          rintro e v6 ⟨AU, capU, rfl, hh, hpl, ht⟩
          have HHU6 := Lib.hid hh
          have HP6 := Lib.hid hpl
          have HR6 : Hid (Turns p q v1 v6) := HR5.out.trans ht
          have HHT6 := Lib.hid (HHT5.out.turns ht)
          have HHS6 := Lib.hid (HHS5.out.turns ht)
          have HHF6 := Lib.hid (HHF5.out.turns ht)
          clear hpl ht hh
          clear HP5 HR5 HHT5 HHS5 HHF5
          rw [HM.out]
          go_wp2_with fail
          refine (samet_he HP6.out HM.out HHU6.out HHT6.out).mono ?_
          rintro e v7 ⟨rfl, hpl, ht⟩
          have HP7 := Lib.hid hpl
          have HR7 : Hid (Turns p q v1 v7) := HR6.out.trans ht
          have HHT7 := Lib.hid (HHT6.out.turns ht)
          have HHS7 := Lib.hid (HHS6.out.turns ht)
          have HHF7 := Lib.hid (HHF6.out.turns ht)
          have HHU7 := Lib.hid (HHU6.out.turns ht)
          clear hpl ht
          clear HP6 HR6 HHT6 HHS6 HHF6 HHU6
          go_wp2
          go_loopg [14] 0 (fun gk s14 wx => gk = 0 ∧ s14 = .int .i64 0 ∧ v7 = wx)
          case atStart => exact ⟨rfl, rfl, rfl⟩
          case round =>
            obtain ⟨rfl, rfl, rfl⟩ := hrel
            rcases Nat.eq_zero_or_pos m with h0 | h0
            · have hd1 : decide ((0 : Int) < (m : Int)) = false := decide_eq_false (by omega)
              have hd2 : decide (0 < m) = false := decide_eq_false (by omega)
              clear h0
              go_wp2_with fail
              refine (awake_he HG.out HP.out HQ.out HB.out HR7.out).mono ?_
              rintro e w' ⟨rfl, hb⟩
              have HBE := Lib.hid hb
              clear hb
              go_wp2
              go_ret
              exact ⟨rfl, HBE.out⟩
            · have hd1 : decide ((0 : Int) < (m : Int)) = true := decide_eq_true (by omega)
              have hd2 : decide (0 < m) = true := decide_eq_true (by omega)
              clear h0
              go_wp2_with fail
              refine (awake_he HG.out HP.out HQ.out HB.out HR7.out).mono ?_
              rintro e w' ⟨rfl, hb⟩
              have HBE := Lib.hid hb
              clear hb
              go_wp2
              go_ret
              exact ⟨rfl, HBE.out⟩
      | succ gk =>
        have hii : (i : Int) < (n : Int) := by omega
        obtain ⟨b, off, rfl, hcell⟩ := HHS4.out.gt (i := i) (by rw [slabsL_len]; omega)
        rw [slabsL_at _ _ _ (by omega)] at hcell
        have HNX := Lib.hid (roomTo_succ L f i)
        rw [← HRC.out] at HNX
        obtain ⟨z, hz⟩ : ∃ z, (clsAt L i == -1) = z := ⟨_, rfl⟩
        rw [hz] at HNX
        generalize clsAt L i = y at *
        cases rc with
        | true =>
          clear hz
          go_wp2
          go_roundg gk
          case measure => omega
          case rel => exact ⟨i + 1, true, by omega, by go_num, rfl, HNX.out, rfl⟩
        | false =>
          go_wp2
          go_roundg gk
          case measure => omega
          case rel => exact ⟨i + 1, z, by omega, by go_num, rfl, HNX.out, rfl⟩

set_option maxRecDepth 100000 in
theorem lifted (os : Os) (started : os.Started) (H : Type) (enc : TypeId × Value → H) :
    ReturnsInHanded {} Try.checked os 5 .any (Rows.pallocSpaceSpec.pre6 enc Try.prog Try.f5 Rows.pallocSpaceRow.domain false) (Rows.pallocSpaceSpec.post enc Try.prog Try.f5 false true false false) := by
  refine returnsInHanded_of_change (C := Try.checked) own started (by kernel_rfl) Try.func5
    (ChangeSpec.witness6 (enc := enc) (C := Try.checked) false ⟨#[], #[.int .i64 0, .slice none 0 0, .int .i64 0], []⟩ 8 (by kernel_rfl) (by kernel_rfl) (by kernel_rfl) (by kernel_rfl)) ?_
  intro W base args ds gs before hval0 hW hcnd _
  have hval : ∀ (j : Nat) t v, Try.f5.params[j]? = some t → args[j]? = some v → Value.okWide Try.prog W .any base t v := hval0
  have hW' := hW
  obtain ⟨p, q, hA0, hV, rfl, hfz, hnd⟩ := hW
  have hA : DataW.TrodAll enc Try.prog W 0 (fun _ => true) true Try.f5.params.toList args.toList ds p := hA0
  rw [Try.params5] at hA hval
  obtain ⟨v0, vs0, d0, ds0, p0, q0, hargs, rfl, rfl, h0, r0⟩ := trodAll_cons hA
  obtain ⟨v1, vs1, d1, ds1, p1, q1, rfl, rfl, rfl, h1, r1⟩ := trodAll_cons r0
  obtain ⟨v2, vs2, d2, ds2, p2, q2, rfl, rfl, rfl, h2, r2⟩ := trodAll_cons r1
  obtain ⟨rfl, rfl, rfl⟩ := trodAll_nil r2
  obtain rfl : args = #[v0, v1, v2] := by cases args; simp_all
  obtain ⟨rfl, rfl⟩ := trodVars_none hV
  obtain ⟨a0, rfl, rfl, rfl, w0⟩ := open_int Try.underlying3 (hval 0 3 v0 rfl rfl) h0
  obtain ⟨a1, len1, cap1, rfl⟩ := okWide_slice Try.underlying22 (hval 1 22 v1 rfl rfl)
  have k1 := h1
  have lt1 : ∀ x ∈ p1, x.block < W.heap.size := by obtain ⟨m, hm⟩ := k1; exact DataW.trod_lt m _ _ _ hm
  obtain ⟨z1, w1⟩ : ∃ zs, IsActs W a1 len1 zs := by
    obtain ⟨fuel, hf⟩ := h1
    exact isActs_of hf
  obtain ⟨a2, rfl, rfl, rfl, w2⟩ := open_int Try.underlying3 (hval 2 3 v2 rfl rfl) h2
  clear hA0 hval0
  refine (walk a0 a1 len1 cap1 z1 a2 W w0 w1 w2).mono fun e W' ⟨he, bel⟩ => ?_
  subst he
  exact ⟨_, rfl, _, _, _, [], _, [], hW', trodAll_mk1 (shut_bool Try.underlying4 _), (trodAll_cons_mk (shut_int Try.underlying3 w0) (trodAll_cons_mk (Below.trod laidOut (by kernel_rfl) (of_decide_eq_true (by kernel_rfl)) k1 bel lt1) (trodAll_cons_mk (shut_int Try.underlying3 w2) trodAll_mk0))), rfl, bel.frame _, fun h => by cases h⟩

theorem over : Rows.pallocSpaceRow.holds Try.pinned (OpenSpec.ofChange Rows.pallocSpaceSpec) :=
  OpenClaim.holds_of_wide 5 Try.f5 rfl rfl rfl rfl rfl rfl rfl ⟨rfl, rfl, rfl, rfl, rfl⟩ rfl rfl rfl rfl rfl (by kernel_rfl) Try.func5 (by kernel_rfl)
    (of_decide_eq_true (by kernel_rfl)) (by unfold Func.isWrapper; first | (rw [if_pos (by decide +kernel)]; kernel_rfl) | (rw [if_neg (by decide +kernel)]; exact ⟨rfl, rfl⟩))
    (fun os started H enc _ => lifted os started H enc)

theorem proved : Rows.PallocSpaceSaid := over
#print axioms proved
end Go.Proofs.Ytjebpggoajfjkaa.pallocSpace
