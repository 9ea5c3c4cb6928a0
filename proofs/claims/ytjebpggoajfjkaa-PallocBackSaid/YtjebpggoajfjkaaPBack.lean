/-
  Proved here: PallocBack, the full form.
  Conditions: none.
-/
import Derived.Test.YtjebpggoajfjkaaRows
import Derived.Test.YtjebpggoajfjkaaPoolQ
import Derived.IntWalk
import Derived.WalkSmall
import Derived.Deep.QuietTactic
import Derived.BigQuiet
import Derived.WalkKit
import Derived.ProofKit
import Derived.OpenShut
import Derived.ShutString
import Derived.ChangeOld
import Derived.Below
namespace Go.Proofs.Ytjebpggoajfjkaa.pallocBack
open Go.ChangeShapes Go.WideShapes Go.ChangeAt Go.RowKit
open Go.ChangeMaps (open_string shut_string)
set_option linter.unusedVariables false

theorem own : ownKnob Try.prog.godebug = none := by kernel_rfl
theorem laidOut : laidOutB Try.prog = true := by kernel_rfl

set_option maxRecDepth 100000 in
set_option maxHeartbeats 4000000 in
theorem walk (a0 : Int) (a1 : Option Addr) (len1 cap1 : Nat) (z1 : List ActP) (a2 : Int) (w : World) (w0 : (Lit.int .i64 a0).wf = true) (w1 : IsActs w a1 len1 z1) (w2 : (Lit.int .i64 a2).wf = true) :
    Calls Try.prog 6 #[.int .i64 a0, .slice a1 len1 cap1, .int .i64 a2] w fun e w' => e = .returned (.bool true) ∧ Below w.heap.size w w' := by
  have hlen := w1.2.1
  unfold maxLen at hlen
  rcases Nat.lt_or_ge 60 len1 with hl | hl
  · have h1 : (60 : Int) < (len1 : Int) := by omega
    have HAW := Lib.hid (awake_any w)
    clear w0 w1 w2 hl
    go_enter Try.func6, Try.ntmps6
    go_wp2_with fail
    refine HAW.out.mono ?_
    rintro e w' ⟨rfl, hb⟩
    have HB := Lib.hid hb
    clear hb
    go_wp2
    go_ret
    exact ⟨rfl, HB.out⟩
  · have h1 : ¬ (60 : Int) < (len1 : Int) := by omega
    have HPD := Lib.hid (played_any w a0 a1 len1 cap1 z1 w1)
    unfold PlayedTo at HPD
    generalize playedL (1 + low a0 32) z1 = L at *
    generalize 1 + low a0 32 = n at *
    have HLW : Hid (Calls Try.prog 30 #[.int .i64 a2, .int .i64 4] w fun e w' => e = .returned (.int .i64 (low a2 4 : Nat)) ∧ w = w') := low_any a2 4 w (by omega) (by omega)
    have hc4 := low_lt a2 (n := 4) (by omega)
    generalize low a2 4 = c at *
    have HCC : Hid (0 ≤ (c : Int) ∧ (c : Int) ≤ 3) := ⟨by omega, by omega⟩
    have HGG : Hid (w.heap.size = w.heap.size) := rfl
    obtain ⟨g, hg⟩ : ∃ g, w.heap.size = g := ⟨_, rfl⟩
    rw [hg] at HPD ⊢
    have HG := Lib.hid hg
    clear w0 w1 w2 hl hg HGG
    go_enter Try.func6, Try.ntmps6
    go_wp2_with fail
    refine HLW.out.mono ?_
    rintro e w' ⟨rfl, rfl⟩
    go_wp2_with fail
    refine HPD.out.mono ?_
    rintro e v1 ⟨p, q, rfl, hp, hq, hpl, hb⟩
    have HP := Lib.hid hp
    have HQ := Lib.hid hq
    have hn1 := hpl.one
    have hn2 := hpl.most
    have HP1 := Lib.hid hpl
    have HPO := Lib.hid hpl.pool
    have HLL : Hid (L.length ≤ 256) := by have h1 := pool_len hpl.pool; have h2 := hpl.most; show L.length ≤ 256; omega
    have HB := Lib.hid hb
    have HR1 : Hid (Turns p q v1 v1) := Turns.refl _ _ _
    clear hp hq hpl hb
    go_wp2_with fail
    refine (taken_he HP1.out).mono ?_
    rintro e v2 ⟨AT, capT, rfl, hh, hpl, ht⟩
    have HHT2 := Lib.hid hh
    have HP2 := Lib.hid hpl
    have HR2 : Hid (Turns p q v1 v2) := HR1.out.trans ht
    clear hpl ht hh
    go_wp2_with fail
    refine (slabs_he HP2.out).mono ?_
    rintro e v3 ⟨AS, capS, rfl, hh, hpl, ht⟩
    have HHS3 := Lib.hid hh
    have HP3 := Lib.hid hpl
    have HR3 : Hid (Turns p q v1 v3) := HR2.out.trans ht
    have HHT3 := Lib.hid (HHT2.out.turns ht)
    clear hpl ht hh
    clear HP2 HR2 HHT2
    have HTK : Hid (∀ w', PlP w' p q n L → Calls Try.prog 15 #[.pointer (some ⟨p, 0, none⟩), .int .i64 c] w' fun e w2 => e = .returned (.tuple #[.int .i64 (takeV n L c), .int .i64 (takeE n L c)]) ∧ PlP w2 p q n (takeL n L c) ∧ Turns p q w' w2) := fun w' h => take_any h c
    rcases Classical.em (0 ≤ nextL n L c) with hx | hx
    · have hE : takeE n L c = 0 := by unfold takeE; rw [if_pos HCC.out, if_pos hx]
      have hV : takeV n L c = nextL n L c := by unfold takeV; rw [if_pos ⟨HCC.out, hx⟩]
      have hL : takeL n L c = putL L (nextL n L c) c := by unfold takeL; rw [if_pos ⟨HCC.out, hx⟩]
      have hno := (next_ok HPO.out hn2 HCC.out hx).2.2.1
      rw [hE, hV, hL] at HTK
      have HG1 : Hid (∀ w', PlP w' p q n (putL L (nextL n L c) c) → Calls Try.prog 17 #[.pointer (some ⟨p, 0, none⟩), .int .i64 (nextL n L c)] w' fun e w2 => e = .returned (.int .i64 0) ∧ PlP w2 p q n L ∧ Turns p q w' w2) := fun w' h => by
        have h1 := give_any h (nextL n L c)
        rw [give_put HPO.out.rising hno] at h1
        have h2 : giveE (putL L (nextL n L c) c) (nextL n L c) = 0 := by unfold giveE; rw [ofL_put HPO.out.rising hno, if_pos rfl]; rfl
        rw [h2] at h1
        exact h1
      have HG2 : Hid (∀ w', PlP w' p q n L → Calls Try.prog 17 #[.pointer (some ⟨p, 0, none⟩), .int .i64 (nextL n L c)] w' fun e w2 => e = .returned (.int .i64 1) ∧ PlP w2 p q n L ∧ Turns p q w' w2) := fun w' h => by
        have h1 := give_any h (nextL n L c)
        rw [give_none (ofL_none.2 hno)] at h1
        have h2 : giveE L (nextL n L c) = 1 := by unfold giveE; rw [ofL_none.2 hno]; rfl
        rw [h2] at h1
        exact h1
      clear hE hV hL hno hx
      generalize nextL n L c = x at *
      generalize putL L x c = M at *
      have hxx : (x == x) = true := by simp
      go_wp2_with fail
      refine (HTK.out _ HP3.out).mono ?_
      rintro e v4 ⟨rfl, hpl, ht⟩
      have HP4 := Lib.hid hpl
      have HR4 : Hid (Turns p q v1 v4) := HR3.out.trans ht
      have HHT4 := Lib.hid (HHT3.out.turns ht)
      have HHS4 := Lib.hid (HHS3.out.turns ht)
      clear hpl ht
      clear HP3 HR3 HHT3 HHS3
      go_wp2_with fail
      refine (HG1.out _ HP4.out).mono ?_
      rintro e v5 ⟨rfl, hpl, ht⟩
      have HP5 := Lib.hid hpl
      have HR5 : Hid (Turns p q v1 v5) := HR4.out.trans ht
      have HHT5 := Lib.hid (HHT4.out.turns ht)
      have HHS5 := Lib.hid (HHS4.out.turns ht)
      clear hpl ht
      clear HP4 HR4 HHT4 HHS4
      go_wp2_with fail
      refine (HG2.out _ HP5.out).mono ?_
      rintro e v6 ⟨rfl, hpl, ht⟩
      have HP6 := Lib.hid hpl
      have HR6 : Hid (Turns p q v1 v6) := HR5.out.trans ht
      have HHT6 := Lib.hid (HHT5.out.turns ht)
      have HHS6 := Lib.hid (HHS5.out.turns ht)
      clear hpl ht
      clear HP5 HR5 HHT5 HHS5
      go_wp2_with fail
      refine (taken_he HP6.out).mono ?_
      rintro e v7 ⟨AU, capU, rfl, hh, hpl, ht⟩
      have HHU7 := Lib.hid hh
      have HP7 := Lib.hid hpl
      have HR7 : Hid (Turns p q v1 v7) := HR6.out.trans ht
      have HHT7 := Lib.hid (HHT6.out.turns ht)
      have HHS7 := Lib.hid (HHS6.out.turns ht)
      clear hpl ht hh
      clear HP6 HR6 HHT6 HHS6
      go_wp2_with fail
      refine (samet_he HP7.out rfl HHU7.out HHT7.out).mono ?_
      rintro e v8 ⟨rfl, hpl, ht⟩
      have HP8 := Lib.hid hpl
      have HR8 : Hid (Turns p q v1 v8) := HR7.out.trans ht
      have HHT8 := Lib.hid (HHT7.out.turns ht)
      have HHS8 := Lib.hid (HHS7.out.turns ht)
      have HHU8 := Lib.hid (HHU7.out.turns ht)
      clear hpl ht
      clear HP7 HR7 HHT7 HHS7 HHU7
      go_wp2_with fail
      refine (slabs_he HP8.out).mono ?_
      rintro e v9 ⟨AV, capV, rfl, hh, hpl, ht⟩
      have HHV9 := Lib.hid hh
      have HP9 := Lib.hid hpl
      have HR9 : Hid (Turns p q v1 v9) := HR8.out.trans ht
      have HHT9 := Lib.hid (HHT8.out.turns ht)
      have HHS9 := Lib.hid (HHS8.out.turns ht)
      have HHU9 := Lib.hid (HHU8.out.turns ht)
      clear hpl ht hh
      clear HP8 HR8 HHT8 HHS8 HHU8
      go_wp2_with fail
      refine (samei_he HP9.out (slabsL_len n L) HHV9.out HHS9.out).mono ?_
      rintro e v10 ⟨rfl, hpl, ht⟩
      have HP10 := Lib.hid hpl
      have HR10 : Hid (Turns p q v1 v10) := HR9.out.trans ht
      have HHT10 := Lib.hid (HHT9.out.turns ht)
      have HHS10 := Lib.hid (HHS9.out.turns ht)
      have HHU10 := Lib.hid (HHU9.out.turns ht)
      have HHV10 := Lib.hid (HHV9.out.turns ht)
      clear hpl ht
      clear HP9 HR9 HHT9 HHS9 HHU9 HHV9
      go_wp2_with fail
      refine (HTK.out _ HP10.out).mono ?_
      rintro e v11 ⟨rfl, hpl, ht⟩
      have HP11 := Lib.hid hpl
      have HR11 : Hid (Turns p q v1 v11) := HR10.out.trans ht
      have HHT11 := Lib.hid (HHT10.out.turns ht)
      have HHS11 := Lib.hid (HHS10.out.turns ht)
      have HHU11 := Lib.hid (HHU10.out.turns ht)
      have HHV11 := Lib.hid (HHV10.out.turns ht)
      clear hpl ht
      clear HP10 HR10 HHT10 HHS10 HHU10 HHV10
      go_wp2_with fail
      refine (awake_he HG.out HP.out HQ.out HB.out HR11.out).mono ?_
      rintro e w' ⟨rfl, hb⟩
      have HBE := Lib.hid hb
      clear hb
      go_wp2
      go_ret
      exact ⟨rfl, HBE.out⟩
    · have hE : takeE n L c = 4 := by unfold takeE; rw [if_pos HCC.out, if_neg hx]
      rw [hE] at HTK
      clear hx hE
      go_wp2_with fail
      refine (HTK.out _ HP3.out).mono ?_
      rintro e v4 ⟨rfl, hpl, ht⟩
      have HP4 := Lib.hid hpl
      have HR4 : Hid (Turns p q v1 v4) := HR3.out.trans ht
      have HHT4 := Lib.hid (HHT3.out.turns ht)
      have HHS4 := Lib.hid (HHS3.out.turns ht)
      clear hpl ht
      clear HP3 HR3 HHT3 HHS3
      go_wp2_with fail
      refine (awake_he HG.out HP.out HQ.out HB.out HR4.out).mono ?_
      rintro e w' ⟨rfl, hb⟩
      have HBE := Lib.hid hb
      clear hb
      go_wp2
      go_ret
      exact ⟨rfl, HBE.out⟩

set_option maxRecDepth 100000 in
theorem lifted (os : Os) (started : os.Started) (H : Type) (enc : TypeId × Value → H) :
    ReturnsInHanded {} Try.checked os 6 .any (Rows.pallocBackSpec.pre6 enc Try.prog Try.f6 Rows.pallocBackRow.domain false) (Rows.pallocBackSpec.post enc Try.prog Try.f6 false true false false) := by
  refine returnsInHanded_of_change (C := Try.checked) own started (by kernel_rfl) Try.func6
    (ChangeSpec.witness6 (enc := enc) (C := Try.checked) false ⟨#[], #[.int .i64 0, .slice none 0 0, .int .i64 0], []⟩ 8 (by kernel_rfl) (by kernel_rfl) (by kernel_rfl) (by kernel_rfl)) ?_
  intro W base args ds gs before hval0 hW hcnd _
  have hval : ∀ (j : Nat) t v, Try.f6.params[j]? = some t → args[j]? = some v → Value.okWide Try.prog W .any base t v := hval0
  have hW' := hW
  obtain ⟨p, q, hA0, hV, rfl, hfz, hnd⟩ := hW
  have hA : DataW.TrodAll enc Try.prog W 0 (fun _ => true) true Try.f6.params.toList args.toList ds p := hA0
  rw [Try.params6] at hA hval
  obtain ⟨v0, vs0, d0, ds0, p0, q0, hargs, rfl, rfl, h0, r0⟩ := trodAll_cons hA
  obtain ⟨v1, vs1, d1, ds1, p1, q1, rfl, rfl, rfl, h1, r1⟩ := trodAll_cons r0
  obtain ⟨v2, vs2, d2, ds2, p2, q2, rfl, rfl, rfl, h2, r2⟩ := trodAll_cons r1
  obtain ⟨rfl, rfl, rfl⟩ := trodAll_nil r2
  obtain rfl : args = #[v0, v1, v2] := by cases args; simp_all
  obtain ⟨rfl, rfl⟩ := trodVars_none hV
  obtain ⟨a0, rfl, rfl, rfl, w0⟩ := open_int Try.underlying3 (hval 0 3 v0 rfl rfl) h0
  obtain ⟨a1, len1, cap1, rfl⟩ := okWide_slice Try.underlying22 (hval 1 22 v1 rfl rfl)
  have k1 := h1
  have lt1 : ∀ x ∈ p1, x.block < W.heap.size := by obtain ⟨m, hm⟩ := k1; exact DataW.trod_lt m _ _ _ hm
  obtain ⟨z1, w1⟩ : ∃ zs, IsActs W a1 len1 zs := by
    obtain ⟨fuel, hf⟩ := h1
    exact isActs_of hf
  obtain ⟨a2, rfl, rfl, rfl, w2⟩ := open_int Try.underlying3 (hval 2 3 v2 rfl rfl) h2
  clear hA0 hval0
  refine (walk a0 a1 len1 cap1 z1 a2 W w0 w1 w2).mono fun e W' ⟨he, bel⟩ => ?_
  subst he
  exact ⟨_, rfl, _, _, _, [], _, [], hW', trodAll_mk1 (shut_bool Try.underlying4 _), (trodAll_cons_mk (shut_int Try.underlying3 w0) (trodAll_cons_mk (Below.trod laidOut (by kernel_rfl) (of_decide_eq_true (by kernel_rfl)) k1 bel lt1) (trodAll_cons_mk (shut_int Try.underlying3 w2) trodAll_mk0))), rfl, bel.frame _, fun h => by cases h⟩

theorem over : Rows.pallocBackRow.holds Try.pinned (OpenSpec.ofChange Rows.pallocBackSpec) :=
  OpenClaim.holds_of_wide 6 Try.f6 rfl rfl rfl rfl rfl rfl rfl ⟨rfl, rfl, rfl, rfl, rfl⟩ rfl rfl rfl rfl rfl (by kernel_rfl) Try.func6 (by kernel_rfl)
    (of_decide_eq_true (by kernel_rfl)) (by unfold Func.isWrapper; first | (rw [if_pos (by decide +kernel)]; kernel_rfl) | (rw [if_neg (by decide +kernel)]; exact ⟨rfl, rfl⟩))
    (fun os started H enc _ => lifted os started H enc)

theorem proved : Rows.PallocBackSaid := over
#print axioms proved
end Go.Proofs.Ytjebpggoajfjkaa.pallocBack
