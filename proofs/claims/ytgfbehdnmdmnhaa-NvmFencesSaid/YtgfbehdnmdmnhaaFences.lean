/-
  Proved here: for every list of acts, every number and every row of bytes the law NvmFences returns true, and what came in reads as it did: a fence makes of a flushed line what was flushed, whatever was stored behind it, and of another line nothing (longer lists: the law asks the chapter's example alone).
  Conditions: none beyond the given statement's.
-/
import Derived.Test.YtgfbehdnmdmnhaaRows
import Derived.Test.YtgfbehdnmdmnhaaNvmK
import Derived.IntWalk
import Derived.WalkSmall
import Derived.Deep.QuietTactic
import Derived.BigQuiet
import Derived.WalkKit
import Derived.ProofKit
import Derived.OpenShut
import Derived.ShutString
import Derived.ChangeOld
import Derived.Below
namespace Go.Proofs.Ytgfbehdnmdmnhaa.nvmFences
open Go.ChangeShapes Go.WideShapes Go.ChangeAt Go.RowKit
open Go.ChangeMaps (open_string shut_string)
set_option linter.unusedVariables false

theorem own : ownKnob Try.prog.godebug = none := by kernel_rfl
theorem laidOut : laidOutB Try.prog = true := by kernel_rfl

set_option maxHeartbeats 1600000 in
set_option maxRecDepth 100000 in
theorem walk (a0 : Option Addr) (len0 cap0 : Nat) (z0 : List ActV) (a1 : Int) (a2 : Option Addr) (len2 cap2 : Nat) (z2 : List Int) (w : World) (w0 : IsActs w a0 len0 z0) (w1 : (Lit.int .i64 a1).wf = true) (w2 : IsRow .u8 w a2 len2 cap2 z2) :
    Calls Try.prog 6 #[.slice a0 len0 cap0, .int .i64 a1, .slice a2 len2 cap2] w fun e w' => e = .returned (.bool true) ∧ Below w.heap.size w w' := by
  have HLA := Lib.hid (large_any (cap := cap0) w0)
  clear w1
  cases hlg : largeB len0 z0 with
  | true =>
    rw [hlg] at HLA
    clear w0 hlg w2
    go_enter Try.func6, Try.ntmps6
    go_wp2_with fail
    refine HLA.out.mono ?_
    rintro e w' ⟨rfl, k, rfl⟩
    go_wp2_with fail
    refine (awake_any _).mono ?_
    rintro e w' ⟨rfl, hb⟩
    go_wp2
    go_ret
    exact ⟨rfl, (below_drewN (Below.refl _ _) k).trans hb⟩
  | false =>
    rw [hlg] at HLA
    rcases Nat.lt_or_ge 64 len2 with h64 | h64
    · have h65 : (64 : Int) < (len2 : Int) := by omega
      clear w0 hlg w2 h64
      go_enter Try.func6, Try.ntmps6
      go_wp2_with fail
      refine HLA.out.mono ?_
      rintro e w' ⟨rfl, k, rfl⟩
      go_wp2_with fail
      refine (awake_any _).mono ?_
      rintro e w' ⟨rfl, hb⟩
      go_wp2
      go_ret
      exact ⟨rfl, (below_drewN (Below.refl _ _) k).trans hb⟩
    · have h65 : ¬ (64 : Int) < (len2 : Int) := by omega
      have HSO := Lib.hid (fun k => some_any (cap := cap0) (w := w.drewN k) (w0.below (below_drewN (Below.refl _ _) k)) hlg)
      obtain ⟨b, hbl, hrow, hb0⟩ := w2.row (by omega)
      have hs8 := s8_len z0
      generalize s8.playAll z0 = s at *
      have hkl := low_lt a1 (n := 8) (by omega)
      have HLOW : Hid (∀ w, Calls Try.prog 18 #[.int .i64 a1, .int .i64 8] w fun e w' => e = .returned (.int .i64 (low a1 8 : Nat)) ∧ w = w') := fun w => low_any a1 8 w (by omega) (by omega)
      generalize low a1 8 = k at *
      obtain ⟨o, ho⟩ : ∃ o, (k + 1) % 8 = o := ⟨_, rfl⟩
      have ho8 : o < 8 := by omega
      have hok : k ≠ o := by omega
      have hoz : ((k : Int) + 1) % 8 = (o : Int) := by omega
      have HOZ := Lib.hid hoz
      have HM := Lib.hid (fences_math s k o b hs8 hkl ho8 hok (by omega))
      have HROW := Lib.hid hrow
      have HB0 := Lib.hid hb0
      have HBL := Lib.hid hbl
      have HS8 := Lib.hid hs8
      clear w0 hlg w2 hrow hb0 hbl hs8 ho hok hoz
      have HL1 : Hid ((s.flush (k : Int)).1.length = 8) := (St.flush_len _ _).trans HS8.out
      have HL2 : Hid (((s.flush (k : Int)).back (o : Int)).1.length = 8) := (St.back_len _ _).trans HL1.out
      have HL3 : Hid ((((s.flush (k : Int)).back (o : Int)).store (k : Int) 0 b).1.length = 8) := (St.store_len _ _ _ _).trans HL2.out
      have HL4 : Hid (((((s.flush (k : Int)).back (o : Int)).store (k : Int) 0 b).store (o : Int) 0 b).1.length = 8) := (St.store_len _ _ _ _).trans HL3.out
      have HL5 : Hid ((((((s.flush (k : Int)).back (o : Int)).store (k : Int) 0 b).store (o : Int) 0 b).fence).1.length = 8) := (St.fence_len _).trans HL4.out
      go_enter Try.func6, Try.ntmps6
      go_wp2_with fail
      refine HLA.out.mono ?_
      rintro e w' ⟨rfl, kk, rfl⟩
      go_wp2_with fail
      refine (HSO.out kk).mono ?_
      rintro e w1 ⟨p, q, rfl, hp, hq, hd, hb⟩
      have HD1 := Lib.hid hd
      have HB1 : Hid (Below w.heap.size w w1) := (below_drewN (Below.refl _ _) kk).trans hb
      have HP : Hid (w.heap.size ≤ p) := hp
      have HQ : Hid (w.heap.size ≤ q) := hq
      clear hd hb hp hq
      go_wp2_with fail
      refine (HLOW.out _).mono ?_
      rintro e w' ⟨rfl, rfl⟩
      go_wp2_with fail
      refine (flush_any HD1.out (k : Int)).mono ?_
      rintro e w2 ⟨rfl, hd, ht⟩
      have HD2 := Lib.hid hd
      have HB2 := Lib.hid (HB1.out.trans (ht.below HP.out HQ.out HB1.out.size))
      clear hd ht
      go_wp2_with fail
      refine (load_at HD2.out k (by rw [HL1.out]; exact hkl)).mono ?_
      rintro e w3 ⟨g3, rfl, hg3, ha, hb⟩
      have HA3 := Lib.hid ha
      have HD3 := Lib.hid (HD2.out.below hb)
      have HB3 := Lib.hid (HB2.out.trans (hb.mono HB2.out.size))
      have HG3 : Hid (g3 ≠ p ∧ g3 ≠ q) := by have h1 := HD2.out.lt_p; have h2 := HD2.out.lt_q; show _ ∧ _; omega
      clear ha hb hg3
      go_wp2_with fail
      rw [HOZ.out]
      refine (back_any HD3.out (o : Int)).mono ?_
      rintro e w4 ⟨rfl, hd, ht⟩
      have HD4 := Lib.hid hd
      have HA4 := Lib.hid (HA3.out.turns ht HG3.out.1 HG3.out.2)
      have HB4 := Lib.hid (HB3.out.trans (ht.below HP.out HQ.out HB3.out.size))
      clear hd ht
      go_wp2_with fail
      refine (durable_at HD4.out o (by rw [HL2.out]; exact ho8)).mono ?_
      rintro e w5 ⟨g5, rfl, hg5, ha, hb⟩
      have HE5 := Lib.hid ha
      have HA5 := Lib.hid (HA4.out.below hb HA4.out.lt)
      have HD5 := Lib.hid (HD4.out.below hb)
      have HB5 := Lib.hid (HB4.out.trans (hb.mono HB4.out.size))
      have HG5 : Hid (g5 ≠ p ∧ g5 ≠ q) := by have h1 := HD4.out.lt_p; have h2 := HD4.out.lt_q; show _ ∧ _; omega
      clear ha hb hg5
      go_wp2_with fail
      refine (store_any HD5.out (k : Int) 0 a2 len2 cap2 b HBL.out (HROW.out.below HB5.out) HB0.out).mono ?_
      rintro e w6 ⟨rfl, hd, ht⟩
      have HD6 := Lib.hid hd
      have HA6 := Lib.hid (HA5.out.turns ht HG3.out.1 HG3.out.2)
      have HE6 := Lib.hid (HE5.out.turns ht HG5.out.1 HG5.out.2)
      have HB6 := Lib.hid (HB5.out.trans (ht.below HP.out HQ.out HB5.out.size))
      clear hd ht
      go_wp2_with fail
      refine (store_any HD6.out (o : Int) 0 a2 len2 cap2 b HBL.out (HROW.out.below HB6.out) HB0.out).mono ?_
      rintro e w7 ⟨rfl, hd, ht⟩
      have HD7 := Lib.hid hd
      have HA7 := Lib.hid (HA6.out.turns ht HG3.out.1 HG3.out.2)
      have HE7 := Lib.hid (HE6.out.turns ht HG5.out.1 HG5.out.2)
      have HB7 := Lib.hid (HB6.out.trans (ht.below HP.out HQ.out HB6.out.size))
      clear hd ht
      go_wp2_with fail
      refine (fence_any HD7.out).mono ?_
      rintro e w8 ⟨rfl, hd, ht⟩
      have HD8 := Lib.hid hd
      have HA8 := Lib.hid (HA7.out.turns ht HG3.out.1 HG3.out.2)
      have HE8 := Lib.hid (HE7.out.turns ht HG5.out.1 HG5.out.2)
      have HB8 := Lib.hid (HB7.out.trans (ht.below HP.out HQ.out HB7.out.size))
      clear hd ht
      go_wp2_with fail
      refine (durable_at HD8.out k (by rw [HL5.out]; exact hkl)).mono ?_
      rintro e w9 ⟨g9, rfl, _, ha, hb⟩
      rw [HM.out.1] at ha
      have HF9 := Lib.hid ha
      have HA9 := Lib.hid (HA8.out.below hb HA8.out.lt)
      have HE9 := Lib.hid (HE8.out.below hb HE8.out.lt)
      have HD9 := Lib.hid (HD8.out.below hb)
      have HB9 := Lib.hid (HB8.out.trans (hb.mono HB8.out.size))
      clear ha hb
      go_wp2_with fail
      refine (durable_at HD9.out o (by rw [HL5.out]; exact ho8)).mono ?_
      rintro e w10 ⟨g10, rfl, _, ha, hb⟩
      rw [HM.out.2] at ha
      have HF10 := Lib.hid (HF9.out.below hb HF9.out.lt)
      have HA10 := Lib.hid (HA9.out.below hb HA9.out.lt)
      have HE10 := Lib.hid (HE9.out.below hb HE9.out.lt)
      have HH10 := Lib.hid ha
      have HB10 := Lib.hid (HB9.out.trans (hb.mono HB9.out.size))
      clear ha hb
      have HLv := Lib.hid (clAt_ok HD2.out k (by rw [HL1.out]; exact hkl)).1
      have HLp := Lib.hid (clAt_ok HD4.out o (by rw [HL2.out]; exact ho8)).2.1
      generalize (clAt (s.flush (k : Int)).1 (k : Int)).v = X at *
      generalize (clAt ((s.flush (k : Int)).back (o : Int)).1 (o : Int)).p = Y at *
      have hs1 := same_any w10 (some ⟨g9, 0, none⟩) (some ⟨g3, 0, none⟩) 64 64 64 64 X X HLv.out HLv.out (HF10.out.row (by have := HLv.out; omega)) (HA10.out.row (by have := HLv.out; omega))
      have hs2 := same_any w10 (some ⟨g10, 0, none⟩) (some ⟨g5, 0, none⟩) 64 64 64 64 Y Y HLp.out HLp.out (HH10.out.row (by have := HLp.out; omega)) (HE10.out.row (by have := HLp.out; omega))
      rw [show (X == X) = true by simp] at hs1
      rw [show (Y == Y) = true by simp] at hs2
      have HS1 := Lib.hid hs1
      have HS2 := Lib.hid hs2
      clear hs1 hs2
      go_wp2_with fail
      refine HS1.out.mono ?_
      rintro e w' ⟨rfl, rfl⟩
      go_wp2_with fail
      refine HS2.out.mono ?_
      rintro e w' ⟨rfl, rfl⟩
      go_wp2_with fail
      refine (awake_any _).mono ?_
      rintro e w11 ⟨rfl, hb⟩
      go_wp2
      go_ret
      exact ⟨rfl, HB10.out.trans (hb.mono HB10.out.size)⟩

set_option maxRecDepth 100000 in
theorem lifted (os : Os) (started : os.Started) (H : Type) (enc : TypeId × Value → H) :
    ReturnsInHanded {} Try.checked os 6 .any (Rows.nvmFencesSpec.pre6 enc Try.prog Try.f6 Rows.nvmFencesRow.domain false) (Rows.nvmFencesSpec.post enc Try.prog Try.f6 false true false false) := by
  refine returnsInHanded_of_change (C := Try.checked) own started (by kernel_rfl) Try.func6
    (ChangeSpec.witness6 (enc := enc) (C := Try.checked) false ⟨#[], #[.slice none 0 0, .int .i64 0, .slice none 0 0], []⟩ 8 (by kernel_rfl) (by kernel_rfl) (by kernel_rfl) (by kernel_rfl)) ?_
  intro W base args ds gs before hval0 hW hcnd _
  have hval : ∀ (j : Nat) t v, Try.f6.params[j]? = some t → args[j]? = some v → Value.okWide Try.prog W .any base t v := hval0
  have hW' := hW
  obtain ⟨p, q, hA0, hV, rfl, hfz, hnd⟩ := hW
  have hA : DataW.TrodAll enc Try.prog W 0 (fun _ => true) true Try.f6.params.toList args.toList ds p := hA0
  rw [Try.params6] at hA hval
  obtain ⟨v0, vs0, d0, ds0, p0, q0, hargs, rfl, rfl, h0, r0⟩ := trodAll_cons hA
  obtain ⟨v1, vs1, d1, ds1, p1, q1, rfl, rfl, rfl, h1, r1⟩ := trodAll_cons r0
  obtain ⟨v2, vs2, d2, ds2, p2, q2, rfl, rfl, rfl, h2, r2⟩ := trodAll_cons r1
  obtain ⟨rfl, rfl, rfl⟩ := trodAll_nil r2
  obtain rfl : args = #[v0, v1, v2] := by cases args; simp_all
  obtain ⟨rfl, rfl⟩ := trodVars_none hV
  obtain ⟨a0, len0, cap0, rfl⟩ := okWide_slice Try.underlying22 (hval 0 22 v0 rfl rfl)
  have k0 := h0
  have lt0 : ∀ x ∈ p0, x.block < W.heap.size := by obtain ⟨m, hm⟩ := k0; exact DataW.trod_lt m _ _ _ hm
  obtain ⟨z0, w0⟩ : ∃ zs, IsActs W a0 len0 zs := by
    obtain ⟨fuel, hf⟩ := h0
    exact isActs_of hf
  obtain ⟨a1, rfl, rfl, rfl, w1⟩ := open_int Try.underlying3 (hval 1 3 v1 rfl rfl) h1
  obtain ⟨a2, len2, cap2, rfl⟩ := okWide_slice Try.underlying33 (hval 2 33 v2 rfl rfl)
  have k2 := h2
  have lt2 : ∀ x ∈ p2, x.block < W.heap.size := by obtain ⟨m, hm⟩ := k2; exact DataW.trod_lt m _ _ _ hm
  obtain ⟨z2, w2⟩ : ∃ zs, IsRow .u8 W a2 len2 cap2 zs := by
    obtain ⟨fuel, hf⟩ := h2
    rcases open_ints Try.underlying33 Try.underlying5 (by kernel_rfl) hf with ⟨hcs, _⟩ | ⟨x, l, c, zs, hcs, _, hl, hm, hz, _, hcell, hwz⟩
    · simp [Value.cells] at hcs
      obtain ⟨rfl, rfl, rfl⟩ := hcs
      exact ⟨[], .inl ⟨rfl, rfl, rfl, rfl⟩⟩
    · simp [Value.cells] at hcs
      obtain ⟨rfl, rfl, rfl⟩ := hcs
      exact ⟨zs, .inr ⟨_, rfl, hl, hm, by simpa using hz, hcell, hwz⟩⟩
  clear hA0 hval0
  refine (walk a0 len0 cap0 z0 a1 a2 len2 cap2 z2 W w0 w1 w2).mono fun e W' ⟨he, bel⟩ => ?_
  subst he
  exact ⟨_, rfl, _, _, _, [], _, [], hW', trodAll_mk1 (shut_bool Try.underlying4 _), (trodAll_cons_mk (Below.trod laidOut (by kernel_rfl) (of_decide_eq_true (by kernel_rfl)) k0 bel lt0) (trodAll_cons_mk (shut_int Try.underlying3 w1) (trodAll_cons_mk (Below.trod laidOut (by kernel_rfl) (of_decide_eq_true (by kernel_rfl)) k2 bel lt2) trodAll_mk0))), rfl, bel.frame _, fun h => by cases h⟩

theorem over : Rows.nvmFencesRow.holds Try.pinned (OpenSpec.ofChange Rows.nvmFencesSpec) :=
  OpenClaim.holds_of_wide 6 Try.f6 rfl rfl rfl rfl rfl rfl rfl ⟨rfl, rfl, rfl, rfl, rfl⟩ rfl rfl rfl rfl rfl (by kernel_rfl) Try.func6 (by kernel_rfl)
    (of_decide_eq_true (by kernel_rfl)) (by unfold Func.isWrapper; first | (rw [if_pos (by decide +kernel)]; kernel_rfl) | (rw [if_neg (by decide +kernel)]; exact ⟨rfl, rfl⟩))
    (fun os started H enc _ => lifted os started H enc)

theorem proved : Rows.NvmFencesSaid := over
#print axioms proved
end Go.Proofs.Ytgfbehdnmdmnhaa.nvmFences
