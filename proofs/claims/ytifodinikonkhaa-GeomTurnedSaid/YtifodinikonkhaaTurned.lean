/-
Proved here: GeomTurned answers true for all numbers: a clock's line, or a superblock's, of which one byte is another one is none.
Conditions: none.
-/
import Derived.Test.YtifodinikonkhaaRows
import Derived.Test.YtifodinikonkhaaGeomD
import Derived.IntWalk
import Derived.WalkSmall
import Derived.Deep.QuietTactic
import Derived.BigQuiet
import Derived.WalkKit
import Derived.ProofKit
import Derived.OpenShut
import Derived.ShutString
import Derived.Below
import Derived.ChangeOld
namespace Go.Proofs.Ytifodinikonkhaa.geomTurned
open Go.ChangeShapes Go.WideShapes Go.ChangeAt Go.RowKit
open Go.ChangeMaps (open_string shut_string)
set_option linter.unusedVariables false      -- a walk need not use every 'w<i>' (that an integer argument fits its kind)

theorem own : ownKnob Try.prog.godebug = none := by kernel_rfl

/-- A byte turned. -/
theorem turned_byte (a : UInt8) (x : Nat) (h0 : 0 < x) (hx : x < 256) : a.toNat ^^^ x < 256 ∧ a ≠ UInt8.ofNat (a.toNat ^^^ x) := by
  have ha := UInt8.toNat_lt a
  have hl : a.toNat ^^^ x < 256 := Nat.xor_lt_two_pow (n := 8) (by omega) (by omega)
  refine ⟨hl, fun e => ?_⟩
  have e2 := congrArg UInt8.toNat e
  rw [UInt8.toNat_ofNat', Nat.mod_eq_of_lt (by omega)] at e2
  have e3 : a.toNat ^^^ (a.toNat ^^^ x) = a.toNat ^^^ a.toNat := by rw [← e2]
  rw [xor_back, Nat.xor_self] at e3
  omega

set_option maxHeartbeats 1600000 in
theorem walk (a0 a1 a2 a3 : Int) (w : World) (w0 : (Lit.int .i64 a0).wf = true) (w1 : (Lit.int .u64 a1).wf = true) (w2 : (Lit.int .i64 a2).wf = true) (w3 : (Lit.int .i64 a3).wf = true) :
    Calls Try.prog 7 #[.int .i64 a0, .int .u64 a1, .int .i64 a2, .int .i64 a3] w fun e w' => e = .returned (.bool true) ∧ Below w.heap.size w w' := by
  have hb := bounds_u64 w1
  obtain ⟨v, rfl⟩ : ∃ v : Nat, a1 = (v : Int) := ⟨a1.toNat, by omega⟩
  have hv : v < 18446744073709551616 := by omega
  have H1 : Hid (Calls Try.prog 28 #[.int .i64 a2, .int .i64 64] w fun e w' => e = .returned (.int .i64 (low a2 64 : Nat)) ∧ w = w') := low_any a2 64 w (by omega) (by omega)
  have H2 : Hid (Calls Try.prog 28 #[.int .i64 a3, .int .i64 255] w fun e w' => e = .returned (.int .i64 (low a3 255 : Nat)) ∧ w = w') := low_any a3 255 w (by omega) (by omega)
  have H3 : Hid (∀ W, Calls Try.prog 28 #[.int .i64 a0, .int .i64 249] W fun e w' => e = .returned (.int .i64 (low a0 249 : Nat)) ∧ W = w') := fun W => low_any a0 249 W (by omega) (by omega)
  have hk := low_lt a2 (n := 64) (by omega)
  have hx := low_lt a3 (n := 255) (by omega)
  have hn := low_lt a0 (n := 249) (by omega)
  generalize low a2 64 = k at *
  generalize low a3 255 = x at *
  generalize low a0 249 = n at *
  have HC := Lib.hid (clock_ok v hv w)
  have hsu := fun W => super_ok (10 + n) (by omega) (by omega) W
  have hcast : ((10 + n : Nat) : Int) = 10 + (n : Int) := by omega
  rw [hcast] at hsu
  have HS := Lib.hid hsu
  obtain ⟨hr1, hne1⟩ := turned_byte ((clockL v).getD k 0) (1 + x) (by omega) (by omega)
  obtain ⟨hr2, hne2⟩ := turned_byte ((superL (10 + n)).getD k 0) (1 + x) (by omega) (by omega)
  have hno1 : ∀ u, u < 18446744073709551616 → (clockL v).set k (UInt8.ofNat (((clockL v).getD k 0).toNat ^^^ (1 + x))) ≠ clockL u := fun u _ => sealed_turned (clockNine_len v) (clockNine_len u) k hk _ hne1
  have hno2 : ∀ u, 10 ≤ u → u ≤ 258 → (superL (10 + n)).set k (UInt8.ofNat (((superL (10 + n)).getD k 0).toNat ^^^ (1 + x))) ≠ superL u := fun u _ _ => sealed_turned (superNine_len (10 + n)) (superNine_len u) k hk _ hne2
  have hl1 := clockL_len v
  have hl2 := superL_len (10 + n)
  generalize clockL v = c at *
  generalize superL (10 + n) = s at *
  have hx1 := u8_xor_nat (c.getD k 0).toNat (1 + x) (UInt8.toNat_lt _) (by omega)
  have hx2 := u8_xor_nat (s.getD k 0).toNat (1 + x) (UInt8.toNat_lt _) (by omega)
  have hc1 : ((1 + x : Nat) : Int) = 1 + (x : Int) := by omega
  rw [hc1] at hx1 hx2
  have HA1 := Lib.hid (fun W g (h : ArrG W g c) => h.at_ k (by omega))
  have HA2 := Lib.hid (fun W g (h : ArrG W g s) => h.at_ k (by omega))
  have HT1 := Lib.hid (fun W g (h : ArrG W g c) => h.set_ k _ hr1)
  have HT2 := Lib.hid (fun W g (h : ArrG W g s) => h.set_ k _ hr2)
  have HI1 := Lib.hid (fun W g (h : ArrG W g (c.set k (UInt8.ofNat ((c.getD k 0).toNat ^^^ (1 + x))))) => isclock_no (some ⟨g, 0, none⟩) 64 64 _ (by rw [List.length_set]; exact hl1) W (h.row (by rw [List.length_set]; omega)) hno1)
  have HI2 := Lib.hid (fun W g (h : ArrG W g (s.set k (UInt8.ofNat ((s.getD k 0).toNat ^^^ (1 + x))))) => issuper_no (some ⟨g, 0, none⟩) 64 64 _ (by rw [List.length_set]; exact hl2) W (h.row (by rw [List.length_set]; omega)) hno2)
  generalize c.set k (UInt8.ofNat ((c.getD k 0).toNat ^^^ (1 + x))) = c' at *
  generalize s.set k (UInt8.ofNat ((s.getD k 0).toNat ^^^ (1 + x))) = s' at *
  generalize (c.getD k 0).toNat ^^^ (1 + x) = r1 at *
  generalize (s.getD k 0).toNat ^^^ (1 + x) = r2 at *
  have hy1 := UInt8.toNat_lt (c.getD k 0)
  have hy2 := UInt8.toNat_lt (s.getD k 0)
  generalize (c.getD k 0).toNat = y1 at *
  generalize (s.getD k 0).toNat = y2 at *
  have hkk : (k : Int) < 64 := by omega
  clear w0 w1 w2 w3 hb hsu hcast hne1 hne2 hno1 hno2 hl1 hl2 hc1
  go_enter Try.func7, Try.ntmps7
  go_wp2_with fail
  refine H1.out.mono ?_
  rintro e w' ⟨rfl, rfl⟩
  go_wp2_with fail
  refine H2.out.mono ?_
  rintro e w' ⟨rfl, rfl⟩
  go_wp2_with fail
  refine HC.out.mono ?_
  rintro e v1 ⟨g1, rfl, hg1, ha1, hb1⟩
  have A1 := Lib.hid ha1
  have B1 := Lib.hid hb1
  clear ha1 hb1
  go_wp2_with fail
  refine (H3.out v1).mono ?_
  rintro e w' ⟨rfl, rfl⟩
  go_wp2_with fail
  refine (HS.out v1).mono ?_
  rintro e v2 ⟨g2, rfl, hg2, ha2, hb2⟩
  have hne : g1 ≠ g2 := by have := lt_of_heap A1.out; omega
  have hA1 := A1.out.below hb2 (lt_of_heap A1.out)
  obtain ⟨q1, q2⟩ := HA1.out v2 g1 hA1
  have hA3 := HT1.out v2 g1 hA1
  have hA4 := ha2.other (Ne.symm hne) k (.int .u8 (r1 : Nat))
  obtain ⟨q3, q4⟩ := HA2.out _ g2 hA4
  have hA5 := HT2.out _ g2 hA4
  have hA6 := hA3.other hne k (.int .u8 (r2 : Nat))
  have B2 := Lib.hid (((B1.out.trans (hb2.mono B1.out.size)).setCell (p := ⟨g1, k, none⟩) (by exact hg1) (.int .u8 (r1 : Nat))).setCell (p := ⟨g2, k, none⟩) (by have := B1.out.size; show w.heap.size ≤ g2; omega) (.int .u8 (r2 : Nat)))
  have A5 := Lib.hid hA5
  have A6 := Lib.hid hA6
  clear hA1 ha2 hb2 hA3 hA4 hA5 hA6
  go_wp2_with fail
  refine (HI1.out _ g1 A6.out).mono ?_
  rintro e v3 ⟨rfl, hb3⟩
  have B3 := Lib.hid hb3
  have A7 := Lib.hid (A5.out.below hb3 (lt_of_heap A5.out))
  clear hb3
  go_wp2_with fail
  refine (HI2.out v3 g2 A7.out).mono ?_
  rintro e v4 ⟨rfl, hb4⟩
  have B4 := Lib.hid hb4
  clear hb4
  go_wp2_with fail
  refine (awake_any _).mono ?_
  rintro e v5 ⟨rfl, hb5⟩
  go_wp2
  go_ret
  have hb03 := B2.out.trans (B3.out.mono B2.out.size)
  have hb04 := hb03.trans (B4.out.mono hb03.size)
  exact ⟨rfl, hb04.trans (hb5.mono hb04.size)⟩

/-! ### THE ROW's STEP: WRITTEN OUT: LEAVE IT -/
set_option maxRecDepth 100000 in
theorem lifted (os : Os) (started : os.Started) (H : Type) (enc : TypeId × Value → H) :
    ReturnsInHanded {} Try.checked os 7 .any (Rows.geomTurnedSpec.pre6 enc Try.prog Try.f7 Rows.geomTurnedRow.domain false) (Rows.geomTurnedSpec.post enc Try.prog Try.f7 false true false false) := by
  refine returnsInHanded_of_change (C := Try.checked) own started (by kernel_rfl) Try.func7
    (ChangeSpec.witness6 (enc := enc) (C := Try.checked) false ⟨#[], #[.int .i64 0, .int .u64 0, .int .i64 0, .int .i64 0], []⟩ 8 (by kernel_rfl) (by kernel_rfl) (by kernel_rfl) (by kernel_rfl)) ?_
  intro W base args ds gs before hval0 hW hcnd _
  have hval : ∀ (j : Nat) t v, Try.f7.params[j]? = some t → args[j]? = some v → Value.okWide Try.prog W .any base t v := hval0
  have hW' := hW
  obtain ⟨p, q, hA0, hV, rfl, hfz, hnd⟩ := hW
  have hA : DataW.TrodAll enc Try.prog W 0 (fun _ => true) true Try.f7.params.toList args.toList ds p := hA0
  rw [Try.params7] at hA hval
  obtain ⟨v0, vs0, d0, ds0, p0, q0, hargs, rfl, rfl, h0, r0⟩ := trodAll_cons hA
  obtain ⟨v1, vs1, d1, ds1, p1, q1, rfl, rfl, rfl, h1, r1⟩ := trodAll_cons r0
  obtain ⟨v2, vs2, d2, ds2, p2, q2, rfl, rfl, rfl, h2, r2⟩ := trodAll_cons r1
  obtain ⟨v3, vs3, d3, ds3, p3, q3, rfl, rfl, rfl, h3, r3⟩ := trodAll_cons r2
  obtain ⟨rfl, rfl, rfl⟩ := trodAll_nil r3
  obtain rfl : args = #[v0, v1, v2, v3] := by cases args; simp_all
  obtain ⟨rfl, rfl⟩ := trodVars_none hV
  obtain ⟨a0, rfl, rfl, rfl, w0⟩ := open_int Try.underlying3 (hval 0 3 v0 rfl rfl) h0
  obtain ⟨a1, rfl, rfl, rfl, w1⟩ := open_int Try.underlying22 (hval 1 22 v1 rfl rfl) h1
  obtain ⟨a2, rfl, rfl, rfl, w2⟩ := open_int Try.underlying3 (hval 2 3 v2 rfl rfl) h2
  obtain ⟨a3, rfl, rfl, rfl, w3⟩ := open_int Try.underlying3 (hval 3 3 v3 rfl rfl) h3
  clear hA0 hval0
  refine (walk a0 a1 a2 a3 W w0 w1 w2 w3).mono fun e W' ⟨he, bel⟩ => ?_
  subst he
  exact ⟨_, rfl, _, _, _, [], _, [], hW', trodAll_mk1 (shut_bool Try.underlying4 _), (trodAll_cons_mk (shut_int Try.underlying3 w0) (trodAll_cons_mk (shut_int Try.underlying22 w1) (trodAll_cons_mk (shut_int Try.underlying3 w2) (trodAll_cons_mk (shut_int Try.underlying3 w3) trodAll_mk0)))), rfl, bel.frame _, fun h => by cases h⟩

theorem over : Rows.geomTurnedRow.holds Try.pinned (OpenSpec.ofChange Rows.geomTurnedSpec) :=
  OpenClaim.holds_of_wide 7 Try.f7 rfl rfl rfl rfl rfl rfl rfl ⟨rfl, rfl, rfl, rfl, rfl⟩ rfl rfl rfl rfl rfl (by kernel_rfl) Try.func7 (by kernel_rfl)
    (of_decide_eq_true (by kernel_rfl)) (by unfold Func.isWrapper; first | (rw [if_pos (by decide +kernel)]; kernel_rfl) | (rw [if_neg (by decide +kernel)]; exact ⟨rfl, rfl⟩))
    (fun os started H enc _ => lifted os started H enc)

/-- ████ THE STATEMENT ████ -/
theorem proved : Rows.GeomTurnedSaid :=
  over
#print axioms proved
end Go.Proofs.Ytifodinikonkhaa.geomTurned
