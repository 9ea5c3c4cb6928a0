/-
  Proved here: for every row of bytes and every three numbers the law CodePuts returns true, and the row reads as it did: Put answers as the chapter says, the first error that applies or a copy with the number laid in it, leaves what it was given, spare room too, and what it answers shares no memory with it (rows of over 1,024 bytes: the law asks the chapter's example alone).
  Conditions: none beyond the given statement's.
-/
import Derived.Test.YtifjgdhhfhfecaaRows
import Derived.Test.YtifjgdhhfhfecaaRef2
import Derived.Test.YtifjgdhhfhfecaaOver
import Derived.Test.YtifjgdhhfhfecaaAwake2
import Derived.WalkKit
import Derived.ProofKit
import Derived.OpenShut
import Derived.ShutString
import Derived.ChangeOld
import Derived.Below
namespace Go.Proofs.Ytifjgdhhfhfecaa.codePuts
open Go.ChangeShapes Go.WideShapes Go.ChangeAt Go.RowKit
open Go.ChangeMaps (open_string shut_string)
set_option linter.unusedVariables false

theorem own : ownKnob Try.prog.godebug = none := by kernel_rfl
theorem laidOut : laidOutB Try.prog = true := by kernel_rfl

set_option maxHeartbeats 800000 in
theorem refused (A : Option Addr) (n c : Nat) (l : List UInt8) (p k v : Int) (w : World) (hl : l.length = n) (hr : Row w A l) (hc0 : A = none → c = 0) (hn : n ≤ 1024) (x : Int)
    (hp : ∀ w1 g, Calls Try.prog 10 #[.slice (some ⟨g, 0, none⟩) n (n + 5), .int .i64 p, .int .i64 k, .int .u64 v] w1 fun e w' => e = .returned (.tuple #[.slice none 0 0, .int .i64 x]) ∧ w1 = w')
    (hq : ∀ w1, Calls Try.prog 11 #[.slice A n c, .int .i64 p, .int .i64 k, .int .u64 v] w1 fun e w' => e = .returned (.tuple #[.slice none 0 0, .int .i64 x]) ∧ Below w1.heap.size w1 w') :
    Calls Try.prog 3 #[.slice A n c, .int .i64 p, .int .i64 k, .int .u64 v] w fun e w' => e = .returned (.bool true) ∧ Below w.heap.size w w' := by
  have HLEND := Lib.hid (lend_any w A n c l hl hr hc0)
  have HL := Lib.hid hl
  have HR := Lib.hid hr
  have HP := Lib.hid hp
  have HQ := Lib.hid hq
  have hn4 : ¬ (1024 : Int) < (n : Int) := by omega
  have hxx : (x != x) = false := by simp
  clear hl hr hc0 hp hq
  go_enter Try.func3, Try.ntmps3
  go_wp2_with fail
  refine HLEND.out.mono ?_
  rintro e w1 ⟨g, rfl, hg, hlent, hb1⟩
  have HLE := Lib.hid hlent
  have HB1 := Lib.hid hb1
  clear hlent hb1
  go_wp2_with fail
  refine (HP.out w1 g).mono ?_
  rintro e w' ⟨rfl, rfl⟩
  go_wp2_with fail
  refine (HQ.out w1).mono ?_
  rintro e w2 ⟨rfl, hb2⟩
  have HB2 := Lib.hid hb2
  have HS := Lib.hid (same_any w2 none none 0 0 0 0 [] [] rfl rfl (row_nil _ _) (row_nil _ _))
  have hsame : (([] : List UInt8) == []) = true := rfl
  rw [hsame] at HS
  clear hb2 hsame
  go_wp2_with fail
  refine HS.out.mono ?_
  rintro e w' ⟨rfl, rfl⟩
  go_wp2_with fail
  refine (num_any x w2).mono ?_
  rintro e w' ⟨rfl, rfl⟩
  go_wp2_with fail
  refine (over_nil w2 w1.heap.size HB2.out.size).mono ?_
  rintro e w3 ⟨rfl, hb3⟩
  have hb13 : Below w1.heap.size w1 w3 := HB2.out.trans hb3
  have hb03 : Below w.heap.size w w3 := HB1.out.trans (hb13.mono HB1.out.size)
  have HK := Lib.hid (kept_any w3 g A n c l HL.out (by omega) (Blk.below HLE.out hb13 (Blk.lt HLE.out)) (HR.out.below hb03))
  have HB3 := Lib.hid hb03
  clear hb3 hb13 hb03
  go_wp2_with fail
  refine HK.out.mono ?_
  rintro e w' ⟨rfl, rfl⟩
  go_wp2_with fail
  refine (awake_any _).mono ?_
  rintro e w4 ⟨rfl, hb4⟩
  go_wp2
  go_ret
  exact ⟨rfl, HB3.out.trans (hb4.mono HB3.out.size)⟩

set_option maxHeartbeats 800000 in
theorem laidOk (A : Option Addr) (n c : Nat) (l : List UInt8) (a k v : Nat) (w : World) (hl : l.length = n) (hr : Row w A l) (hc0 : A = none → c = 0) (hn : n ≤ 1024) (hv : v < 18446744073709551616) (h1 : 1 ≤ k) (h8 : k ≤ 8) (ha : a + k ≤ n) (hf : fit v k = true) :
    Calls Try.prog 3 #[.slice A n c, .int .i64 a, .int .i64 k, .int .u64 v] w fun e w' => e = .returned (.bool true) ∧ Below w.heap.size w w' := by
  have HLEND := Lib.hid (lend_any w A n c l hl hr hc0)
  have HP := Lib.hid (fun w1 g (hg : Lent w1 g l) => put_ok (some ⟨g, 0, none⟩) n (n + 5) l hl a k v hv h1 h8 ha hf w1 (hg.row (by omega)))
  have HQ := Lib.hid (fun w1 (hw : Row w1 A l) => rput_ok A n c l hl a k v hv h1 h8 ha hf w1 hw hc0)
  have HS := Lib.hid (splice_len l a k v (by omega))
  obtain ⟨r, hre⟩ : ∃ r, splice l a (lay k v) = r := ⟨_, rfl⟩
  rw [hre] at HP HQ HS
  have HL := Lib.hid hl
  have HR := Lib.hid hr
  have hn4 : ¬ (1024 : Int) < (n : Int) := by omega
  clear hl hr hc0 hf hre
  go_enter Try.func3, Try.ntmps3
  go_wp2_with fail
  refine HLEND.out.mono ?_
  rintro e w1 ⟨g, rfl, hg, hlent, hb1⟩
  have HLE := Lib.hid hlent
  have HB1 := Lib.hid hb1
  have HP1 := Lib.hid (HP.out w1 g hlent)
  clear hlent hb1
  go_wp2_with fail
  refine HP1.out.mono ?_
  rintro e w2 ⟨gx, rfl, hgx, hblk, hb2⟩
  have hb02 : Below w.heap.size w w2 := HB1.out.trans (hb2.mono HB1.out.size)
  have HQ1 := Lib.hid (HQ.out w2 (HR.out.below hb02))
  have HBX := Lib.hid hblk
  have HB2 := Lib.hid hb2
  clear hblk hb2 hb02
  go_wp2_with fail
  refine HQ1.out.mono ?_
  rintro e w3 ⟨gy, cap, rfl, hrowy, hb3⟩
  have hlen : r.length = n := HS.out.trans HL.out
  have hblk3 : Blk w3 gx (enc r) := Blk.below HBX.out hb3 (Blk.lt HBX.out)
  have hsm := same_any w3 (some ⟨gx, 0, none⟩) (some ⟨gy, 0, none⟩) n n n cap r r hlen hlen (hblk3.row (by omega)) hrowy
  rw [show (r == r) = true by simp] at hsm
  have HSM := Lib.hid hsm
  have hb13 : Below w1.heap.size w1 w3 := HB2.out.trans (hb3.mono HB2.out.size)
  have HB13 := Lib.hid hb13
  have hown : w3.ownsRow w1.heap.size 5 1 (.slice (some ⟨gx, 0, none⟩) n n) n (enc r) := own_mono (blk_own hblk3 hlen (by omega)) hgx
  have HOV := Lib.hid (over_row w3 w1.heap.size gx n n r hlen (by omega) hown hb13.size hgx)
  clear hlen hblk3 hsm hrowy hb3 hb13 hown
  go_wp2_with fail
  refine HSM.out.mono ?_
  rintro e w' ⟨rfl, rfl⟩
  go_wp2_with fail
  refine (num_any 0 w3).mono ?_
  rintro e w' ⟨rfl, rfl⟩
  go_wp2_with fail
  refine HOV.out.mono ?_
  rintro e w4 ⟨rfl, hb4⟩
  have hb14 : Below w1.heap.size w1 w4 := HB13.out.trans hb4
  have hb04 : Below w.heap.size w w4 := HB1.out.trans (hb14.mono HB1.out.size)
  have HK := Lib.hid (kept_any w4 g A n c l HL.out (by omega) (Blk.below HLE.out hb14 (Blk.lt HLE.out)) (HR.out.below hb04))
  have HB4 := Lib.hid hb04
  clear hb4 hb14 hb04
  go_wp2_with fail
  refine HK.out.mono ?_
  rintro e w' ⟨rfl, rfl⟩
  go_wp2_with fail
  refine (awake_any _).mono ?_
  rintro e w5 ⟨rfl, hb5⟩
  go_wp2
  go_ret
  exact ⟨rfl, HB4.out.trans (hb5.mono HB4.out.size)⟩

theorem walk (a0 : Option Addr) (len0 cap0 : Nat) (z0 : List Int) (a1 : Int) (a2 : Int) (a3 : Int) (w : World) (w0 : IsRow .u8 w a0 len0 cap0 z0) (w1 : (Lit.int .i64 a1).wf = true) (w2 : (Lit.int .i64 a2).wf = true) (w3 : (Lit.int .u64 a3).wf = true) :
    Calls Try.prog 3 #[.slice a0 len0 cap0, .int .i64 a1, .int .i64 a2, .int .u64 a3] w fun e w' => e = .returned (.bool true) ∧ Below w.heap.size w w' := by
  rcases Nat.lt_or_ge 1024 len0 with h0 | h0
  · have hl : (1024 : Int) < (len0 : Int) := by omega
    clear h0 w0 w1 w2 w3
    go_enter Try.func3, Try.ntmps3
    go_wp2_with fail
    refine (awake_any _).mono ?_
    rintro e w' ⟨rfl, hb⟩
    go_wp2
    go_ret
    exact ⟨rfl, hb⟩
  · obtain ⟨l0, e0, r0, c0⟩ := w0.row (by omega)
    have hb := bounds_u64 w3
    obtain ⟨v, rfl⟩ : ∃ v : Nat, a3 = (v : Int) := ⟨a3.toNat, by omega⟩
    have hv : v < 18446744073709551616 := by omega
    rcases Classical.em (chk len0 a1 a2 = 0) with h | h
    · obtain ⟨a, m, rfl, rfl, h1, h8, ha⟩ := chk_nat h
      cases hf : fit v m with
      | true => exact laidOk a0 len0 cap0 l0 a m v w e0 r0 c0 h0 hv h1 h8 ha hf
      | false => exact refused a0 len0 cap0 l0 a m v w e0 r0 c0 h0 11 (fun w1 g => put_full _ _ _ (by omega) a m v hv h h1 h8 hf w1) (fun w1 => rput_full _ _ _ (by omega) a m v hv h h1 h8 hf w1)
    · exact refused a0 len0 cap0 l0 a1 a2 v w e0 r0 c0 h0 _ (fun w1 g => put_bad _ _ _ (by omega) a1 a2 v h w1) (fun w1 => (rput_bad _ _ _ (by omega) a1 a2 v h w1).mono fun _ _ ⟨he, hw⟩ => ⟨he, hw ▸ Below.refl _ _⟩)

/-! ### THE ROW's STEP: WRITTEN OUT: LEAVE IT -/
set_option maxRecDepth 100000 in
theorem lifted (os : Os) (started : os.Started) (H : Type) (enc : TypeId × Value → H) :
    ReturnsInHanded {} Try.checked os 3 .any (Rows.codePutsSpec.pre6 enc Try.prog Try.f3 Rows.codePutsRow.domain false) (Rows.codePutsSpec.post enc Try.prog Try.f3 false true false false) := by
  refine returnsInHanded_of_change (C := Try.checked) own started (by kernel_rfl) Try.func3
    (ChangeSpec.witness6 (enc := enc) (C := Try.checked) false ⟨#[], #[.slice none 0 0, .int .i64 0, .int .i64 0, .int .u64 0], []⟩ 8 (by kernel_rfl) (by kernel_rfl) (by kernel_rfl) (by kernel_rfl)) ?_
  intro W base args ds gs before hval0 hW hcnd _
  have hval : ∀ (j : Nat) t v, Try.f3.params[j]? = some t → args[j]? = some v → Value.okWide Try.prog W .any base t v := hval0
  have hW' := hW
  obtain ⟨p, q, hA0, hV, rfl, hfz, hnd⟩ := hW
  have hA : DataW.TrodAll enc Try.prog W 0 (fun _ => true) true Try.f3.params.toList args.toList ds p := hA0
  rw [Try.params3] at hA hval
  obtain ⟨v0, vs0, d0, ds0, p0, q0, hargs, rfl, rfl, h0, r0⟩ := trodAll_cons hA
  obtain ⟨v1, vs1, d1, ds1, p1, q1, rfl, rfl, rfl, h1, r1⟩ := trodAll_cons r0
  obtain ⟨v2, vs2, d2, ds2, p2, q2, rfl, rfl, rfl, h2, r2⟩ := trodAll_cons r1
  obtain ⟨v3, vs3, d3, ds3, p3, q3, rfl, rfl, rfl, h3, r3⟩ := trodAll_cons r2
  obtain ⟨rfl, rfl, rfl⟩ := trodAll_nil r3
  obtain rfl : args = #[v0, v1, v2, v3] := by cases args; simp_all
  obtain ⟨rfl, rfl⟩ := trodVars_none hV
  obtain ⟨a0, len0, cap0, rfl⟩ := okWide_slice Try.underlying22 (hval 0 22 v0 rfl rfl)
  have k0 := h0
  have lt0 : ∀ x ∈ p0, x.block < W.heap.size := by obtain ⟨m, hm⟩ := k0; exact DataW.trod_lt m _ _ _ hm
  obtain ⟨z0, w0⟩ : ∃ zs, IsRow .u8 W a0 len0 cap0 zs := by
    obtain ⟨fuel, hf⟩ := h0
    rcases open_ints Try.underlying22 Try.underlying5 (by kernel_rfl) hf with ⟨hcs, _⟩ | ⟨x, l, c, zs, hcs, _, hl, hm, hz, _, hcell, hwz⟩
    · simp [Value.cells] at hcs
      obtain ⟨rfl, rfl, rfl⟩ := hcs
      exact ⟨[], .inl ⟨rfl, rfl, rfl, rfl⟩⟩
    · simp [Value.cells] at hcs
      obtain ⟨rfl, rfl, rfl⟩ := hcs
      exact ⟨zs, .inr ⟨_, rfl, hl, hm, by simpa using hz, hcell, hwz⟩⟩
  obtain ⟨a1, rfl, rfl, rfl, w1⟩ := open_int Try.underlying3 (hval 1 3 v1 rfl rfl) h1
  obtain ⟨a2, rfl, rfl, rfl, w2⟩ := open_int Try.underlying3 (hval 2 3 v2 rfl rfl) h2
  obtain ⟨a3, rfl, rfl, rfl, w3⟩ := open_int Try.underlying23 (hval 3 23 v3 rfl rfl) h3
  clear hA0 hval0
  refine (walk a0 len0 cap0 z0 a1 a2 a3 W w0 w1 w2 w3).mono fun e W' ⟨he, bel⟩ => ?_
  subst he
  exact ⟨_, rfl, _, _, _, [], _, [], hW', trodAll_mk1 (shut_bool Try.underlying4 _), (trodAll_cons_mk (Below.trod laidOut (by kernel_rfl) (of_decide_eq_true (by kernel_rfl)) k0 bel lt0) (trodAll_cons_mk (shut_int Try.underlying3 w1) (trodAll_cons_mk (shut_int Try.underlying3 w2) (trodAll_cons_mk (shut_int Try.underlying23 w3) trodAll_mk0)))), rfl, bel.frame _, fun h => by cases h⟩

theorem over : Rows.codePutsRow.holds Try.pinned (OpenSpec.ofChange Rows.codePutsSpec) :=
  OpenClaim.holds_of_wide 3 Try.f3 rfl rfl rfl rfl rfl rfl rfl ⟨rfl, rfl, rfl, rfl, rfl⟩ rfl rfl rfl rfl rfl (by kernel_rfl) Try.func3 (by kernel_rfl)
    (of_decide_eq_true (by kernel_rfl)) (by unfold Func.isWrapper; first | (rw [if_pos (by decide +kernel)]; kernel_rfl) | (rw [if_neg (by decide +kernel)]; exact ⟨rfl, rfl⟩))
    (fun os started H enc _ => lifted os started H enc)

/-- ████ THE STATEMENT ████ -/
theorem proved : Rows.CodePutsSaid := over
#print axioms proved
end Go.Proofs.Ytifjgdhhfhfecaa.codePuts
