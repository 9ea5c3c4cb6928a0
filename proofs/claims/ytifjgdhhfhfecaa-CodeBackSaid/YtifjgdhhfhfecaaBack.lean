/-
  Proved here: for every row of bytes and every three numbers the law CodeBack returns true, and the row reads as it did: what Put has laid Get reads again, and Put turns no other byte (rows of over 1,024 bytes: the law asks the chapter's example alone).
  Conditions: none beyond the given statement's.
-/
import Derived.Test.YtifjgdhhfhfecaaRows
import Derived.IntWalk
import Derived.WalkSmall
import Derived.Deep.QuietTactic
import Derived.BigQuiet
import Derived.Test.YtifjgdhhfhfecaaOver
import Derived.Test.YtifjgdhhfhfecaaAwake2
import Derived.WalkKit
import Derived.ProofKit
import Derived.OpenShut
import Derived.ShutString
import Derived.ChangeOld
import Derived.Below
namespace Go.Proofs.Ytifjgdhhfhfecaa.codeBack
open Go.ChangeShapes Go.WideShapes Go.ChangeAt Go.RowKit
open Go.ChangeMaps (open_string shut_string)
set_option linter.unusedVariables false

theorem own : ownKnob Try.prog.godebug = none := by kernel_rfl
theorem laidOut : laidOutB Try.prog = true := by kernel_rfl

set_option maxHeartbeats 800000 in
theorem refused (A : Option Addr) (n c : Nat) (p k v : Int) (w : World) (hn : n ≤ 1024) (x : Int) (hx : x ≠ 0)
    (hp : Calls Try.prog 10 #[.slice A n c, .int .i64 p, .int .i64 k, .int .u64 v] w fun e w' => e = .returned (.tuple #[.slice none 0 0, .int .i64 x]) ∧ w = w') :
    Calls Try.prog 6 #[.slice A n c, .int .i64 p, .int .i64 k, .int .u64 v] w fun e w' => e = .returned (.bool true) ∧ Below w.heap.size w w' := by
  have HP := Lib.hid hp
  have hn4 : ¬ (1024 : Int) < (n : Int) := by omega
  have hne : (x != 0) = true := by simpa using hx
  clear hp hx
  go_enter Try.func6, Try.ntmps6
  go_wp2_with fail
  refine HP.out.mono ?_
  rintro e w' ⟨rfl, rfl⟩
  go_wp2_with fail
  refine (awake_any _).mono ?_
  rintro e w4 ⟨rfl, hb4⟩
  go_wp2
  go_ret
  exact ⟨rfl, hb4⟩

/-- The rows l, handed in, and r, laid, read so. -/
def Both (w : World) (b off g n : Nat) (l r : List UInt8) : Prop :=
  ∀ i, i < n → w.cell? ⟨b, off + i, none⟩ = some (.int .u8 ((l.getD i 0).toNat : Nat)) ∧ w.cell? ⟨g, i, none⟩ = some (.int .u8 ((r.getD i 0).toNat : Nat))

set_option maxHeartbeats 1600000 in
theorem laidOk (A : Option Addr) (n c : Nat) (l : List UInt8) (a k v : Nat) (w : World) (hl : l.length = n) (hr : Row w A l) (hn : n ≤ 1024) (hv : v < 18446744073709551616) (h1 : 1 ≤ k) (h8 : k ≤ 8) (ha : a + k ≤ n) (hf : fit v k = true) :
    Calls Try.prog 6 #[.slice A n c, .int .i64 a, .int .i64 k, .int .u64 v] w fun e w' => e = .returned (.bool true) ∧ Below w.heap.size w w' := by
  have HP := Lib.hid (put_ok A n c l hl a k v hv h1 h8 ha hf w hr)
  have hcut : le (cut (splice l a (lay k v)) a k) = v := by
    rw [cut, splice_mid l a k v (by omega), le_lay_of (fit_lt hf)]
  have HG := Lib.hid (fun w1 A1 (hw : Row w1 A1 (splice l a (lay k v))) => get_ok A1 n n (splice l a (lay k v)) ((splice_len l a k v (by omega)).trans hl) a k h1 h8 ha w1 hw)
  rw [hcut] at HG
  have HO := Lib.hid (fun i (hi : i < a ∨ a + k ≤ i) => splice_other l a k v i (by omega) hi)
  have HS := Lib.hid (splice_len l a k v (by omega))
  obtain ⟨r, hre⟩ : ∃ r, splice l a (lay k v) = r := ⟨_, rfl⟩
  rw [hre] at HP HG HO HS
  obtain ⟨b, off, rfl, hlt, hcl⟩ := hr.2 (by omega)
  have HCL := Lib.hid hcl
  have HL := Lib.hid hl
  have hn4 : ¬ (1024 : Int) < (n : Int) := by omega
  have hvv : ((v : Int) != (v : Int)) = false := by simp
  have hnn : ((n : Int) != (n : Int)) = false := by simp
  clear hl hr hf hre hcl hcut
  go_enter Try.func6, Try.ntmps6
  go_wp2_with fail
  refine HP.out.mono ?_
  rintro e w1 ⟨g, rfl, hg, hblk, hb1⟩
  have hrow := hblk.row (by have := HS.out; have := HL.out; omega)
  have HG1 := Lib.hid (HG.out w1 _ hrow)
  have HC : Hid (Both w1 b off g n l r) := fun i hi => ⟨(hb1.cell (p := ⟨b, off + i, none⟩) hlt).trans (HCL.out i (by have := HL.out; omega)), by rw [Blk.cell hblk, enc_at r i (by have := HS.out; have := HL.out; omega)]⟩
  have HB1 := Lib.hid hb1
  clear hblk hb1 hrow hg
  go_wp2_with fail
  refine HG1.out.mono ?_
  rintro e w' ⟨rfl, rfl⟩
  go_wp2
  clear HG HG1 HP
  go_loopg [13] n (fun gk s13 wx => ∃ i : Nat, i + gk = n ∧ s13 = .int .i64 i ∧ Hid (Both wx b off g n l r) ∧ Hid (Below w.heap.size w wx))
  case atStart => exact ⟨0, by omega, rfl, HC, HB1⟩
  case round =>
    clear HC HB1
    obtain ⟨i, hik, rfl, HC, HB⟩ := hrel
    cases gk with
    | zero =>
      obtain rfl : i = n := by omega
      have hii : ¬ (i : Int) < (i : Int) := by omega
      go_wp2_with fail
      refine (awake_any _).mono ?_
      rintro e w4 ⟨rfl, hb4⟩
      have HB4 := Lib.hid hb4
      clear hb4
      go_wp2
      go_ret
      exact ⟨rfl, HB.out.trans (HB4.out.mono HB.out.size)⟩
    | succ gk =>
      have hii : (i : Int) < (n : Int) := by omega
      have hin : i < n := by omega
      obtain ⟨hc1, hc2⟩ := HC.out i hin
      have hwrap : IntKind.i64.wrap ((a : Int) + (k : Int)) = (a : Int) + (k : Int) := IntWalk.i64_in _ (by omega)
      rcases Nat.lt_or_ge i a with h | h
      · have hd1 : decide (i < a) = true := by simp; omega
        rw [HO.out i (.inl h)] at hc2
        obtain ⟨x, hx⟩ : ∃ x, (l.getD i 0).toNat = x := ⟨_, rfl⟩
        rw [hx] at hc1 hc2
        have hxx : ((x : Int) != (x : Int)) = false := by simp
        clear hx
        go_wp2
        go_quiet (fail)
        go_wp2
        go_roundg gk
        case measure => omega
        case rel => exact ⟨i + 1, by omega, by go_num, HC.out, below_drewN HB.out _⟩
      · have hd1 : decide (i < a) = false := by simp; omega
        rcases Nat.lt_or_ge i (a + k) with h2 | h2
        · have hd2 : decide ((a : Int) + (k : Int) ≤ (i : Int)) = false := by simp; omega
          go_wp2
          go_quiet (fail)
          go_wp2
          go_roundg gk
          case measure => omega
          case rel => exact ⟨i + 1, by omega, by go_num, HC.out, below_drewN HB.out _⟩
        · have hd2 : decide ((a : Int) + (k : Int) ≤ (i : Int)) = true := by simp; omega
          rw [HO.out i (.inr h2)] at hc2
          obtain ⟨x, hx⟩ : ∃ x, (l.getD i 0).toNat = x := ⟨_, rfl⟩
          rw [hx] at hc1 hc2
          have hxx : ((x : Int) != (x : Int)) = false := by simp
          clear hx
          go_wp2
          go_quiet (fail)
          go_wp2
          go_roundg gk
          case measure => omega
          case rel => exact ⟨i + 1, by omega, by go_num, HC.out, below_drewN HB.out _⟩

theorem walk (a0 : Option Addr) (len0 cap0 : Nat) (z0 : List Int) (a1 : Int) (a2 : Int) (a3 : Int) (w : World) (w0 : IsRow .u8 w a0 len0 cap0 z0) (w1 : (Lit.int .i64 a1).wf = true) (w2 : (Lit.int .i64 a2).wf = true) (w3 : (Lit.int .u64 a3).wf = true) :
    Calls Try.prog 6 #[.slice a0 len0 cap0, .int .i64 a1, .int .i64 a2, .int .u64 a3] w fun e w' => e = .returned (.bool true) ∧ Below w.heap.size w w' := by
  rcases Nat.lt_or_ge 1024 len0 with h0 | h0
  · have hl : (1024 : Int) < (len0 : Int) := by omega
    clear h0 w0 w1 w2 w3
    go_enter Try.func6, Try.ntmps6
    go_wp2_with fail
    refine (awake_any _).mono ?_
    rintro e w' ⟨rfl, hb⟩
    go_wp2
    go_ret
    exact ⟨rfl, hb⟩
  · obtain ⟨l0, e0, r0, c0⟩ := w0.row (by omega)
    have hb := bounds_u64 w3
    obtain ⟨v, rfl⟩ : ∃ v : Nat, a3 = (v : Int) := ⟨a3.toNat, by omega⟩
    have hv : v < 18446744073709551616 := by omega
    rcases Classical.em (chk len0 a1 a2 = 0) with h | h
    · obtain ⟨a, m, rfl, rfl, h1, h8, ha⟩ := chk_nat h
      cases hf : fit v m with
      | true => exact laidOk a0 len0 cap0 l0 a m v w e0 r0 h0 hv h1 h8 ha hf
      | false => exact refused a0 len0 cap0 a m v w h0 11 (by decide) (put_full _ _ _ (by omega) a m v hv h h1 h8 hf w)
    · exact refused a0 len0 cap0 a1 a2 v w h0 _ h (put_bad _ _ _ (by omega) a1 a2 v h w)

/-! ### THE ROW's STEP: WRITTEN OUT: LEAVE IT -/
set_option maxRecDepth 100000 in
theorem lifted (os : Os) (started : os.Started) (H : Type) (enc : TypeId × Value → H) :
    ReturnsInHanded {} Try.checked os 6 .any (Rows.codeBackSpec.pre6 enc Try.prog Try.f6 Rows.codeBackRow.domain false) (Rows.codeBackSpec.post enc Try.prog Try.f6 false true false false) := by
  refine returnsInHanded_of_change (C := Try.checked) own started (by kernel_rfl) Try.func6
    (ChangeSpec.witness6 (enc := enc) (C := Try.checked) false ⟨#[], #[.slice none 0 0, .int .i64 0, .int .i64 0, .int .u64 0], []⟩ 8 (by kernel_rfl) (by kernel_rfl) (by kernel_rfl) (by kernel_rfl)) ?_
  intro W base args ds gs before hval0 hW hcnd _
  have hval : ∀ (j : Nat) t v, Try.f6.params[j]? = some t → args[j]? = some v → Value.okWide Try.prog W .any base t v := hval0
  have hW' := hW
  obtain ⟨p, q, hA0, hV, rfl, hfz, hnd⟩ := hW
  have hA : DataW.TrodAll enc Try.prog W 0 (fun _ => true) true Try.f6.params.toList args.toList ds p := hA0
  rw [Try.params6] at hA hval
  obtain ⟨v0, vs0, d0, ds0, p0, q0, hargs, rfl, rfl, h0, r0⟩ := trodAll_cons hA
  obtain ⟨v1, vs1, d1, ds1, p1, q1, rfl, rfl, rfl, h1, r1⟩ := trodAll_cons r0
  obtain ⟨v2, vs2, d2, ds2, p2, q2, rfl, rfl, rfl, h2, r2⟩ := trodAll_cons r1
  obtain ⟨v3, vs3, d3, ds3, p3, q3, rfl, rfl, rfl, h3, r3⟩ := trodAll_cons r2
  obtain ⟨rfl, rfl, rfl⟩ := trodAll_nil r3
  obtain rfl : args = #[v0, v1, v2, v3] := by cases args; simp_all
  obtain ⟨rfl, rfl⟩ := trodVars_none hV
  obtain ⟨a0, len0, cap0, rfl⟩ := okWide_slice Try.underlying22 (hval 0 22 v0 rfl rfl)
  have k0 := h0
  have lt0 : ∀ x ∈ p0, x.block < W.heap.size := by obtain ⟨m, hm⟩ := k0; exact DataW.trod_lt m _ _ _ hm
  obtain ⟨z0, w0⟩ : ∃ zs, IsRow .u8 W a0 len0 cap0 zs := by
    obtain ⟨fuel, hf⟩ := h0
    rcases open_ints Try.underlying22 Try.underlying5 (by kernel_rfl) hf with ⟨hcs, _⟩ | ⟨x, l, c, zs, hcs, _, hl, hm, hz, _, hcell, hwz⟩
    · simp [Value.cells] at hcs
      obtain ⟨rfl, rfl, rfl⟩ := hcs
      exact ⟨[], .inl ⟨rfl, rfl, rfl, rfl⟩⟩
    · simp [Value.cells] at hcs
      obtain ⟨rfl, rfl, rfl⟩ := hcs
      exact ⟨zs, .inr ⟨_, rfl, hl, hm, by simpa using hz, hcell, hwz⟩⟩
  obtain ⟨a1, rfl, rfl, rfl, w1⟩ := open_int Try.underlying3 (hval 1 3 v1 rfl rfl) h1
  obtain ⟨a2, rfl, rfl, rfl, w2⟩ := open_int Try.underlying3 (hval 2 3 v2 rfl rfl) h2
  obtain ⟨a3, rfl, rfl, rfl, w3⟩ := open_int Try.underlying23 (hval 3 23 v3 rfl rfl) h3
  clear hA0 hval0
  refine (walk a0 len0 cap0 z0 a1 a2 a3 W w0 w1 w2 w3).mono fun e W' ⟨he, bel⟩ => ?_
  subst he
  exact ⟨_, rfl, _, _, _, [], _, [], hW', trodAll_mk1 (shut_bool Try.underlying4 _), (trodAll_cons_mk (Below.trod laidOut (by kernel_rfl) (of_decide_eq_true (by kernel_rfl)) k0 bel lt0) (trodAll_cons_mk (shut_int Try.underlying3 w1) (trodAll_cons_mk (shut_int Try.underlying3 w2) (trodAll_cons_mk (shut_int Try.underlying23 w3) trodAll_mk0)))), rfl, bel.frame _, fun h => by cases h⟩

theorem over : Rows.codeBackRow.holds Try.pinned (OpenSpec.ofChange Rows.codeBackSpec) :=
  OpenClaim.holds_of_wide 6 Try.f6 rfl rfl rfl rfl rfl rfl rfl ⟨rfl, rfl, rfl, rfl, rfl⟩ rfl rfl rfl rfl rfl (by kernel_rfl) Try.func6 (by kernel_rfl)
    (of_decide_eq_true (by kernel_rfl)) (by unfold Func.isWrapper; first | (rw [if_pos (by decide +kernel)]; kernel_rfl) | (rw [if_neg (by decide +kernel)]; exact ⟨rfl, rfl⟩))
    (fun os started H enc _ => lifted os started H enc)

/-- ████ THE STATEMENT ████ -/
theorem proved : Rows.CodeBackSaid := over
#print axioms proved
end Go.Proofs.Ytifjgdhhfhfecaa.codeBack
