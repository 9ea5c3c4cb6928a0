/-
  Proved here: for every row of bytes and every two numbers the law SumTurns returns true, and the row reads as it did: bytes of which one is another one have another checksum (an empty row, and rows of over 4,096 bytes: the law asks the chapter's example alone).
  Conditions: none beyond the given statement's.
-/
import Derived.Test.YtijfehafimkagaaRows
import Derived.Test.YtijfehafimkagaaMem
import Derived.Deep.RegionWith
import Derived.WalkKit
import Derived.ProofKit
import Derived.OpenShut
import Derived.ShutString
import Derived.ChangeOld
import Derived.Below
namespace Go.Proofs.Ytijfehafimkagaa.sumTurns
open Go.ChangeShapes Go.WideShapes Go.ChangeAt Go.RowKit
open Go.ChangeMaps (open_string shut_string)
set_option linter.unusedVariables false

theorem own : ownKnob Try.prog.godebug = none := by kernel_rfl
theorem laidOut : laidOutB Try.prog = true := by kernel_rfl

/-- Low: the number x, taken below n. -/
def low (x : Int) (n : Nat) : Nat := (IntKind.u64.wrap x).toNat % n
theorem low_lt (x : Int) {n : Nat} (h : 0 < n) : low x n < n := Nat.mod_lt _ h
theorem low_eq (x : Int) (n : Nat) (hn : 0 < n) (hn2 : n ≤ 1073741824) : wrap64 ((IntKind.u64.wrap x).tmod (n : Int)) = (low x n : Nat) := by
  have h0 := wrap_u64_nonneg x
  have hl := low_lt x hn
  obtain ⟨y, hy⟩ : ∃ y : Nat, IntKind.u64.wrap x = (y : Int) := ⟨(IntKind.u64.wrap x).toNat, by omega⟩
  have e : (IntKind.u64.wrap x).tmod (n : Int) = (low x n : Nat) := by
    rw [low, hy, Int.tmod_eq_emod_of_nonneg (by omega), Int.toNat_natCast]
    rfl
  rw [e]
  unfold wrap64
  omega
set_option maxHeartbeats 400000 in
theorem low_any (x : Int) (n : Nat) (w : World) (hn : 0 < n) (hn2 : n ≤ 1073741824) :
    Calls Try.prog 15 #[.int .i64 x, .int .i64 n] w fun e w' => e = .returned (.int .i64 (low x n : Nat)) ∧ w = w' := by
  have H := Lib.hid (low_eq x n hn hn2)
  go_enter Try.func15, Try.ntmps15
  go_wp2
  go_ret
  exact ⟨int_eq H.out, rfl⟩

theorem row_drew {w : World} {A : Option Addr} {l : List UInt8} (h : Row w A l) : Row w.drew A l := h
theorem enc_set (a : List UInt8) (k r : Nat) (hr : r < 256) : (enc a).set k (.int .u8 (r : Nat)) = enc (a.set k (UInt8.ofNat r)) := by
  simp [enc, List.map_set, Nat.mod_eq_of_lt hr]
theorem turned {c : Nat} (hc : c < 4294967296) (a : List UInt8) (k : Nat) (x : UInt8) (hk : k < a.length) (hne : x ≠ a.getD k 0) : addS c (a.set k x) ≠ addS c a := by
  have h1 : a = a.take k ++ a[k] :: a.drop (k + 1) := by simp
  have h2 : a.set k x = a.take k ++ x :: a.drop (k + 1) := List.set_eq_take_append_cons_drop.trans (by rw [if_pos hk])
  have hne2 : x ≠ a[k] := by simpa [List.getD, List.getElem?_eq_getElem hk] using hne
  have h3 : addS c a = addS c (a.take k ++ a[k] :: a.drop (k + 1)) := congrArg (addS c) h1
  rw [h2, h3]
  exact addS_set hc _ _ _ _ hne2

set_option maxHeartbeats 800000 in
theorem short (A : Option Addr) (n c1 : Nat) (a : List UInt8) (x y : Int) (w : World) (ha : a.length = n) (hra : Row w A a) (hc1 : A = none → c1 = 0) (h0 : 0 < n)
    (h1 : n ≤ 4096) :
    Calls Try.prog 5 #[.slice A n c1, .int .i64 x, .int .i64 y] w fun e w' => e = .returned (.bool true) ∧ Below w.heap.size w w' := by
  obtain ⟨v1, w1, hrun1, hown1, hg1, hat1⟩ := run_app w w.heap.size 0 (.slice none 0 0) [] (World.ownsRow_nil _ _ _ _) A n c1 a ha hra hc1 (by omega) (Nat.le_refl _)
  have hb1 : Below w.heap.size w w1 := (Below.refl _ _).grown hg1 (Nat.le_refl _) (by simp [Value.ownBlock])
  rw [List.nil_append, Nat.zero_add] at hown1
  obtain ⟨g, cap, rfl, hgb, hgl⟩ := hown1.form h0
  have hcl := fun j (hj : j < n) => hown1.cellAt j (by omega)
  have hfz := fun j => hown1.frozenAt j
  have HR1 := Lib.hid hrun1
  have HC := Lib.hid hcl
  have HF := Lib.hid hfz
  have HO := Lib.hid hown1
  have HB := Lib.hid hb1
  have HRA := Lib.hid hra
  have HLA := Lib.hid ha
  clear hrun1 hcl hfz hown1 hg1 hat1 hb1 hra ha hc1
  have hn0 : ((n : Int) == 0) = false := by simp; omega
  have hn4 : ¬ (4096 : Int) < (n : Int) := by omega
  go_enter Try.func5, Try.ntmps5
  go_wp2_with (at_builtin; refine wpList_app rfl (.const (.slice none 0 0)) (.tmp 18) 22 rfl rfl rfl HR1.out ?_)
  refine (low_any x n _ h0 (by omega)).mono ?_
  rintro e w' ⟨rfl, rfl⟩
  have hk := low_lt x h0
  obtain ⟨k, hke⟩ : ∃ k, low x n = k := ⟨_, rfl⟩
  rw [hke] at hk ⊢
  clear hke
  have hcell := HC.out k hk
  have hfr := HF.out k
  have hki : (k : Int) < (n : Int) := by omega
  rw [enc_at a k (by have := HLA.out; omega)] at hcell
  have hbyte : (a.getD k 0).toNat < 256 := UInt8.toNat_lt _
  obtain ⟨p, hp⟩ : ∃ p, (a.getD k 0).toNat = p := ⟨_, rfl⟩
  rw [hp] at hcell hbyte
  have HP := Lib.hid hp
  clear hp
  have HL := Lib.hid (fun W => low_any y 255 W (by omega) (by omega))
  have hq := low_lt y (n := 255) (by omega)
  obtain ⟨q, hqe⟩ : ∃ q, low y 255 = q := ⟨_, rfl⟩
  rw [hqe] at HL hq
  clear hqe
  have hxx := u8_xor_nat p (1 + q) hbyte (by omega)
  have hrl : p ^^^ (1 + q) < 256 := Nat.xor_lt_two_pow (n := 8) (by omega) (by omega)
  obtain ⟨r, hr⟩ : ∃ r, p ^^^ (1 + q) = r := ⟨_, rfl⟩
  have hxor : bits .xor .u8 (p : Int) (1 + (q : Int)) = (r : Int) := by
    rw [← hr, ← hxx]
    rfl
  rw [hr] at hrl
  have HRR := Lib.hid hr
  clear hxx hr
  have hne : UInt8.ofNat r ≠ a.getD k 0 := by
    intro e
    have e2 := congrArg UInt8.toNat e
    rw [UInt8.toNat_ofNat', Nat.mod_eq_of_lt hrl, HP.out, ← HRR.out] at e2
    have e3 := xor_back (1 + q) p
    rw [e2, Nat.xor_self] at e3
    omega
  have hset := turned (c := 0) (by omega) a k (UInt8.ofNat r) (by have := HLA.out; omega) hne
  have hown2 := (HO.out.stored k (.int .u8 (r : Nat))).1
  rw [enc_set a k r hrl] at hown2
  obtain ⟨C, cap2, hceq, hrow2⟩ := row_of_own hown2 (by rw [List.length_set, HLA.out]; omega)
  obtain ⟨rfl, _, rfl⟩ : C = some ⟨g, 0, none⟩ ∧ True ∧ cap2 = cap := by
    injection hceq with h1 h2 h3
    exact ⟨h1.symm, trivial, h3.symm⟩
  have hbel2 : Below w.heap.size w ((w1.setCell ⟨g, k, none⟩ (.int .u8 (r : Nat))).drew) := (HB.out.setCell hgb _).drew
  have HS1 := Lib.hid (sum_any (some ⟨g, 0, none⟩) n cap2 (a.set k (UInt8.ofNat r)) (by rw [List.length_set]; exact HLA.out) _ (row_drew hrow2))
  have HS2 := Lib.hid (sum_any A n c1 a HLA.out _ (HRA.out.below hbel2))
  obtain ⟨W, hW⟩ : ∃ W, (w1.setCell ⟨g, k, none⟩ (.int .u8 (r : Nat))).drew = W := ⟨_, rfl⟩
  rw [hW] at HS1 HS2 hbel2
  have HW := Lib.hid hW
  have HB2 := Lib.hid hbel2
  obtain ⟨X, hX⟩ : ∃ X, addS 0 (a.set k (UInt8.ofNat r)) = X := ⟨_, rfl⟩
  obtain ⟨Y, hY⟩ : ∃ Y, addS 0 a = Y := ⟨_, rfl⟩
  rw [hX, hY] at hset
  rw [hX] at HS1
  rw [hY] at HS2
  have hXY : ((X : Int) != (Y : Int)) = true := by simp; omega
  have HX := Lib.hid hxor
  clear hset hX hY hW hbel2 hown2 hrow2 hceq hne hxor
  go_wp2_with fail
  go_region_with (go_at_call 15; refine (HL.out _).mono ?_; rintro e w' ⟨rfl, rfl⟩)
  all_goals
    go_wp2_with fail
    rw [HX.out, HW.out]
    refine HS1.out.mono ?_
    rintro e w' ⟨rfl, rfl⟩
    go_wp2_with fail
    refine HS2.out.mono ?_
    rintro e w' ⟨rfl, rfl⟩
    go_wp2_with fail
    refine (awake_any _).mono ?_
    rintro e w3 ⟨rfl, hb3⟩
    go_wp2
    go_ret
    exact ⟨rfl, HB2.out.trans (hb3.mono HB2.out.size)⟩
theorem walk (a0 : Option Addr) (len0 cap0 : Nat) (z0 : List Int) (a1 : Int) (a2 : Int) (w : World) (w0 : IsRow .u8 w a0 len0 cap0 z0) (w1 : (Lit.int .i64 a1).wf = true) (w2 : (Lit.int .i64 a2).wf = true) :
    Calls Try.prog 5 #[.slice a0 len0 cap0, .int .i64 a1, .int .i64 a2] w fun e w' => e = .returned (.bool true) ∧ Below w.heap.size w w' := by
  rcases Nat.eq_zero_or_pos len0 with h0 | h0
  · have hl : ((len0 : Int) == 0) = true := by simp; omega
    clear h0 w0 w1 w2
    go_enter Try.func5, Try.ntmps5
    go_wp2_with fail
    refine (awake_any _).mono ?_
    rintro e w' ⟨rfl, hb⟩
    go_wp2
    go_ret
    exact ⟨rfl, hb⟩
  · rcases Nat.lt_or_ge 4096 len0 with h1 | h1
    · have hl : ((len0 : Int) == 0) = false := by simp; omega
      have hm : (4096 : Int) < (len0 : Int) := by omega
      clear h0 h1 w0 w1 w2
      go_enter Try.func5, Try.ntmps5
      go_wp2_with fail
      refine (awake_any _).mono ?_
      rintro e w' ⟨rfl, hb⟩
      go_wp2
      go_ret
      exact ⟨rfl, hb⟩
    · obtain ⟨l0, e0, r0, c0⟩ := w0.row (by omega)
      exact short a0 len0 cap0 l0 a1 a2 w e0 r0 c0 h0 h1

/-! ### THE ROW's STEP: WRITTEN OUT: LEAVE IT -/
set_option maxRecDepth 100000 in
theorem lifted (os : Os) (started : os.Started) (H : Type) (enc : TypeId × Value → H) :
    ReturnsInHanded {} Try.checked os 5 .any (Rows.sumTurnsSpec.pre6 enc Try.prog Try.f5 Rows.sumTurnsRow.domain false) (Rows.sumTurnsSpec.post enc Try.prog Try.f5 false true false false) := by
  refine returnsInHanded_of_change (C := Try.checked) own started (by kernel_rfl) Try.func5
    (ChangeSpec.witness6 (enc := enc) (C := Try.checked) false ⟨#[], #[.slice none 0 0, .int .i64 0, .int .i64 0], []⟩ 8 (by kernel_rfl) (by kernel_rfl) (by kernel_rfl) (by kernel_rfl)) ?_
  intro W base args ds gs before hval0 hW hcnd _
  have hval : ∀ (j : Nat) t v, Try.f5.params[j]? = some t → args[j]? = some v → Value.okWide Try.prog W .any base t v := hval0
  have hW' := hW
  obtain ⟨p, q, hA0, hV, rfl, hfz, hnd⟩ := hW
  have hA : DataW.TrodAll enc Try.prog W 0 (fun _ => true) true Try.f5.params.toList args.toList ds p := hA0
  rw [Try.params5] at hA hval
  obtain ⟨v0, vs0, d0, ds0, p0, q0, hargs, rfl, rfl, h0, r0⟩ := trodAll_cons hA
  obtain ⟨v1, vs1, d1, ds1, p1, q1, rfl, rfl, rfl, h1, r1⟩ := trodAll_cons r0
  obtain ⟨v2, vs2, d2, ds2, p2, q2, rfl, rfl, rfl, h2, r2⟩ := trodAll_cons r1
  obtain ⟨rfl, rfl, rfl⟩ := trodAll_nil r2
  obtain rfl : args = #[v0, v1, v2] := by cases args; simp_all
  obtain ⟨rfl, rfl⟩ := trodVars_none hV
  obtain ⟨a0, len0, cap0, rfl⟩ := okWide_slice Try.underlying22 (hval 0 22 v0 rfl rfl)
  have k0 := h0
  have lt0 : ∀ x ∈ p0, x.block < W.heap.size := by obtain ⟨m, hm⟩ := k0; exact DataW.trod_lt m _ _ _ hm
  obtain ⟨z0, w0⟩ : ∃ zs, IsRow .u8 W a0 len0 cap0 zs := by
    obtain ⟨fuel, hf⟩ := h0
    rcases open_ints Try.underlying22 Try.underlying5 (by kernel_rfl) hf with ⟨hcs, _⟩ | ⟨x, l, c, zs, hcs, _, hl, hm, hz, _, hcell, hwz⟩
    · simp [Value.cells] at hcs
      obtain ⟨rfl, rfl, rfl⟩ := hcs
      exact ⟨[], .inl ⟨rfl, rfl, rfl, rfl⟩⟩
    · simp [Value.cells] at hcs
      obtain ⟨rfl, rfl, rfl⟩ := hcs
      exact ⟨zs, .inr ⟨_, rfl, hl, hm, by simpa using hz, hcell, hwz⟩⟩
  obtain ⟨a1, rfl, rfl, rfl, w1⟩ := open_int Try.underlying3 (hval 1 3 v1 rfl rfl) h1
  obtain ⟨a2, rfl, rfl, rfl, w2⟩ := open_int Try.underlying3 (hval 2 3 v2 rfl rfl) h2
  clear hA0 hval0
  refine (walk a0 len0 cap0 z0 a1 a2 W w0 w1 w2).mono fun e W' ⟨he, bel⟩ => ?_
  subst he
  exact ⟨_, rfl, _, _, _, [], _, [], hW', trodAll_mk1 (shut_bool Try.underlying4 _), (trodAll_cons_mk (Below.trod laidOut (by kernel_rfl) (of_decide_eq_true (by kernel_rfl)) k0 bel lt0) (trodAll_cons_mk (shut_int Try.underlying3 w1) (trodAll_cons_mk (shut_int Try.underlying3 w2) trodAll_mk0))), rfl, bel.frame _, fun h => by cases h⟩

theorem over : Rows.sumTurnsRow.holds Try.pinned (OpenSpec.ofChange Rows.sumTurnsSpec) :=
  OpenClaim.holds_of_wide 5 Try.f5 rfl rfl rfl rfl rfl rfl rfl ⟨rfl, rfl, rfl, rfl, rfl⟩ rfl rfl rfl rfl rfl (by kernel_rfl) Try.func5 (by kernel_rfl)
    (of_decide_eq_true (by kernel_rfl)) (by unfold Func.isWrapper; first | (rw [if_pos (by decide +kernel)]; kernel_rfl) | (rw [if_neg (by decide +kernel)]; exact ⟨rfl, rfl⟩))
    (fun os started H enc _ => lifted os started H enc)

/-- ████ THE STATEMENT ████ -/
theorem proved : Rows.SumTurnsSaid := over
#print axioms proved
end Go.Proofs.Ytijfehafimkagaa.sumTurns
