/-
  Proved here: the statement BlockReads, in full: of any bytes block.Decode tells what chapter 6 says, and leaves them as they were.
  Conditions: none.
-/
import Derived.Test.YtokobelmoanneaaRows
import Derived.Test.YtokobelmoanneaaBlockV
import Derived.IntWalk
import Derived.WalkSmall
import Derived.Deep.QuietTactic
import Derived.BigQuiet
import Derived.WalkKit
import Derived.ProofKit
import Derived.OpenShut
import Derived.ShutString
import Derived.ChangeOld
import Derived.Below
namespace Go.Proofs.Ytokobelmoanneaa.blockReads
open Go.ChangeShapes Go.WideShapes Go.ChangeAt Go.RowKit
open Go.ChangeMaps (open_string shut_string)
set_option linter.unusedVariables false

theorem own : ownKnob Try.prog.godebug = none := by kernel_rfl
theorem laidOut : laidOutB Try.prog = true := by kernel_rfl

theorem cap_ge {w : World} {a : Option Addr} {len cap : Nat} {zs : List Int} (h : IsRow .u8 w a len cap zs) : len ≤ cap := by
  rcases h with ⟨rfl, rfl, rfl, rfl⟩ | ⟨x, rfl, hlc, _⟩
  · exact Nat.le_refl _
  · exact hlc
set_option maxHeartbeats 400000 in
theorem walk_long (A : Option Addr) (n cap : Nat) (w : World) (h : 1024 < n) :
    Calls Try.prog 5 #[.slice A n cap] w fun e w' => e = .returned (.bool true) ∧ Below w.heap.size w w' := by
  have HAW := Lib.hid awake_any
  have h1 : (1024 : Int) < (n : Int) := by omega
  go_enter Try.func5, Try.ntmps5
  go_wp2_with fail
  refine (HAW.out _).mono ?_
  rintro e w1 ⟨rfl, hb⟩
  have HB := Lib.hid hb
  clear hb
  go_wp2
  go_ret
  exact ⟨rfl, HB.out⟩
/-- Both tell the same of bytes. -/
theorem both_read (l : List UInt8) (A : Option Addr) (n cap : Nat) (hl : l.length = n) (hc : n ≤ cap) : ∃ (R : BV) (ok : Bool),
    (∀ W g, Row W (some ⟨g, 0, none⟩) l → Calls Try.prog 20 #[.slice (some ⟨g, 0, none⟩) n (n + 5)] W fun e w' => e = .returned (.tuple #[R.agg, .bool ok]) ∧ Below W.heap.size W w') ∧
    (∀ W, Row W A l → Calls Try.prog 21 #[.slice A n cap] W fun e w' => e = .returned (.tuple #[R.agg, .bool ok]) ∧ Below W.heap.size W w') := by
  rcases Classical.em (isLines l) with h | h
  · obtain ⟨b, ho, hm, rfl⟩ := h
    have hlen := linesL_len hm
    have hsp := spanN_rest (mayB_cl hm)
    refine ⟨b, true, fun W g hr => dec_yes W g 0 n (n + 5) b ho hm hl (by omega) hr, fun W hr => ?_⟩
    obtain ⟨g, off, rfl, _, _⟩ := hr.2 (by omega)
    exact rdec_yes W g off n cap b ho hm hl hc hr
  · refine ⟨zeroBV, false, fun W g hr => dec_no W g 0 n (n + 5) l h hl (by omega) hr, fun W hr => ?_⟩
    rcases Nat.lt_or_ge n 64 with h1 | h1
    · exact rdec_short W A n cap h1
    · obtain ⟨g, off, rfl, _, _⟩ := hr.2 (by omega)
      exact rdec_no W g off n cap l h hl hc hr
set_option maxHeartbeats 4000000 in
set_option maxRecDepth 100000 in
theorem walk_short (A : Option Addr) (n cap : Nat) (l : List UInt8) (w : World) (hl : l.length = n) (hr : Row w A l) (hc0 : A = none → cap = 0) (hc : n ≤ cap) (hn : n ≤ 1024) :
    Calls Try.prog 5 #[.slice A n cap] w fun e w' => e = .returned (.bool true) ∧ Below w.heap.size w w' := by
  have HAW := Lib.hid awake_any
  have HZ := Lib.hid zero_block
  have hn4 : ¬ (1024 : Int) < (n : Int) := by omega
  have HLEND := Lib.hid (lend_any w A n cap l hl hr hc0)
  obtain ⟨R, ok, hD, hE⟩ := both_read l A n cap hl hc
  have HD := Lib.hid hD
  have HE := Lib.hid hE
  have HAC := Lib.hid (all_cells R)
  have HBX : Hid (∀ W g, W.heap[g]? = some (.cells #[.int .i64 R.cl, .int .i64 R.kd, .int .u64 (R.id : Nat), .int .u64 (R.ver : Nat), .int .u64 (R.ep : Nat), .string R.key, .string R.val] 24 (0, 0)) → Box W g R) := fun _ _ h => h
  have HKP : Hid (∀ W g, Lent W g l → Row W A l → Calls Try.prog 22 #[.slice (some ⟨g, 0, none⟩) n (n + 5), .slice A n cap] W fun e w' => e = .returned (.bool true) ∧ W = w') := fun W g h1 h2 => kept_any W g A n cap l hl (by omega) h1 h2
  have HLN := Lib.hid hl
  obtain ⟨p, hp⟩ : ∃ p, w.heap.size = p := ⟨_, rfl⟩
  have HP := Lib.hid hp
  have HR := Lib.hid hr
  have hoo : (ok == ok) = true := by simp
  rw [BV.agg] at HD HE
  clear hD hE hl hr hc0 hp
  obtain ⟨cl, kd, id, ver, ep, key, val⟩ := R
  simp only at *
  go_enter Try.func5, Try.ntmps5
  go_wp2_with fail
  refine HLEND.out.mono ?_
  rintro e w1 ⟨g, rfl, hg, hlent, hb⟩
  have HL1 := Lib.hid hlent
  have HR1 := Lib.hid (HR.out.below hb)
  have HB1 : Hid (Below p w w1) := HP.out ▸ hb
  clear hlent hb hg
  go_wp2_with fail
  refine (HD.out w1 g (HL1.out.row (by rw [HLN.out]; omega))).mono ?_
  rintro e w2 ⟨rfl, hb⟩
  have HL2 : Hid (Lent w2 g l) := Blk.below HL1.out hb (Blk.lt HL1.out)
  have HR2 := Lib.hid (HR1.out.below hb)
  have HB2 : Hid (Below p w w2) := HB1.out.trans (hb.mono (HP.out ▸ HB1.out.size))
  obtain ⟨q, hq⟩ : ∃ q, w2.heap.size = q := ⟨_, rfl⟩
  have HQ := Lib.hid hq
  clear hb hq
  go_wp2_with (first
    | ((with_reducible show wpList _ _ _ (⟨some 4, .alloc _, _, _, _, _⟩ :: _) _ _); refine wpList_alloc_var (o := ⟨some 4, _, _, _, _, _⟩) rfl 24 rfl q HQ.out _ HZ.out ?_; intro w3 HA3 HB3)
    | ((with_reducible show wpList _ _ _ (⟨none, .store _ (.tmp 4) _, _, _, _, _⟩ :: _) _ _); refine wpList_store_whole (o := ⟨none, .store 24 (.tmp 4) (.tmp 17), _, _, _, _⟩) rfl _ _ _ rfl rfl q _ rfl rfl 24 _ HA3.out size_block rfl HAC.out ?_; intro w4 HA4 HB4; have HX4 := Lib.hid (HBX.out _ _ HA4.out); have hb34 : Below w2.heap.size w2 w4 := HQ.out.symm ▸ HB3.out.trans HB4.out; have HL4 : Hid (Lent w4 g l) := Blk.below HL2.out hb34 (Blk.lt HL2.out); have HR4 := Lib.hid (HR2.out.below hb34); have HB4' : Hid (Below p w w4) := HB2.out.trans (hb34.mono (HP.out ▸ HB2.out.size)); clear hb34))
  refine (HE.out w4 HR4.out).mono ?_
  rintro e w5 ⟨rfl, hb⟩
  have HL5 : Hid (Lent w5 g l) := Blk.below HL4.out hb (Blk.lt HL4.out)
  have HR5 := Lib.hid (HR4.out.below hb)
  have HX5 := Lib.hid (HX4.out.below hb HX4.out.lt)
  have HB5 : Hid (Below p w w5) := HB4'.out.trans (hb.mono (HP.out ▸ HB4'.out.size))
  obtain ⟨r, hr⟩ : ∃ r, w5.heap.size = r := ⟨_, rfl⟩
  have HRR := Lib.hid hr
  clear hb hr
  go_wp2_with (first
    | ((with_reducible show wpList _ _ _ (⟨some 6, .alloc _, _, _, _, _⟩ :: _) _ _); refine wpList_alloc_var (o := ⟨some 6, _, _, _, _, _⟩) rfl 24 rfl r HRR.out _ HZ.out ?_; intro w6 HA6 HB6)
    | ((with_reducible show wpList _ _ _ (⟨none, .store _ (.tmp 6) _, _, _, _, _⟩ :: _) _ _); refine wpList_store_whole (o := ⟨none, .store 24 (.tmp 6) (.tmp 22), _, _, _, _⟩) rfl _ _ _ rfl rfl r _ rfl rfl 24 _ HA6.out size_block rfl HAC.out ?_; intro w7 HA7 HB7; have HY7 := Lib.hid (HBX.out _ _ HA7.out); have hb67 : Below w5.heap.size w5 w7 := HRR.out.symm ▸ HB6.out.trans HB7.out; have HL7 : Hid (Lent w7 g l) := Blk.below HL5.out hb67 (Blk.lt HL5.out); have HR7 := Lib.hid (HR5.out.below hb67); have HX7 := Lib.hid (HX5.out.below hb67 HX5.out.lt); have HB7' : Hid (Below p w w7) := HB5.out.trans (hb67.mono (HP.out ▸ HB5.out.size)); obtain ⟨c0, c1, c2, c3, c4, c5, c6⟩ := HX7.out.cells; obtain ⟨d0, d1, d2, d3, d4, d5, d6⟩ := HY7.out.cells; clear hb67)
    | (go_at_call 22; refine (HKP.out w7 g HL7.out HR7.out).mono ?_; rintro e w' ⟨rfl, rfl⟩)
    | (go_at_call 14; refine (HAW.out _).mono ?_; rintro e w8 ⟨rfl, hb⟩; have HB8 : Hid (Below p w w8) := HB7'.out.trans (hb.mono (HP.out ▸ HB7'.out.size)); clear hb))
  go_ret
  exact ⟨rfl, by rw [HP.out]; exact HB8.out⟩
theorem walk (A : Option Addr) (n cap : Nat) (zs : List Int) (w : World) (hr : IsRow .u8 w A n cap zs) :
    Calls Try.prog 5 #[.slice A n cap] w fun e w' => e = .returned (.bool true) ∧ Below w.heap.size w w' := by
  rcases Nat.lt_or_ge 1024 n with h | h
  · exact walk_long A n cap w h
  · obtain ⟨l, hl, hrow, hc0⟩ := hr.row (by omega)
    exact walk_short A n cap l w hl hrow hc0 (cap_ge hr) h

set_option maxRecDepth 100000 in
theorem lifted (os : Os) (started : os.Started) (H : Type) (enc : TypeId × Value → H) :
    ReturnsInHanded {} Try.checked os 5 .any (Rows.blockReadsSpec.pre6 enc Try.prog Try.f5 Rows.blockReadsRow.domain false) (Rows.blockReadsSpec.post enc Try.prog Try.f5 false true false false) := by
  refine returnsInHanded_of_change (C := Try.checked) own started (by kernel_rfl) Try.func5
    (ChangeSpec.witness6 (enc := enc) (C := Try.checked) false ⟨#[], #[.slice none 0 0], []⟩ 8 (by kernel_rfl) (by kernel_rfl) (by kernel_rfl) (by kernel_rfl)) ?_
  intro W base args ds gs before hval0 hW hcnd _
  have hval : ∀ (j : Nat) t v, Try.f5.params[j]? = some t → args[j]? = some v → Value.okWide Try.prog W .any base t v := hval0
  have hW' := hW
  obtain ⟨p, q, hA0, hV, rfl, hfz, hnd⟩ := hW
  have hA : DataW.TrodAll enc Try.prog W 0 (fun _ => true) true Try.f5.params.toList args.toList ds p := hA0
  rw [Try.params5] at hA hval
  obtain ⟨v0, vs0, d0, ds0, p0, q0, hargs, rfl, rfl, h0, r0⟩ := trodAll_cons hA
  obtain ⟨rfl, rfl, rfl⟩ := trodAll_nil r0
  obtain rfl : args = #[v0] := by cases args; simp_all
  obtain ⟨rfl, rfl⟩ := trodVars_none hV
  obtain ⟨a0, len0, cap0, rfl⟩ := okWide_slice Try.underlying27 (hval 0 27 v0 rfl rfl)
  have k0 := h0
  have lt0 : ∀ x ∈ p0, x.block < W.heap.size := by obtain ⟨m, hm⟩ := k0; exact DataW.trod_lt m _ _ _ hm
  obtain ⟨z0, w0⟩ : ∃ zs, IsRow .u8 W a0 len0 cap0 zs := by
    obtain ⟨fuel, hf⟩ := h0
    rcases open_ints Try.underlying27 Try.underlying5 (by kernel_rfl) hf with ⟨hcs, _⟩ | ⟨x, l, c, zs, hcs, _, hl, hm, hz, _, hcell, hwz⟩
    · simp [Value.cells] at hcs
      obtain ⟨rfl, rfl, rfl⟩ := hcs
      exact ⟨[], .inl ⟨rfl, rfl, rfl, rfl⟩⟩
    · simp [Value.cells] at hcs
      obtain ⟨rfl, rfl, rfl⟩ := hcs
      exact ⟨zs, .inr ⟨_, rfl, hl, hm, by simpa using hz, hcell, hwz⟩⟩
  clear hA0 hval0
  refine (walk a0 len0 cap0 z0 W w0).mono fun e W' ⟨he, bel⟩ => ?_
  subst he
  exact ⟨_, rfl, _, _, _, [], _, [], hW', trodAll_mk1 (shut_bool Try.underlying4 _), (trodAll_cons_mk (Below.trod laidOut (by kernel_rfl) (of_decide_eq_true (by kernel_rfl)) k0 bel lt0) trodAll_mk0), rfl, bel.frame _, fun h => by cases h⟩

theorem over : Rows.blockReadsRow.holds Try.pinned (OpenSpec.ofChange Rows.blockReadsSpec) :=
  OpenClaim.holds_of_wide 5 Try.f5 rfl rfl rfl rfl rfl rfl rfl ⟨rfl, rfl, rfl, rfl, rfl⟩ rfl rfl rfl rfl rfl (by kernel_rfl) Try.func5 (by kernel_rfl)
    (of_decide_eq_true (by kernel_rfl)) (by unfold Func.isWrapper; first | (rw [if_pos (by decide +kernel)]; kernel_rfl) | (rw [if_neg (by decide +kernel)]; exact ⟨rfl, rfl⟩))
    (fun os started H enc _ => lifted os started H enc)

theorem proved : Rows.BlockReadsSaid := over
#print axioms proved
end Go.Proofs.Ytokobelmoanneaa.blockReads
