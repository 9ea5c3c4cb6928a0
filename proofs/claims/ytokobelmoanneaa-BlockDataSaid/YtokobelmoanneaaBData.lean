/-
  Proved here: the statement BlockData, in full: of a block's lines the first one alone looks like a head, of its class and kind.
  Conditions: none.
-/
import Derived.Test.YtokobelmoanneaaRows
import Derived.Test.YtokobelmoanneaaBlockN
import Derived.IntWalk
import Derived.WalkSmall
import Derived.Deep.QuietTactic
import Derived.BigQuiet
import Derived.WalkKit
import Derived.ProofKit
import Derived.OpenShut
import Derived.ShutString
import Derived.ChangeOld
import Derived.Below
namespace Go.Proofs.Ytokobelmoanneaa.blockData
open Go.ChangeShapes Go.WideShapes Go.ChangeAt Go.RowKit
open Go.ChangeMaps (open_string shut_string)
set_option linter.unusedVariables false

theorem own : ownKnob Try.prog.godebug = none := by kernel_rfl
theorem laidOut : laidOutB Try.prog = true := by kernel_rfl

set_option maxHeartbeats 800000 in
set_option maxRecDepth 100000 in
theorem walk_long (b : BV) (w : World) (h : longB b = true) :
    Calls Try.prog 8 #[b.agg] w fun e w' => e = .returned (.bool true) ∧ Below w.heap.size w w' := by
  have HL := Lib.hid (fun W => long_any b W)
  rw [h] at HL
  have HAW := Lib.hid awake_any
  have HN := Lib.hid (box_new w b)
  rw [BV.agg] at HL ⊢
  clear h
  obtain ⟨cl, kd, id, ver, ep, key, val⟩ := b
  simp only at *
  obtain ⟨c0, c1, c2, c3, c4, c5, c6⟩ := HN.out.cells
  go_enter Try.func8, Try.ntmps8
  go_wp2_with fail
  refine (HL.out _).mono ?_
  rintro e w1 ⟨rfl, hb⟩
  have HB1 := Lib.hid (below_box hb)
  clear hb
  go_wp2_with fail
  refine (HAW.out _).mono ?_
  rintro e w2 ⟨rfl, hb⟩
  have HB2 := Lib.hid (HB1.out.trans (hb.mono HB1.out.size))
  clear hb
  go_wp2
  go_ret
  exact ⟨rfl, HB2.out⟩
set_option maxHeartbeats 800000 in
set_option maxRecDepth 100000 in
theorem walk_bad (b : BV) (w : World) (h : longB b = false) (hm : mayB b = false) :
    Calls Try.prog 8 #[b.agg] w fun e w' => e = .returned (.bool true) ∧ Below w.heap.size w w' := by
  have HL := Lib.hid (fun W => long_any b W)
  rw [h] at HL
  have hsz := longB_no h
  have HE := Lib.hid (fun W => enc_no b hsz.1 hsz.2 hm W)
  have HAW := Lib.hid awake_any
  have HN := Lib.hid (box_new w b)
  obtain ⟨p, hp⟩ : ∃ p, w.heap.size = p := ⟨_, rfl⟩
  have HP := Lib.hid hp
  rw [BV.agg] at HL HE ⊢
  obtain ⟨w0, hw0⟩ : ∃ w0, w.alloc (.cells #[.int .i64 b.cl, .int .i64 b.kd, .int .u64 (b.id : Nat), .int .u64 (b.ver : Nat), .int .u64 (b.ep : Nat), .string b.key, .string b.val] 24) = w0 := ⟨_, rfl⟩
  rw [hw0, hp] at HN
  have HB0 : Hid (Below p w w0) := (by rw [← hp, ← hw0]; exact (Below.refl _ _).alloc (Nat.le_refl _) _)
  clear h hm hsz
  obtain ⟨cl, kd, id, ver, ep, key, val⟩ := b
  simp only at *
  obtain ⟨c0, c1, c2, c3, c4, c5, c6⟩ := HN.out.cells
  go_enter Try.func8, Try.ntmps8
  go_wp2_with fail
  refine (HL.out _).mono ?_
  rintro e w1 ⟨rfl, hb⟩
  have HN1 := Lib.hid (HN.out.below hb HN.out.lt)
  have HB1 : Hid (Below p w w1) := HB0.out.trans (hb.mono (Nat.le_of_lt HN.out.lt))
  clear hb c0 c1 c2 c3 c4 c5 c6
  obtain ⟨c0, c1, c2, c3, c4, c5, c6⟩ := HN1.out.cells
  go_wp2_with fail
  refine (HE.out _).mono ?_
  rintro e w2 ⟨rfl, hb⟩
  have HB2 : Hid (Below p w w2) := HB1.out.trans (hb.mono (Nat.le_of_lt HN1.out.lt))
  clear hb c0 c1 c2 c3 c4 c5 c6
  go_wp2_with fail
  refine (HAW.out _).mono ?_
  rintro e w4 ⟨rfl, hb⟩
  have HB4 : Hid (Below p w w4) := HB2.out.trans (hb.mono (HP.out ▸ HB2.out.size))
  clear hb
  go_wp2
  go_ret
  exact ⟨rfl, by rw [HP.out]; exact HB4.out⟩
set_option maxHeartbeats 4000000 in
set_option maxRecDepth 100000 in
theorem walk_good (b : BV) (w : World) (ho : b.ok) (h : longB b = false) (hm : mayB b = true) :
    Calls Try.prog 8 #[b.agg] w fun e w' => e = .returned (.bool true) ∧ Below w.heap.size w w' := by
  have HL := Lib.hid (fun W => long_any b W)
  rw [h] at HL
  have HE := Lib.hid (fun W => enc_ok b ho hm W)
  have hcl := mayB_cl hm
  have hlen := linesL_len hm
  have HAW := Lib.hid awake_any
  have HZ := Lib.hid zero_block
  have HN := Lib.hid (box_new w b)
  have hsp := spanN_some (c := b.cl) (by omega)
  obtain ⟨p, hp⟩ : ∃ p, w.heap.size = p := ⟨_, rfl⟩
  have HP := Lib.hid hp
  rw [BV.agg] at HL HE ⊢
  obtain ⟨w0, hw0⟩ : ∃ w0, w.alloc (.cells #[.int .i64 b.cl, .int .i64 b.kd, .int .u64 (b.id : Nat), .int .u64 (b.ver : Nat), .int .u64 (b.ep : Nat), .string b.key, .string b.val] 24) = w0 := ⟨_, rfl⟩
  rw [hw0, hp] at HN
  have HB0 : Hid (Below p w w0) := (by rw [← hp, ← hw0]; exact (Below.refl _ _).alloc (Nat.le_refl _) _)
  unfold LinesTo at HE
  obtain ⟨n, hn⟩ : ∃ n, (linesL b).length = n := ⟨_, rfl⟩
  rw [hn] at HE
  have HLN := Lib.hid hn
  have hnn : n = 64 * spanN b.cl := hn.symm.trans hlen
  have hn64 : 64 ≤ n := by omega
  have hn512 : n ≤ 512 := by omega
  have hsc := hnn
  have HH0 : Hid (headR ((linesL b).take 64) = .tuple #[.int .i64 b.cl, .int .i64 b.kd, .bool true]) := (by
    show _ = _
    have h1 := (lines_readable hm).head
    rw [headR_yes h1, lines_cl hm, lines_kd hm])
  have HHI : Hid (∀ i, 0 < i → i < spanN b.cl → headR (((linesL b).drop (64 * i)).take 64) = .tuple #[.int .i64 0, .int .i64 0, .bool false]) := fun i h0 hi => headR_no (by
    have h1 := lines_tagAt hm i h0 hi
    rw [isHead]
    have e : (((linesL b).drop (64 * i)).take 64).getD 0 0 = 2 := by
      rw [take_getD _ 0 64 (by omega), List.getD, List.getElem?_drop, Nat.add_zero]
      exact h1
    rw [e]
    simp)
  generalize linesL b = L at *
  generalize spanN b.cl = s at *
  have HNN := Lib.hid hnn
  clear hn hlen hsp h hm ho hcl hsc hnn
  obtain ⟨cl, kd, id, ver, ep, key, val⟩ := b
  simp only at *
  obtain ⟨c0, c1, c2, c3, c4, c5, c6⟩ := HN.out.cells
  go_enter Try.func8, Try.ntmps8
  go_wp2_with fail
  refine (HL.out _).mono ?_
  rintro e w1 ⟨rfl, hb⟩
  have HN1 := Lib.hid (HN.out.below hb HN.out.lt)
  have HB1 : Hid (Below p w w1) := HB0.out.trans (hb.mono (Nat.le_of_lt HN.out.lt))
  clear hb c0 c1 c2 c3 c4 c5 c6
  obtain ⟨c0, c1, c2, c3, c4, c5, c6⟩ := HN1.out.cells
  go_wp2_with fail
  refine (HE.out _).mono ?_
  rintro e w2 ⟨V, rfl, hown, hb⟩
  obtain ⟨g, cap, rfl, hcap, hgp, hgl, hrow⟩ := own_form hown (by omega) (by omega)
  have HOW := Lib.hid hown
  have HRW := Lib.hid hrow
  have HN2 := Lib.hid (HN1.out.below hb HN1.out.lt)
  have HB2 : Hid (Below p w w2) := HB1.out.trans (hb.mono (Nat.le_of_lt HN1.out.lt))
  have HPG : Hid (p < g) := Nat.lt_of_lt_of_le HN1.out.lt hgp
  clear hb hown hrow hgp hgl c0 c1 c2 c3 c4 c5 c6
  go_wp2
  go_loopg [5, 6, 7, 8] s (fun gk s5 s6 s7 s8 wx => ∃ i a : Nat, i + gk = s ∧ Hid (a = 64 * i) ∧ s5 = .int .i64 a ∧ Hid (Below w2.heap.size w2 wx))
  case atStart => exact ⟨0, 0, by omega, rfl, rfl, Below.refl _ _⟩
  case round =>
    obtain ⟨i, a, hig, HA, rfl, HX⟩ := hrel
    cases gk with
    | zero =>
      have hai : a = n := by have := HA.out; have := HNN.out; omega
      have hcd : ¬ (a : Int) + 64 ≤ (n : Int) := by omega
      have ha5 : a ≤ 512 := by omega
      have hn0 : decide ((0 : Int) < (n : Int)) = true := by simp; omega
      have hmod : (n : Int) % 64 = 0 := by have := HNN.out; omega
      clear hai
      go_wp2_with (go_at_call 14; refine (HAW.out _).mono ?_; rintro e w9 ⟨rfl, hb⟩; have HB9 : Hid (Below w2.heap.size w2 w9) := HX.out.trans (hb.mono HX.out.size); clear hb)
      go_ret
      exact ⟨rfl, by rw [HP.out]; exact HB2.out.trans (HB9.out.mono (HP.out ▸ HB2.out.size))⟩
    | succ gk =>
      have haN : a + 64 ≤ n := by have := HA.out; have := HNN.out; omega
      have hcd : (a : Int) + 64 ≤ (n : Int) := by omega
      have hca : ¬ cap = a := by omega
      have hac : a + 64 ≤ cap := by omega
      have hrow : Row wr (some ⟨g, 0 + a, none⟩) ((L.drop a).take 64) := (HRW.out.below HX.out).part a 64 (by rw [HLN.out]; omega)
      rw [Nat.zero_add] at hrow
      have HHC := Lib.hid (head_any wr (some ⟨g, a, none⟩) 64 (cap - a) ((L.drop a).take 64) (by rw [List.length_take, List.length_drop, HLN.out]; omega) hrow)
      clear hrow
      rcases Nat.eq_zero_or_pos i with hi0 | hi0
      · obtain rfl : a = 0 := by have := HA.out; omega
        rw [List.drop_zero, HH0.out] at HHC
        simp only [Nat.sub_zero] at HHC
        go_wp2_with fail
        refine HHC.out.mono ?_
        rintro e w5 ⟨rfl, hb⟩
        have HX5 : Hid (Below w2.heap.size w2 w5) := HX.out.trans (hb.mono HX.out.size)
        obtain ⟨c0, c1, c2, c3, c4, c5, c6⟩ := (HN2.out.below HX5.out HN2.out.lt).cells
        clear hb
        go_wp2
        go_roundg gk
        case measure => omega
        case rel => exact ⟨i + 1, 64, by omega, (by show 64 = 64 * (i + 1); omega), by go_num, HX5⟩
      · have e1 := HHI.out i hi0 (by omega)
        rw [← HA.out] at e1
        rw [e1] at HHC
        have ha0 : ((a : Int) == 0) = false := by have := HA.out; simp; omega
        go_wp2_with fail
        refine HHC.out.mono ?_
        rintro e w5 ⟨rfl, hb⟩
        have HX5 : Hid (Below w2.heap.size w2 w5) := HX.out.trans (hb.mono HX.out.size)
        clear hb e1
        go_wp2
        go_roundg gk
        case measure => omega
        case rel => exact ⟨i + 1, a + 64, by omega, (by have := HA.out; show a + 64 = 64 * (i + 1); omega), by go_num, HX5⟩
theorem walk (b : BV) (w : World) (ho : b.ok) :
    Calls Try.prog 8 #[b.agg] w fun e w' => e = .returned (.bool true) ∧ Below w.heap.size w w' := by
  cases h : longB b with
  | true => exact walk_long b w h
  | false =>
    cases hm : mayB b with
    | false => exact walk_bad b w h hm
    | true => exact walk_good b w ho h hm

set_option maxRecDepth 100000 in
theorem lifted (os : Os) (started : os.Started) (H : Type) (enc : TypeId × Value → H) :
    ReturnsInHanded {} Try.checked os 8 .any (Rows.blockDataSpec.pre6 enc Try.prog Try.f8 Rows.blockDataRow.domain false) (Rows.blockDataSpec.post enc Try.prog Try.f8 false true false false) := by
  refine returnsInHanded_of_change (C := Try.checked) own started (by kernel_rfl) Try.func8
    (ChangeSpec.witness6 (enc := enc) (C := Try.checked) false ⟨#[], #[.agg #[.int .i64 0, .int .i64 0, .int .u64 0, .int .u64 0, .int .u64 0, .string ⟨#[]⟩, .string ⟨#[]⟩]], []⟩ 8 (by kernel_rfl) (by kernel_rfl) (by kernel_rfl) (by kernel_rfl)) ?_
  intro W base args ds gs before hval0 hW hcnd _
  have hval : ∀ (j : Nat) t v, Try.f8.params[j]? = some t → args[j]? = some v → Value.okWide Try.prog W .any base t v := hval0
  have hW' := hW
  obtain ⟨p, q, hA0, hV, rfl, hfz, hnd⟩ := hW
  have hA : DataW.TrodAll enc Try.prog W 0 (fun _ => true) true Try.f8.params.toList args.toList ds p := hA0
  rw [Try.params8] at hA hval
  obtain ⟨v0, vs0, d0, ds0, p0, q0, hargs, rfl, rfl, h0, r0⟩ := trodAll_cons hA
  obtain ⟨rfl, rfl, rfl⟩ := trodAll_nil r0
  obtain rfl : args = #[v0] := by cases args; simp_all
  obtain ⟨rfl, rfl⟩ := trodVars_none hV
  obtain ⟨z0, rfl, w0⟩ := isBlock_of (hval 0 24 v0 rfl rfl) h0
  have k0 := h0
  have lt0 : ∀ x ∈ p0, x.block < W.heap.size := by obtain ⟨m, hm⟩ := k0; exact DataW.trod_lt m _ _ _ hm
  clear hA0 hval0
  refine (walk z0 W w0).mono fun e W' ⟨he, bel⟩ => ?_
  subst he
  exact ⟨_, rfl, _, _, _, [], _, [], hW', trodAll_mk1 (shut_bool Try.underlying4 _), (trodAll_cons_mk (Below.trod laidOut (by kernel_rfl) (of_decide_eq_true (by kernel_rfl)) k0 bel lt0) trodAll_mk0), rfl, bel.frame _, fun h => by cases h⟩

theorem over : Rows.blockDataRow.holds Try.pinned (OpenSpec.ofChange Rows.blockDataSpec) :=
  OpenClaim.holds_of_wide 8 Try.f8 rfl rfl rfl rfl rfl rfl rfl ⟨rfl, rfl, rfl, rfl, rfl⟩ rfl rfl rfl rfl rfl (by kernel_rfl) Try.func8 (by kernel_rfl)
    (of_decide_eq_true (by kernel_rfl)) (by unfold Func.isWrapper; first | (rw [if_pos (by decide +kernel)]; kernel_rfl) | (rw [if_neg (by decide +kernel)]; exact ⟨rfl, rfl⟩))
    (fun os started H enc _ => lifted os started H enc)

theorem proved : Rows.BlockDataSaid := over
#print axioms proved
end Go.Proofs.Ytokobelmoanneaa.blockData
