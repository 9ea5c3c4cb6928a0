/-
  Proved here: the statement BlockTurned, in full: a block's lines of which one byte is another one are not read as a block.
  Conditions: none.
-/
import Derived.Test.YtokobelmoanneaaRows
import Derived.Test.YtokobelmoanneaaBlockN
import Derived.IntWalk
import Derived.WalkSmall
import Derived.Deep.QuietTactic
import Derived.BigQuiet
import Derived.WalkKit
import Derived.ProofKit
import Derived.OpenShut
import Derived.ShutString
import Derived.ChangeOld
import Derived.Below
namespace Go.Proofs.Ytokobelmoanneaa.blockTurned
open Go.ChangeShapes Go.WideShapes Go.ChangeAt Go.RowKit
open Go.ChangeMaps (open_string shut_string)
set_option linter.unusedVariables false

theorem own : ownKnob Try.prog.godebug = none := by kernel_rfl
theorem laidOut : laidOutB Try.prog = true := by kernel_rfl

/-- A byte turned. -/
theorem turned_byte (a : UInt8) (x : Nat) (h0 : 0 < x) (hx : x < 256) : a.toNat ^^^ x < 256 ∧ a ≠ UInt8.ofNat (a.toNat ^^^ x) := by
  have ha := UInt8.toNat_lt a
  have hl : a.toNat ^^^ x < 256 := Nat.xor_lt_two_pow (n := 8) (by omega) (by omega)
  refine ⟨hl, fun e => ?_⟩
  have e2 := congrArg UInt8.toNat e
  rw [UInt8.toNat_ofNat', Nat.mod_eq_of_lt (by omega)] at e2
  have e3 : a.toNat ^^^ (a.toNat ^^^ x) = a.toNat ^^^ a.toNat := by rw [← e2]
  rw [xor_back, Nat.xor_self] at e3
  omega

set_option maxHeartbeats 800000 in
set_option maxRecDepth 100000 in
theorem walk_long (b : BV) (a1 a2 : Int) (w : World) (h : longB b = true) :
    Calls Try.prog 7 #[b.agg, .int .i64 a1, .int .i64 a2] w fun e w' => e = .returned (.bool true) ∧ Below w.heap.size w w' := by
  have HL := Lib.hid (fun W => long_any b W)
  rw [h] at HL
  have HAW := Lib.hid awake_any
  have HN := Lib.hid (box_new w b)
  rw [BV.agg] at HL ⊢
  clear h
  obtain ⟨cl, kd, id, ver, ep, key, val⟩ := b
  simp only at *
  obtain ⟨c0, c1, c2, c3, c4, c5, c6⟩ := HN.out.cells
  go_enter Try.func7, Try.ntmps7
  go_wp2_with fail
  refine (HL.out _).mono ?_
  rintro e w1 ⟨rfl, hb⟩
  have HB1 := Lib.hid (below_box hb)
  clear hb
  go_wp2_with fail
  refine (HAW.out _).mono ?_
  rintro e w2 ⟨rfl, hb⟩
  have HB2 := Lib.hid (HB1.out.trans (hb.mono HB1.out.size))
  clear hb
  go_wp2
  go_ret
  exact ⟨rfl, HB2.out⟩
set_option maxHeartbeats 800000 in
set_option maxRecDepth 100000 in
theorem walk_bad (b : BV) (a1 a2 : Int) (w : World) (h : longB b = false) (hm : mayB b = false) :
    Calls Try.prog 7 #[b.agg, .int .i64 a1, .int .i64 a2] w fun e w' => e = .returned (.bool true) ∧ Below w.heap.size w w' := by
  have HL := Lib.hid (fun W => long_any b W)
  rw [h] at HL
  have hsz := longB_no h
  have HE := Lib.hid (fun W => enc_no b hsz.1 hsz.2 hm W)
  have HAW := Lib.hid awake_any
  have HN := Lib.hid (box_new w b)
  obtain ⟨p, hp⟩ : ∃ p, w.heap.size = p := ⟨_, rfl⟩
  have HP := Lib.hid hp
  rw [BV.agg] at HL HE ⊢
  obtain ⟨w0, hw0⟩ : ∃ w0, w.alloc (.cells #[.int .i64 b.cl, .int .i64 b.kd, .int .u64 (b.id : Nat), .int .u64 (b.ver : Nat), .int .u64 (b.ep : Nat), .string b.key, .string b.val] 24) = w0 := ⟨_, rfl⟩
  rw [hw0, hp] at HN
  have HB0 : Hid (Below p w w0) := (by rw [← hp, ← hw0]; exact (Below.refl _ _).alloc (Nat.le_refl _) _)
  clear h hm hsz
  obtain ⟨cl, kd, id, ver, ep, key, val⟩ := b
  simp only at *
  obtain ⟨c0, c1, c2, c3, c4, c5, c6⟩ := HN.out.cells
  go_enter Try.func7, Try.ntmps7
  go_wp2_with fail
  refine (HL.out _).mono ?_
  rintro e w1 ⟨rfl, hb⟩
  have HN1 := Lib.hid (HN.out.below hb HN.out.lt)
  have HB1 : Hid (Below p w w1) := HB0.out.trans (hb.mono (Nat.le_of_lt HN.out.lt))
  clear hb c0 c1 c2 c3 c4 c5 c6
  obtain ⟨c0, c1, c2, c3, c4, c5, c6⟩ := HN1.out.cells
  go_wp2_with fail
  refine (HE.out _).mono ?_
  rintro e w2 ⟨rfl, hb⟩
  have HB2 : Hid (Below p w w2) := HB1.out.trans (hb.mono (Nat.le_of_lt HN1.out.lt))
  clear hb c0 c1 c2 c3 c4 c5 c6
  go_wp2_with fail
  refine (HAW.out _).mono ?_
  rintro e w4 ⟨rfl, hb⟩
  have HB4 : Hid (Below p w w4) := HB2.out.trans (hb.mono (HP.out ▸ HB2.out.size))
  clear hb
  go_wp2
  go_ret
  exact ⟨rfl, by rw [HP.out]; exact HB4.out⟩
set_option maxHeartbeats 4000000 in
set_option maxRecDepth 100000 in
theorem walk_good (b : BV) (a1 a2 : Int) (w : World) (ho : b.ok) (h : longB b = false) (hm : mayB b = true) :
    Calls Try.prog 7 #[b.agg, .int .i64 a1, .int .i64 a2] w fun e w' => e = .returned (.bool true) ∧ Below w.heap.size w w' := by
  have HL := Lib.hid (fun W => long_any b W)
  rw [h] at HL
  have HE := Lib.hid (fun W => enc_ok b ho hm W)
  have hcl := mayB_cl hm
  have hlen := linesL_len hm
  have HAW := Lib.hid awake_any
  have HZ := Lib.hid zero_block
  have HN := Lib.hid (box_new w b)
  have hsp := spanN_some (c := b.cl) (by omega)
  obtain ⟨p, hp⟩ : ∃ p, w.heap.size = p := ⟨_, rfl⟩
  have HP := Lib.hid hp
  rw [BV.agg] at HL HE ⊢
  obtain ⟨w0, hw0⟩ : ∃ w0, w.alloc (.cells #[.int .i64 b.cl, .int .i64 b.kd, .int .u64 (b.id : Nat), .int .u64 (b.ver : Nat), .int .u64 (b.ep : Nat), .string b.key, .string b.val] 24) = w0 := ⟨_, rfl⟩
  rw [hw0, hp] at HN
  have HB0 : Hid (Below p w w0) := (by rw [← hp, ← hw0]; exact (Below.refl _ _).alloc (Nat.le_refl _) _)
  unfold LinesTo at HE
  obtain ⟨n, hn⟩ : ∃ n, (linesL b).length = n := ⟨_, rfl⟩
  rw [hn] at HE
  have HLN := Lib.hid hn
  have hnn : n = 64 * spanN b.cl := hn.symm.trans hlen
  have hn64 : 64 ≤ n := by omega
  have hn512 : n ≤ 512 := by omega
  have hkl := low_lt a1 (n := n) (by omega)
  have hxl := low_lt a2 (n := 255) (by omega)
  have HLW1 := Lib.hid (fun W => low_any a1 n W (by omega) (by omega))
  have HLW2 : Hid (∀ W, Calls Try.prog 23 #[.int .i64 a2, .int .i64 255] W fun e w' => e = .returned (.int .i64 (low a2 255 : Nat)) ∧ w' = W) := fun W => (low_any a2 255 W (by omega) (by omega)).mono fun _ _ ⟨h1, h2⟩ => ⟨h1, h2.symm⟩
  generalize low a1 n = k at *
  generalize low a2 255 = x at *
  obtain ⟨hr1, hne1⟩ := turned_byte ((linesL b).getD k 0) (1 + x) (by omega) (by omega)
  have HT : Hid (¬ isLines ((linesL b).set k (UInt8.ofNat (((linesL b).getD k 0).toNat ^^^ (1 + x))))) := linesL_turned hm k _ (fun e => hne1 (by
    have e2 := congrArg (fun l => l.getD k 0) e
    simp only [List.getD, List.getElem?_set_self (show k < (linesL b).length by omega), Option.getD_some] at e2
    exact e2.symm))
  generalize linesL b = L at *
  have hx1 := u8_xor_nat (L.getD k 0).toNat (1 + x) (UInt8.toNat_lt _) (by omega)
  have hc1 : ((1 + x : Nat) : Int) = 1 + (x : Int) := by omega
  rw [hc1] at hx1
  have hwr : IntKind.u8.wrap (1 + (x : Int)) = 1 + (x : Int) := by show (1 + (x : Int)) % 256 = _; omega
  have hwi : IntKind.i64.wrap (1 + (x : Int)) = 1 + (x : Int) := IntWalk.i64_in _ (by omega)
  have HST : Hid (∀ (W : World) base g cap, W.ownsRow base 5 1 (.slice (some ⟨g, 0, none⟩) n cap) n (enc L) → (W.setCell ⟨g, k, none⟩ (.int .u8 (((L.getD k 0).toNat ^^^ (1 + x) : Nat) : Int))).ownsRow base 5 1 (.slice (some ⟨g, 0, none⟩) n cap) n (enc (L.set k (UInt8.ofNat ((L.getD k 0).toNat ^^^ (1 + x)))))) := fun W base g cap h => by
    have h1 := (h.stored k (.int .u8 (((L.getD k 0).toNat ^^^ (1 + x) : Nat) : Int))).1
    rw [enc_set _ _ _ hr1] at h1
    exact h1
  have HCE : Hid (∀ (W : World) base g cap, W.ownsRow base 5 1 (.slice (some ⟨g, 0, none⟩) n cap) n (enc L) → W.cell? ⟨g, k, none⟩ = some (.int .u8 ((L.getD k 0).toNat : Nat)) ∧ W.frozen? ⟨g, k, none⟩ = false) := fun W base g cap h => by
    have h1 := h.cellAt k (by omega)
    rw [enc_at _ _ (by omega)] at h1
    exact ⟨h1, h.frozenAt k⟩
  have HL2 : Hid ((L.set k (UInt8.ofNat ((L.getD k 0).toNat ^^^ (1 + x)))).length = n) := (by show _ = _; rw [List.length_set]; exact hn)
  have hyb := UInt8.toNat_lt (L.getD k 0)
  generalize L.set k (UInt8.ofNat ((L.getD k 0).toNat ^^^ (1 + x))) = L' at *
  generalize (L.getD k 0).toNat ^^^ (1 + x) = r at *
  generalize (L.getD k 0).toNat = y at *
  clear hnn hn hlen hsp hc1 h hm ho hcl hne1
  obtain ⟨cl, kd, id, ver, ep, key, val⟩ := b
  simp only at *
  obtain ⟨c0, c1, c2, c3, c4, c5, c6⟩ := HN.out.cells
  go_enter Try.func7, Try.ntmps7
  go_wp2_with fail
  refine (HL.out _).mono ?_
  rintro e w1 ⟨rfl, hb⟩
  have HN1 := Lib.hid (HN.out.below hb HN.out.lt)
  have HB1 : Hid (Below p w w1) := HB0.out.trans (hb.mono (Nat.le_of_lt HN.out.lt))
  clear hb c0 c1 c2 c3 c4 c5 c6
  obtain ⟨c0, c1, c2, c3, c4, c5, c6⟩ := HN1.out.cells
  go_wp2_with fail
  refine (HE.out _).mono ?_
  rintro e w2 ⟨V, rfl, hown, hb⟩
  obtain ⟨g, cap, rfl, hcap, hgp, hgl, hrow⟩ := own_form hown (by omega) (by omega)
  have HOW := Lib.hid hown
  have HRW := Lib.hid hrow
  have HN2 := Lib.hid (HN1.out.below hb HN1.out.lt)
  have HB2 : Hid (Below p w w2) := HB1.out.trans (hb.mono (Nat.le_of_lt HN1.out.lt))
  have HPG : Hid (p < g) := Nat.lt_of_lt_of_le HN1.out.lt hgp
  clear hb hown hrow hgp hgl c0 c1 c2 c3 c4 c5 c6
  go_wp2_with fail
  refine (HLW1.out _).mono ?_
  rintro e w' ⟨rfl, rfl⟩
  obtain ⟨hce, hfz⟩ := HCE.out w2 _ g cap HOW.out
  have hkn : (k : Int) < (n : Int) := by omega
  go_wp2_with fail
  refine wp_region_still_tail 12 (by kernel_rfl) (by kernel_rfl) ?_
  change wpStill _ _ w2.drew _ _ _
  simp only [List.take_succ_cons, List.take_zero, List.drop_succ_cons, List.drop_zero]
  iterate 7 still_step
  still_call (HLW2.out _)
  iterate 4 still_step
  refine wpStill_nil ?_
  have hce' : w2.drew.cell? ⟨g, k, none⟩ = some (.int .u8 (y : Nat)) := hce
  have hfz' : w2.drew.frozen? ⟨g, k, none⟩ = false := hfz
  have HOT := Lib.hid (HST.out w2.drew _ g cap HOW.out)
  have HB3 : Hid (Below p w (w2.drew.setCell ⟨g, k, none⟩ (.int .u8 (r : Nat)))) := HB2.out.drew.setCell (Nat.le_of_lt HPG.out) _
  obtain ⟨W3, hW3⟩ : ∃ W, w2.drew.setCell ⟨g, k, none⟩ (.int .u8 (r : Nat)) = W := ⟨_, rfl⟩
  rw [hW3] at HOT HB3
  obtain ⟨A4, cap4, he4, hrow4⟩ := row_of_own HOT.out (by rw [HL2.out]; omega)
  injection he4 with he5 he6 he7
  subst he5
  have HR4 := Lib.hid hrow4
  clear he6 he7 hrow4
  go_wp2_with fail
  refine (dec_no _ g 0 n cap L' HT.out HL2.out hcap HR4.out).mono ?_
  rintro e w6 ⟨rfl, hb⟩
  have HB6 : Hid (Below p w w6) := HB3.out.trans (hb.mono (HP.out ▸ HB3.out.size))
  obtain ⟨q, hq⟩ : ∃ q, w6.heap.size = q := ⟨_, rfl⟩
  have HQ := Lib.hid hq
  clear hb hq hW3 hce' hfz'
  go_wp2_with (first
    | ((with_reducible show wpList _ _ _ (⟨some 10, .alloc _, _, _, _, _⟩ :: _) _ _); refine wpList_alloc_var (o := ⟨some 10, _, _, _, _, _⟩) rfl 24 rfl q HQ.out _ HZ.out ?_; intro w7 HA7 HB7)
    | ((with_reducible show wpList _ _ _ (⟨none, .store _ (.tmp 10) _, _, _, _, _⟩ :: _) _ _); refine wpList_store_whole (o := ⟨none, .store 24 (.tmp 10) (.tmp 45), _, _, _, _⟩) rfl _ _ _ rfl rfl q zeroBV.cells.toArray rfl rfl 24 _ HA7.out size_block rfl (by decide +kernel) ?_; intro w8 HA8 HB8; have HB8' : Hid (Below p w w8) := HB6.out.trans ((HB7.out.trans HB8.out).mono (HQ.out ▸ HP.out ▸ HB6.out.size)))
    | (go_at_call 14; refine (HAW.out _).mono ?_; rintro e w9 ⟨rfl, hb⟩; have HB9 : Hid (Below p w w9) := HB8'.out.trans (hb.mono (HP.out ▸ HB8'.out.size)); clear hb))
  go_ret
  exact ⟨rfl, by rw [HP.out]; exact HB9.out⟩
theorem walk (b : BV) (a1 a2 : Int) (w : World) (ho : b.ok) (_ : (Lit.int .i64 a1).wf = true) (_ : (Lit.int .i64 a2).wf = true) :
    Calls Try.prog 7 #[b.agg, .int .i64 a1, .int .i64 a2] w fun e w' => e = .returned (.bool true) ∧ Below w.heap.size w w' := by
  cases h : longB b with
  | true => exact walk_long b a1 a2 w h
  | false =>
    cases hm : mayB b with
    | false => exact walk_bad b a1 a2 w h hm
    | true => exact walk_good b a1 a2 w ho h hm

set_option maxRecDepth 100000 in
theorem lifted (os : Os) (started : os.Started) (H : Type) (enc : TypeId × Value → H) :
    ReturnsInHanded {} Try.checked os 7 .any (Rows.blockTurnedSpec.pre6 enc Try.prog Try.f7 Rows.blockTurnedRow.domain false) (Rows.blockTurnedSpec.post enc Try.prog Try.f7 false true false false) := by
  refine returnsInHanded_of_change (C := Try.checked) own started (by kernel_rfl) Try.func7
    (ChangeSpec.witness6 (enc := enc) (C := Try.checked) false ⟨#[], #[.agg #[.int .i64 0, .int .i64 0, .int .u64 0, .int .u64 0, .int .u64 0, .string ⟨#[]⟩, .string ⟨#[]⟩], .int .i64 0, .int .i64 0], []⟩ 8 (by kernel_rfl) (by kernel_rfl) (by kernel_rfl) (by kernel_rfl)) ?_
  intro W base args ds gs before hval0 hW hcnd _
  have hval : ∀ (j : Nat) t v, Try.f7.params[j]? = some t → args[j]? = some v → Value.okWide Try.prog W .any base t v := hval0
  have hW' := hW
  obtain ⟨p, q, hA0, hV, rfl, hfz, hnd⟩ := hW
  have hA : DataW.TrodAll enc Try.prog W 0 (fun _ => true) true Try.f7.params.toList args.toList ds p := hA0
  rw [Try.params7] at hA hval
  obtain ⟨v0, vs0, d0, ds0, p0, q0, hargs, rfl, rfl, h0, r0⟩ := trodAll_cons hA
  obtain ⟨v1, vs1, d1, ds1, p1, q1, rfl, rfl, rfl, h1, r1⟩ := trodAll_cons r0
  obtain ⟨v2, vs2, d2, ds2, p2, q2, rfl, rfl, rfl, h2, r2⟩ := trodAll_cons r1
  obtain ⟨rfl, rfl, rfl⟩ := trodAll_nil r2
  obtain rfl : args = #[v0, v1, v2] := by cases args; simp_all
  obtain ⟨rfl, rfl⟩ := trodVars_none hV
  obtain ⟨z0, rfl, w0⟩ := isBlock_of (hval 0 24 v0 rfl rfl) h0
  have k0 := h0
  have lt0 : ∀ x ∈ p0, x.block < W.heap.size := by obtain ⟨m, hm⟩ := k0; exact DataW.trod_lt m _ _ _ hm
  obtain ⟨a1, rfl, rfl, rfl, w1⟩ := open_int Try.underlying3 (hval 1 3 v1 rfl rfl) h1
  obtain ⟨a2, rfl, rfl, rfl, w2⟩ := open_int Try.underlying3 (hval 2 3 v2 rfl rfl) h2
  clear hA0 hval0
  refine (walk z0 a1 a2 W w0 w1 w2).mono fun e W' ⟨he, bel⟩ => ?_
  subst he
  exact ⟨_, rfl, _, _, _, [], _, [], hW', trodAll_mk1 (shut_bool Try.underlying4 _), (trodAll_cons_mk (Below.trod laidOut (by kernel_rfl) (of_decide_eq_true (by kernel_rfl)) k0 bel lt0) (trodAll_cons_mk (shut_int Try.underlying3 w1) (trodAll_cons_mk (shut_int Try.underlying3 w2) trodAll_mk0))), rfl, bel.frame _, fun h => by cases h⟩

theorem over : Rows.blockTurnedRow.holds Try.pinned (OpenSpec.ofChange Rows.blockTurnedSpec) :=
  OpenClaim.holds_of_wide 7 Try.f7 rfl rfl rfl rfl rfl rfl rfl ⟨rfl, rfl, rfl, rfl, rfl⟩ rfl rfl rfl rfl rfl (by kernel_rfl) Try.func7 (by kernel_rfl)
    (of_decide_eq_true (by kernel_rfl)) (by unfold Func.isWrapper; first | (rw [if_pos (by decide +kernel)]; kernel_rfl) | (rw [if_neg (by decide +kernel)]; exact ⟨rfl, rfl⟩))
    (fun os started H enc _ => lifted os started H enc)

theorem proved : Rows.BlockTurnedSaid := over
#print axioms proved
end Go.Proofs.Ytokobelmoanneaa.blockTurned
