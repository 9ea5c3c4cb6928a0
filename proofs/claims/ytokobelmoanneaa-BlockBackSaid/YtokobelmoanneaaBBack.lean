/-
  Proved here: the statement BlockBack, in full: what block.Encode lays block.Decode reads again, whole; one byte more or less is no block.
  Conditions: none.
-/
import Derived.Test.YtokobelmoanneaaRows
import Derived.Test.YtokobelmoanneaaBlockN
import Derived.IntWalk
import Derived.WalkSmall
import Derived.Deep.QuietTactic
import Derived.BigQuiet
import Derived.WalkKit
import Derived.ProofKit
import Derived.OpenShut
import Derived.ShutString
import Derived.ChangeOld
import Derived.Below
namespace Go.Proofs.Ytokobelmoanneaa.blockBack
open Go.ChangeShapes Go.WideShapes Go.ChangeAt Go.RowKit
open Go.ChangeMaps (open_string shut_string)
set_option linter.unusedVariables false

theorem own : ownKnob Try.prog.godebug = none := by kernel_rfl
theorem laidOut : laidOutB Try.prog = true := by kernel_rfl

set_option maxHeartbeats 800000 in
set_option maxRecDepth 100000 in
theorem walk_long (b : BV) (w : World) (h : longB b = true) :
    Calls Try.prog 6 #[b.agg] w fun e w' => e = .returned (.bool true) ∧ Below w.heap.size w w' := by
  have HL := Lib.hid (fun W => long_any b W)
  rw [h] at HL
  have HAW := Lib.hid awake_any
  have HN := Lib.hid (box_new w b)
  rw [BV.agg] at HL ⊢
  clear h
  obtain ⟨cl, kd, id, ver, ep, key, val⟩ := b
  simp only at *
  obtain ⟨c0, c1, c2, c3, c4, c5, c6⟩ := HN.out.cells
  go_enter Try.func6, Try.ntmps6
  go_wp2_with fail
  refine (HL.out _).mono ?_
  rintro e w1 ⟨rfl, hb⟩
  have HB1 := Lib.hid (below_box hb)
  clear hb
  go_wp2_with fail
  refine (HAW.out _).mono ?_
  rintro e w2 ⟨rfl, hb⟩
  have HB2 := Lib.hid (HB1.out.trans (hb.mono HB1.out.size))
  clear hb
  go_wp2
  go_ret
  exact ⟨rfl, HB2.out⟩
set_option maxHeartbeats 800000 in
set_option maxRecDepth 100000 in
theorem walk_bad (b : BV) (w : World) (h : longB b = false) (hm : mayB b = false) :
    Calls Try.prog 6 #[b.agg] w fun e w' => e = .returned (.bool true) ∧ Below w.heap.size w w' := by
  have HL := Lib.hid (fun W => long_any b W)
  rw [h] at HL
  have hsz := longB_no h
  have HE := Lib.hid (fun W => enc_no b hsz.1 hsz.2 hm W)
  have HM := Lib.hid (fun W => may_any b hsz.1 hsz.2 W)
  rw [hm] at HM
  have HAW := Lib.hid awake_any
  have HN := Lib.hid (box_new w b)
  obtain ⟨p, hp⟩ : ∃ p, w.heap.size = p := ⟨_, rfl⟩
  have HP := Lib.hid hp
  rw [BV.agg] at HL HE HM ⊢
  obtain ⟨w0, hw0⟩ : ∃ w0, w.alloc (.cells #[.int .i64 b.cl, .int .i64 b.kd, .int .u64 (b.id : Nat), .int .u64 (b.ver : Nat), .int .u64 (b.ep : Nat), .string b.key, .string b.val] 24) = w0 := ⟨_, rfl⟩
  rw [hw0, hp] at HN
  have HB0 : Hid (Below p w w0) := (by rw [← hp, ← hw0]; exact (Below.refl _ _).alloc (Nat.le_refl _) _)
  clear h hm hsz
  obtain ⟨cl, kd, id, ver, ep, key, val⟩ := b
  simp only at *
  obtain ⟨c0, c1, c2, c3, c4, c5, c6⟩ := HN.out.cells
  go_enter Try.func6, Try.ntmps6
  go_wp2_with fail
  refine (HL.out _).mono ?_
  rintro e w1 ⟨rfl, hb⟩
  have HN1 := Lib.hid (HN.out.below hb HN.out.lt)
  have HB1 : Hid (Below p w w1) := HB0.out.trans (hb.mono (Nat.le_of_lt HN.out.lt))
  clear hb c0 c1 c2 c3 c4 c5 c6
  obtain ⟨c0, c1, c2, c3, c4, c5, c6⟩ := HN1.out.cells
  go_wp2_with fail
  refine (HE.out _).mono ?_
  rintro e w2 ⟨rfl, hb⟩
  have HN2 := Lib.hid (HN1.out.below hb HN1.out.lt)
  have HB2 : Hid (Below p w w2) := HB1.out.trans (hb.mono (Nat.le_of_lt HN1.out.lt))
  clear hb c0 c1 c2 c3 c4 c5 c6
  obtain ⟨c0, c1, c2, c3, c4, c5, c6⟩ := HN2.out.cells
  go_wp2_with fail
  refine (HM.out _).mono ?_
  rintro e w3 ⟨rfl, hb⟩
  have HB3 : Hid (Below p w w3) := HB2.out.trans (hb.mono (Nat.le_of_lt HN2.out.lt))
  clear hb c0 c1 c2 c3 c4 c5 c6
  go_wp2_with fail
  refine (HAW.out _).mono ?_
  rintro e w4 ⟨rfl, hb⟩
  have HB4 : Hid (Below p w w4) := HB3.out.trans (hb.mono (HP.out ▸ HB3.out.size))
  clear hb
  go_wp2
  go_ret
  exact ⟨rfl, by rw [HP.out]; exact HB4.out⟩
theorem not_lines_mod {l : List UInt8} (h : l.length % 64 ≠ 0) : ¬ isLines l := fun hl => by
  obtain ⟨n, hn, _⟩ := lines_len64 hl
  omega
theorem app_more {w : World} {g n cap : Nat} {l : List UInt8} (hl : l.length = n) (hn : n ≤ 1000) (hr : Row w (some ⟨g, 0, none⟩) l) :
    ∃ V1 w1 V2 w2, (Builtin.append_ #[27, 27] 27 #[.slice none 0 0, .slice (some ⟨g, 0, none⟩) n cap]).run Try.prog w = .ok V1 w1 ∧
      (Builtin.append_ #[27, 27] 27 #[V1, .slice (some ⟨w1.heap.size, 0, none⟩) 1 1]).run Try.prog (w1.alloc (.cells #[.int .u8 0] 5)) = .ok V2 w2 ∧ w2.ownsRow w.heap.size 5 1 V2 (n + 1) (enc (l ++ [0])) ∧ Below w.heap.size w w2 := by
  obtain ⟨V1, w1, h1, h2, h3⟩ := run_app_below w w.heap.size 0 _ [] (World.ownsRow_nil _ _ _ _) (some ⟨g, 0, none⟩) n cap l hl hr (by intro h; cases h) (by omega) (Nat.le_refl _)
  rw [List.nil_append, Nat.zero_add, ← hl] at h2
  obtain ⟨V2, w2, h4, h5, h6⟩ := run_app_one w1 w.heap.size V1 l 0 h2 (by omega) h3.size
  rw [hl] at h5
  exact ⟨V1, w1, V2, w2, h1, h4, h5, h3.trans h6⟩
set_option maxHeartbeats 8000000 in
set_option maxRecDepth 100000 in
theorem walk_good (b : BV) (w : World) (ho : b.ok) (h : longB b = false) (hm : mayB b = true) :
    Calls Try.prog 6 #[b.agg] w fun e w' => e = .returned (.bool true) ∧ Below w.heap.size w w' := by
  have HL := Lib.hid (fun W => long_any b W)
  rw [h] at HL
  have HE := Lib.hid (fun W => enc_ok b ho hm W)
  have HD := Lib.hid (fun W g n c hn (hc : n ≤ c) (hr : Row W (some ⟨g, 0, none⟩) (linesL b)) => dec_yes W g 0 n c b ho hm hn hc hr)
  have hcl := mayB_cl hm
  have hlen := linesL_len hm
  have HAW := Lib.hid awake_any
  have HZ := Lib.hid zero_block
  have HN := Lib.hid (box_new w b)
  have HAC := Lib.hid (all_cells b)
  have HBX : Hid (∀ W g, W.heap[g]? = some (.cells #[.int .i64 b.cl, .int .i64 b.kd, .int .u64 (b.id : Nat), .int .u64 (b.ver : Nat), .int .u64 (b.ep : Nat), .string b.key, .string b.val] 24 (0, 0)) → Box W g b) := fun _ _ h => h
  have hsp := spanN_some (c := b.cl) (by omega)
  obtain ⟨p, hp⟩ : ∃ p, w.heap.size = p := ⟨_, rfl⟩
  have HP := Lib.hid hp
  rw [BV.agg] at HL HE HD ⊢
  obtain ⟨w0, hw0⟩ : ∃ w0, w.alloc (.cells #[.int .i64 b.cl, .int .i64 b.kd, .int .u64 (b.id : Nat), .int .u64 (b.ver : Nat), .int .u64 (b.ep : Nat), .string b.key, .string b.val] 24) = w0 := ⟨_, rfl⟩
  rw [hw0, hp] at HN
  have HB0 : Hid (Below p w w0) := (by rw [← hp, ← hw0]; exact (Below.refl _ _).alloc (Nat.le_refl _) _)
  unfold LinesTo at HE
  obtain ⟨n, hn⟩ : ∃ n, (linesL b).length = n := ⟨_, rfl⟩
  rw [hn] at HE
  have HLN := Lib.hid hn
  have hnn : n = 64 * spanN b.cl := hn.symm.trans hlen
  have hn64 : 64 ≤ n := by omega
  have hn512 : n ≤ 512 := by omega
  have hmod : n % 64 = 0 := by omega
  have HMOD := Lib.hid hmod
  have hsh : (b.cl = 0 ∧ n = 64) ∨ (b.cl = 1 ∧ n = 128) ∨ (b.cl = 2 ∧ n = 256) ∨ (b.cl = 3 ∧ n = 512) := by
    have := hnn
    unfold spanN at this
    (repeat' split at this) <;> omega
  clear hnn hn hlen hsp hmod
  generalize linesL b = L at *
  obtain ⟨cl, kd, id, ver, ep, key, val⟩ := b
  simp only at *
  obtain ⟨hcl1, hcl2⟩ := hcl
  clear h hm ho
  rcases hsh with ⟨rfl, rfl⟩ | ⟨rfl, rfl⟩ | ⟨rfl, rfl⟩ | ⟨rfl, rfl⟩
  all_goals
    clear hn64 hn512 hcl1 hcl2
    obtain ⟨c0, c1, c2, c3, c4, c5, c6⟩ := HN.out.cells
    go_enter Try.func6, Try.ntmps6
    go_wp2_with fail
    refine (HL.out _).mono ?_
    rintro e w1 ⟨rfl, hb⟩
    have HN1 := Lib.hid (HN.out.below hb HN.out.lt)
    have HB1 : Hid (Below p w w1) := HB0.out.trans (hb.mono (Nat.le_of_lt HN.out.lt))
    clear hb c0 c1 c2 c3 c4 c5 c6
    obtain ⟨c0, c1, c2, c3, c4, c5, c6⟩ := HN1.out.cells
    go_wp2_with fail
    refine (HE.out _).mono ?_
    rintro e w2 ⟨V, rfl, hown, hb⟩
    obtain ⟨g, cap, rfl, hcap, hgp, hgl, hrow⟩ := own_form hown (by omega) (by omega)
    have HRW := Lib.hid hrow
    have HN2 := Lib.hid (HN1.out.below hb HN1.out.lt)
    have HB2 : Hid (Below p w w2) := HB1.out.trans (hb.mono (Nat.le_of_lt HN1.out.lt))
    clear hb hown hrow c0 c1 c2 c3 c4 c5 c6
    obtain ⟨c0, c1, c2, c3, c4, c5, c6⟩ := HN2.out.cells
    go_wp2_with fail
    refine (HD.out _ g _ cap HLN.out hcap HRW.out).mono ?_
    rintro e w3 ⟨rfl, hb⟩
    have HRW3 := Lib.hid (HRW.out.below hb)
    have HN3 := Lib.hid (HN2.out.below hb HN2.out.lt)
    have HB3 : Hid (Below p w w3) := HB2.out.trans (hb.mono (Nat.le_of_lt HN2.out.lt))
    obtain ⟨q, hq⟩ : ∃ q, w3.heap.size = q := ⟨_, rfl⟩
    have HQ := Lib.hid hq
    clear hb hq c0 c1 c2 c3 c4 c5 c6
    go_wp2_with (first
      | ((with_reducible show wpList _ _ _ (⟨some 5, .alloc _, _, _, _, _⟩ :: _) _ _); refine wpList_alloc_var (o := ⟨some 5, _, _, _, _, _⟩) rfl 24 rfl q HQ.out _ HZ.out ?_; intro w4 HA4 HB4)
      | ((with_reducible show wpList _ _ _ (⟨none, .store _ (.tmp 5) _, _, _, _, _⟩ :: _) _ _); refine wpList_store_whole (o := ⟨none, .store 24 (.tmp 5) (.tmp 48), _, _, _, _⟩) rfl _ _ _ rfl rfl q _ rfl rfl 24 _ HA4.out size_block rfl HAC.out ?_; intro w5 HA5 HB5; have HBY := Lib.hid (HBX.out _ _ HA5.out); have hb45 := HB4.out.trans HB5.out; have HN5 := Lib.hid (HN3.out.below hb45 (HQ.out ▸ HN3.out.lt)); have HRW5 := Lib.hid (HRW3.out.below (HQ.out.symm ▸ hb45)); have HB5' : Hid (Below p w w5) := HB3.out.trans (hb45.mono (HQ.out ▸ Nat.le_of_lt HN3.out.lt)); obtain ⟨V1, x1, V2, x2, hr1, hr2, hown2, hbx⟩ := app_more (cap := cap) HLN.out (by omega) HRW5.out; have HR1 := Lib.hid hr1; have HR2 := Lib.hid hr2; have HO2 := Lib.hid hown2; have HBX2 := Lib.hid hbx; clear hb45 hr1 hr2 hown2 hbx)
      | ((with_reducible show wpList _ _ _ (⟨some 52, _, _, _, _, _⟩ :: _) _ _); at_builtin; refine wpList_app (o := ⟨some 52, _, _, _, _, _⟩) rfl (.const (.slice none 0 0)) (.tmp 51) 27 rfl rfl rfl HR1.out ?_)
      | ((with_reducible show wpList _ _ _ (⟨some 54, _, _, _, _, _⟩ :: _) _ _); at_builtin; refine wpList_app (o := ⟨some 54, _, _, _, _, _⟩) rfl (.tmp 52) (.tmp 53) 27 rfl rfl rfl HR2.out ?_; obtain ⟨g2, cap2, rfl, hcap2, hgp2, hgl2, hrow2⟩ := own_form HO2.out (by omega) (by omega); have HRW6 := Lib.hid hrow2; clear hrow2))
    refine (dec_no x2 g2 0 _ cap2 (L ++ [0]) (not_lines_mod (by rw [List.length_append, HLN.out]; decide)) (by rw [List.length_append, HLN.out]; rfl) hcap2 HRW6.out).mono ?_
    rintro e w6 ⟨rfl, hb⟩
    have H6 : Hid (Below w5.heap.size w5 w6) := HBX2.out.trans (hb.mono HBX2.out.size)
    obtain ⟨q7, hq⟩ : ∃ q, w6.heap.size = q := ⟨_, rfl⟩
    have HQ7 := Lib.hid hq
    clear hb hq
    go_wp2_with (first
      | ((with_reducible show wpList _ _ _ (⟨some 7, .alloc _, _, _, _, _⟩ :: _) _ _); refine wpList_alloc_var (o := ⟨some 7, _, _, _, _, _⟩) rfl 24 rfl q7 HQ7.out _ HZ.out ?_; intro w7 HA7 HB7)
      | ((with_reducible show wpList _ _ _ (⟨none, .store _ (.tmp 7) _, _, _, _, _⟩ :: _) _ _); refine wpList_store_whole (o := ⟨none, .store 24 (.tmp 7) (.tmp 56), _, _, _, _⟩) rfl _ _ _ rfl rfl q7 zeroBV.cells.toArray rfl rfl 24 _ HA7.out size_block rfl (by decide +kernel) ?_; intro w8 HA8 HB8; have H8 : Hid (Below w5.heap.size w5 w8) := H6.out.trans ((HB7.out.trans HB8.out).mono (HQ7.out ▸ H6.out.size))))
    have HR8 := (HRW5.out.below H8.out).part 0 (L.length - 1) (by omega)
    simp only [HLN.out, Nat.reduceSub, List.drop_zero, Nat.zero_add] at HR8
    refine (dec_no w8 g 0 _ cap (L.take _) (not_lines_mod (by rw [List.length_take, HLN.out]; decide)) (by rw [List.length_take, HLN.out]; rfl) (by omega) HR8).mono ?_
    rintro e w9 ⟨rfl, hb⟩
    clear HR8
    have H9 : Hid (Below w5.heap.size w5 w9) := H8.out.trans (hb.mono H8.out.size)
    obtain ⟨q9, hq⟩ : ∃ q, w9.heap.size = q := ⟨_, rfl⟩
    have HQ9 := Lib.hid hq
    clear hb hq
    go_wp2_with (first
      | ((with_reducible show wpList _ _ _ (⟨some 9, .alloc _, _, _, _, _⟩ :: _) _ _); refine wpList_alloc_var (o := ⟨some 9, _, _, _, _, _⟩) rfl 24 rfl q9 HQ9.out _ HZ.out ?_; intro w10 HA10 HB10)
      | ((with_reducible show wpList _ _ _ (⟨none, .store _ (.tmp 9) _, _, _, _, _⟩ :: _) _ _); refine wpList_store_whole (o := ⟨none, .store 24 (.tmp 9) (.tmp 65), _, _, _, _⟩) rfl _ _ _ rfl rfl q9 zeroBV.cells.toArray rfl rfl 24 _ HA10.out size_block rfl (by decide +kernel) ?_; intro w11 HA11 HB11; have H11 : Hid (Below w5.heap.size w5 w11) := H9.out.trans ((HB10.out.trans HB11.out).mono (HQ9.out ▸ H9.out.size)); obtain ⟨c0, c1, c2, c3, c4, c5, c6⟩ := (HN5.out.below H11.out HN5.out.lt).cells; obtain ⟨d0, d1, d2, d3, d4, d5, d6⟩ := (HBY.out.below H11.out HBY.out.lt).cells)
      | (go_at_call 14; refine (HAW.out _).mono ?_; rintro e w12 ⟨rfl, hb⟩; have H12 : Hid (Below w5.heap.size w5 w12) := H11.out.trans (hb.mono H11.out.size); clear hb))
    go_ret
    exact ⟨rfl, by rw [HP.out]; exact HB5'.out.trans (H12.out.mono (HP.out ▸ HB5'.out.size))⟩
theorem walk (b : BV) (w : World) (ho : b.ok) :
    Calls Try.prog 6 #[b.agg] w fun e w' => e = .returned (.bool true) ∧ Below w.heap.size w w' := by
  cases h : longB b with
  | true => exact walk_long b w h
  | false =>
    cases hm : mayB b with
    | false => exact walk_bad b w h hm
    | true => exact walk_good b w ho h hm

set_option maxRecDepth 100000 in
theorem lifted (os : Os) (started : os.Started) (H : Type) (enc : TypeId × Value → H) :
    ReturnsInHanded {} Try.checked os 6 .any (Rows.blockBackSpec.pre6 enc Try.prog Try.f6 Rows.blockBackRow.domain false) (Rows.blockBackSpec.post enc Try.prog Try.f6 false true false false) := by
  refine returnsInHanded_of_change (C := Try.checked) own started (by kernel_rfl) Try.func6
    (ChangeSpec.witness6 (enc := enc) (C := Try.checked) false ⟨#[], #[.agg #[.int .i64 0, .int .i64 0, .int .u64 0, .int .u64 0, .int .u64 0, .string ⟨#[]⟩, .string ⟨#[]⟩]], []⟩ 8 (by kernel_rfl) (by kernel_rfl) (by kernel_rfl) (by kernel_rfl)) ?_
  intro W base args ds gs before hval0 hW hcnd _
  have hval : ∀ (j : Nat) t v, Try.f6.params[j]? = some t → args[j]? = some v → Value.okWide Try.prog W .any base t v := hval0
  have hW' := hW
  obtain ⟨p, q, hA0, hV, rfl, hfz, hnd⟩ := hW
  have hA : DataW.TrodAll enc Try.prog W 0 (fun _ => true) true Try.f6.params.toList args.toList ds p := hA0
  rw [Try.params6] at hA hval
  obtain ⟨v0, vs0, d0, ds0, p0, q0, hargs, rfl, rfl, h0, r0⟩ := trodAll_cons hA
  obtain ⟨rfl, rfl, rfl⟩ := trodAll_nil r0
  obtain rfl : args = #[v0] := by cases args; simp_all
  obtain ⟨rfl, rfl⟩ := trodVars_none hV
  obtain ⟨z0, rfl, w0⟩ := isBlock_of (hval 0 24 v0 rfl rfl) h0
  have k0 := h0
  have lt0 : ∀ x ∈ p0, x.block < W.heap.size := by obtain ⟨m, hm⟩ := k0; exact DataW.trod_lt m _ _ _ hm
  clear hA0 hval0
  refine (walk z0 W w0).mono fun e W' ⟨he, bel⟩ => ?_
  subst he
  exact ⟨_, rfl, _, _, _, [], _, [], hW', trodAll_mk1 (shut_bool Try.underlying4 _), (trodAll_cons_mk (Below.trod laidOut (by kernel_rfl) (of_decide_eq_true (by kernel_rfl)) k0 bel lt0) trodAll_mk0), rfl, bel.frame _, fun h => by cases h⟩

theorem over : Rows.blockBackRow.holds Try.pinned (OpenSpec.ofChange Rows.blockBackSpec) :=
  OpenClaim.holds_of_wide 6 Try.f6 rfl rfl rfl rfl rfl rfl rfl ⟨rfl, rfl, rfl, rfl, rfl⟩ rfl rfl rfl rfl rfl (by kernel_rfl) Try.func6 (by kernel_rfl)
    (of_decide_eq_true (by kernel_rfl)) (by unfold Func.isWrapper; first | (rw [if_pos (by decide +kernel)]; kernel_rfl) | (rw [if_neg (by decide +kernel)]; exact ⟨rfl, rfl⟩))
    (fun os started H enc _ => lifted os started H enc)

theorem proved : Rows.BlockBackSaid := over
#print axioms proved
end Go.Proofs.Ytokobelmoanneaa.blockBack
