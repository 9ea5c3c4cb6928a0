/-
  Proved here: the statement BlockApart, in full: blocks have the same lines just if they are the same.
  Conditions: none.
-/
import Derived.Test.YtokobelmoanneaaRows
import Derived.Test.YtokobelmoanneaaBlockN
import Derived.IntWalk
import Derived.WalkSmall
import Derived.Deep.QuietTactic
import Derived.BigQuiet
import Derived.WalkKit
import Derived.ProofKit
import Derived.OpenShut
import Derived.ShutString
import Derived.ChangeOld
import Derived.Below
namespace Go.Proofs.Ytokobelmoanneaa.blockApart
open Go.ChangeShapes Go.WideShapes Go.ChangeAt Go.RowKit
open Go.ChangeMaps (open_string shut_string)
set_option linter.unusedVariables false

theorem own : ownKnob Try.prog.godebug = none := by kernel_rfl
theorem laidOut : laidOutB Try.prog = true := by kernel_rfl

set_option maxHeartbeats 4000000 in
set_option maxRecDepth 100000 in
theorem walk_l1 (a b : BV) (w : World) (h1 : longB a = true) :
    Calls Try.prog 10 #[a.agg, b.agg] w fun e w' => e = .returned (.bool true) ∧ Below w.heap.size w w' := by
  have HL1 := Lib.hid (fun W => long_any a W)
  have HL2 := Lib.hid (fun W => long_any b W)
  rw [h1] at HL1
  have HAW := Lib.hid awake_any
  have HNa := Lib.hid (box_new w a)
  obtain ⟨p, hp⟩ : ∃ p, w.heap.size = p := ⟨_, rfl⟩
  have HP := Lib.hid hp
  obtain ⟨w0, hw0⟩ : ∃ w0, w.alloc (.cells #[.int .i64 a.cl, .int .i64 a.kd, .int .u64 (a.id : Nat), .int .u64 (a.ver : Nat), .int .u64 (a.ep : Nat), .string a.key, .string a.val] 24) = w0 := ⟨_, rfl⟩
  rw [hw0, hp] at HNa
  have HB0 : Hid (Below p w w0) := (by rw [← hp, ← hw0]; exact (Below.refl _ _).alloc (Nat.le_refl _) _)
  have HNb := Lib.hid (box_new w0 b)
  obtain ⟨q, hq⟩ : ∃ q, w0.heap.size = q := ⟨_, rfl⟩
  obtain ⟨w1, hw1⟩ : ∃ w1, w0.alloc (.cells #[.int .i64 b.cl, .int .i64 b.kd, .int .u64 (b.id : Nat), .int .u64 (b.ver : Nat), .int .u64 (b.ep : Nat), .string b.key, .string b.val] 24) = w1 := ⟨_, rfl⟩
  rw [hw1, hq] at HNb
  have hb01 : Below q w0 w1 := (by rw [← hq, ← hw1]; exact (Below.refl _ _).alloc (Nat.le_refl _) _)
  have HNa1 := Lib.hid (HNa.out.below hb01 (hq ▸ HNa.out.lt))
  have HB1 : Hid (Below p w w1) := HB0.out.trans (hb01.mono (hq ▸ Nat.le_of_lt HNa.out.lt))
  clear HNa hb01
  clear h1
  rw [BV.agg] at HL1 
  rw [BV.agg] at HL2 
  rw [BV.agg, BV.agg]
  obtain ⟨cl, kd, id, ver, ep, key, val⟩ := a
  obtain ⟨cl', kd', id', ver', ep', key', val'⟩ := b
  simp only at *
  obtain ⟨c0, c1, c2, c3, c4, c5, c6⟩ := HNa1.out.cells
  obtain ⟨d0, d1, d2, d3, d4, d5, d6⟩ := HNb.out.cells
  go_enter Try.func10, Try.ntmps10
  go_wp2_with fail
  refine (HL1.out _).mono ?_
  rintro e w2 ⟨rfl, hb⟩
  have HB2 : Hid (Below p w w2) := HB1.out.trans (hb.mono (HP.out ▸ HB1.out.size))
  have HNa2 := Lib.hid (HNa1.out.below hb HNa1.out.lt)
  have HNb2 := Lib.hid (HNb.out.below hb HNb.out.lt)
  clear hb c0 c1 c2 c3 c4 c5 c6 d0 d1 d2 d3 d4 d5 d6
  obtain ⟨c0, c1, c2, c3, c4, c5, c6⟩ := HNa2.out.cells
  obtain ⟨d0, d1, d2, d3, d4, d5, d6⟩ := HNb2.out.cells
  go_wp2_with fail
  refine (HAW.out _).mono ?_
  rintro e w3 ⟨rfl, hb⟩
  have HB3 : Hid (Below p w w3) := HB2.out.trans (hb.mono (HP.out ▸ HB2.out.size))
  have HNa3 := Lib.hid (HNa2.out.below hb HNa2.out.lt)
  have HNb3 := Lib.hid (HNb2.out.below hb HNb2.out.lt)
  clear hb
  go_wp2
  go_ret
  exact ⟨rfl, by rw [HP.out]; exact HB3.out⟩
set_option maxHeartbeats 4000000 in
set_option maxRecDepth 100000 in
theorem walk_l2 (a b : BV) (w : World) (h1 : longB a = false) (h2 : longB b = true) :
    Calls Try.prog 10 #[a.agg, b.agg] w fun e w' => e = .returned (.bool true) ∧ Below w.heap.size w w' := by
  have HL1 := Lib.hid (fun W => long_any a W)
  have HL2 := Lib.hid (fun W => long_any b W)
  rw [h1] at HL1
  rw [h2] at HL2
  have HAW := Lib.hid awake_any
  have HNa := Lib.hid (box_new w a)
  obtain ⟨p, hp⟩ : ∃ p, w.heap.size = p := ⟨_, rfl⟩
  have HP := Lib.hid hp
  obtain ⟨w0, hw0⟩ : ∃ w0, w.alloc (.cells #[.int .i64 a.cl, .int .i64 a.kd, .int .u64 (a.id : Nat), .int .u64 (a.ver : Nat), .int .u64 (a.ep : Nat), .string a.key, .string a.val] 24) = w0 := ⟨_, rfl⟩
  rw [hw0, hp] at HNa
  have HB0 : Hid (Below p w w0) := (by rw [← hp, ← hw0]; exact (Below.refl _ _).alloc (Nat.le_refl _) _)
  have HNb := Lib.hid (box_new w0 b)
  obtain ⟨q, hq⟩ : ∃ q, w0.heap.size = q := ⟨_, rfl⟩
  obtain ⟨w1, hw1⟩ : ∃ w1, w0.alloc (.cells #[.int .i64 b.cl, .int .i64 b.kd, .int .u64 (b.id : Nat), .int .u64 (b.ver : Nat), .int .u64 (b.ep : Nat), .string b.key, .string b.val] 24) = w1 := ⟨_, rfl⟩
  rw [hw1, hq] at HNb
  have hb01 : Below q w0 w1 := (by rw [← hq, ← hw1]; exact (Below.refl _ _).alloc (Nat.le_refl _) _)
  have HNa1 := Lib.hid (HNa.out.below hb01 (hq ▸ HNa.out.lt))
  have HB1 : Hid (Below p w w1) := HB0.out.trans (hb01.mono (hq ▸ Nat.le_of_lt HNa.out.lt))
  clear HNa hb01
  clear h1 h2
  rw [BV.agg] at HL1 
  rw [BV.agg] at HL2 
  rw [BV.agg, BV.agg]
  obtain ⟨cl, kd, id, ver, ep, key, val⟩ := a
  obtain ⟨cl', kd', id', ver', ep', key', val'⟩ := b
  simp only at *
  obtain ⟨c0, c1, c2, c3, c4, c5, c6⟩ := HNa1.out.cells
  obtain ⟨d0, d1, d2, d3, d4, d5, d6⟩ := HNb.out.cells
  go_enter Try.func10, Try.ntmps10
  go_wp2_with fail
  refine (HL1.out _).mono ?_
  rintro e w2 ⟨rfl, hb⟩
  have HB2 : Hid (Below p w w2) := HB1.out.trans (hb.mono (HP.out ▸ HB1.out.size))
  have HNa2 := Lib.hid (HNa1.out.below hb HNa1.out.lt)
  have HNb2 := Lib.hid (HNb.out.below hb HNb.out.lt)
  clear hb c0 c1 c2 c3 c4 c5 c6 d0 d1 d2 d3 d4 d5 d6
  obtain ⟨c0, c1, c2, c3, c4, c5, c6⟩ := HNa2.out.cells
  obtain ⟨d0, d1, d2, d3, d4, d5, d6⟩ := HNb2.out.cells
  go_wp2_with fail
  refine (HL2.out _).mono ?_
  rintro e w3 ⟨rfl, hb⟩
  have HB3 : Hid (Below p w w3) := HB2.out.trans (hb.mono (HP.out ▸ HB2.out.size))
  have HNa3 := Lib.hid (HNa2.out.below hb HNa2.out.lt)
  have HNb3 := Lib.hid (HNb2.out.below hb HNb2.out.lt)
  clear hb c0 c1 c2 c3 c4 c5 c6 d0 d1 d2 d3 d4 d5 d6
  obtain ⟨c0, c1, c2, c3, c4, c5, c6⟩ := HNa3.out.cells
  obtain ⟨d0, d1, d2, d3, d4, d5, d6⟩ := HNb3.out.cells
  go_wp2_with fail
  refine (HAW.out _).mono ?_
  rintro e w4 ⟨rfl, hb⟩
  have HB4 : Hid (Below p w w4) := HB3.out.trans (hb.mono (HP.out ▸ HB3.out.size))
  have HNa4 := Lib.hid (HNa3.out.below hb HNa3.out.lt)
  have HNb4 := Lib.hid (HNb3.out.below hb HNb3.out.lt)
  clear hb
  go_wp2
  go_ret
  exact ⟨rfl, by rw [HP.out]; exact HB4.out⟩
set_option maxHeartbeats 4000000 in
set_option maxRecDepth 100000 in
theorem walk_n12 (a b : BV) (w : World) (h1 : longB a = false) (h2 : longB b = false) (ma : mayB a = false) (mb : mayB b = false) :
    Calls Try.prog 10 #[a.agg, b.agg] w fun e w' => e = .returned (.bool true) ∧ Below w.heap.size w w' := by
  have HL1 := Lib.hid (fun W => long_any a W)
  have HL2 := Lib.hid (fun W => long_any b W)
  rw [h1] at HL1
  rw [h2] at HL2
  have hsa := longB_no h1
  have hsb := longB_no h2
  have HE1 := Lib.hid (fun W => enc_no a hsa.1 hsa.2 ma W)
  have HE2 := Lib.hid (fun W => enc_no b hsb.1 hsb.2 mb W)

  have HAW := Lib.hid awake_any
  have HNa := Lib.hid (box_new w a)
  obtain ⟨p, hp⟩ : ∃ p, w.heap.size = p := ⟨_, rfl⟩
  have HP := Lib.hid hp
  obtain ⟨w0, hw0⟩ : ∃ w0, w.alloc (.cells #[.int .i64 a.cl, .int .i64 a.kd, .int .u64 (a.id : Nat), .int .u64 (a.ver : Nat), .int .u64 (a.ep : Nat), .string a.key, .string a.val] 24) = w0 := ⟨_, rfl⟩
  rw [hw0, hp] at HNa
  have HB0 : Hid (Below p w w0) := (by rw [← hp, ← hw0]; exact (Below.refl _ _).alloc (Nat.le_refl _) _)
  have HNb := Lib.hid (box_new w0 b)
  obtain ⟨q, hq⟩ : ∃ q, w0.heap.size = q := ⟨_, rfl⟩
  obtain ⟨w1, hw1⟩ : ∃ w1, w0.alloc (.cells #[.int .i64 b.cl, .int .i64 b.kd, .int .u64 (b.id : Nat), .int .u64 (b.ver : Nat), .int .u64 (b.ep : Nat), .string b.key, .string b.val] 24) = w1 := ⟨_, rfl⟩
  rw [hw1, hq] at HNb
  have hb01 : Below q w0 w1 := (by rw [← hq, ← hw1]; exact (Below.refl _ _).alloc (Nat.le_refl _) _)
  have HNa1 := Lib.hid (HNa.out.below hb01 (hq ▸ HNa.out.lt))
  have HB1 : Hid (Below p w w1) := HB0.out.trans (hb01.mono (hq ▸ Nat.le_of_lt HNa.out.lt))
  clear HNa hb01
  clear h1 h2 ma mb hsa hsb
  rw [BV.agg] at HL1 HE1
  rw [BV.agg] at HL2 HE2
  rw [BV.agg, BV.agg]
  obtain ⟨cl, kd, id, ver, ep, key, val⟩ := a
  obtain ⟨cl', kd', id', ver', ep', key', val'⟩ := b
  simp only at *
  obtain ⟨c0, c1, c2, c3, c4, c5, c6⟩ := HNa1.out.cells
  obtain ⟨d0, d1, d2, d3, d4, d5, d6⟩ := HNb.out.cells
  go_enter Try.func10, Try.ntmps10
  go_wp2_with fail
  refine (HL1.out _).mono ?_
  rintro e w2 ⟨rfl, hb⟩
  have HB2 : Hid (Below p w w2) := HB1.out.trans (hb.mono (HP.out ▸ HB1.out.size))
  have HNa2 := Lib.hid (HNa1.out.below hb HNa1.out.lt)
  have HNb2 := Lib.hid (HNb.out.below hb HNb.out.lt)
  clear hb c0 c1 c2 c3 c4 c5 c6 d0 d1 d2 d3 d4 d5 d6
  obtain ⟨c0, c1, c2, c3, c4, c5, c6⟩ := HNa2.out.cells
  obtain ⟨d0, d1, d2, d3, d4, d5, d6⟩ := HNb2.out.cells
  go_wp2_with fail
  refine (HL2.out _).mono ?_
  rintro e w3 ⟨rfl, hb⟩
  have HB3 : Hid (Below p w w3) := HB2.out.trans (hb.mono (HP.out ▸ HB2.out.size))
  have HNa3 := Lib.hid (HNa2.out.below hb HNa2.out.lt)
  have HNb3 := Lib.hid (HNb2.out.below hb HNb2.out.lt)
  clear hb c0 c1 c2 c3 c4 c5 c6 d0 d1 d2 d3 d4 d5 d6
  obtain ⟨c0, c1, c2, c3, c4, c5, c6⟩ := HNa3.out.cells
  obtain ⟨d0, d1, d2, d3, d4, d5, d6⟩ := HNb3.out.cells
  go_wp2_with fail
  refine (HE1.out _).mono ?_
  rintro e w4 ⟨rfl, hb⟩
  have HB4 : Hid (Below p w w4) := HB3.out.trans (hb.mono (HP.out ▸ HB3.out.size))
  have HNa4 := Lib.hid (HNa3.out.below hb HNa3.out.lt)
  have HNb4 := Lib.hid (HNb3.out.below hb HNb3.out.lt)
  clear hb c0 c1 c2 c3 c4 c5 c6 d0 d1 d2 d3 d4 d5 d6
  obtain ⟨c0, c1, c2, c3, c4, c5, c6⟩ := HNa4.out.cells
  obtain ⟨d0, d1, d2, d3, d4, d5, d6⟩ := HNb4.out.cells
  go_wp2_with fail
  refine (HE2.out _).mono ?_
  rintro e w5 ⟨rfl, hb⟩
  have HB5 : Hid (Below p w w5) := HB4.out.trans (hb.mono (HP.out ▸ HB4.out.size))
  have HNa5 := Lib.hid (HNa4.out.below hb HNa4.out.lt)
  have HNb5 := Lib.hid (HNb4.out.below hb HNb4.out.lt)
  clear hb c0 c1 c2 c3 c4 c5 c6 d0 d1 d2 d3 d4 d5 d6
  go_wp2_with fail
  refine (HAW.out _).mono ?_
  rintro e w6 ⟨rfl, hb⟩
  have HB6 : Hid (Below p w w6) := HB5.out.trans (hb.mono (HP.out ▸ HB5.out.size))
  have HNa6 := Lib.hid (HNa5.out.below hb HNa5.out.lt)
  have HNb6 := Lib.hid (HNb5.out.below hb HNb5.out.lt)
  clear hb
  go_wp2
  go_ret
  exact ⟨rfl, by rw [HP.out]; exact HB6.out⟩
set_option maxHeartbeats 4000000 in
set_option maxRecDepth 100000 in
theorem walk_n1 (a b : BV) (w : World) (ob : b.ok) (h1 : longB a = false) (h2 : longB b = false) (ma : mayB a = false) (mb : mayB b = true) :
    Calls Try.prog 10 #[a.agg, b.agg] w fun e w' => e = .returned (.bool true) ∧ Below w.heap.size w w' := by
  have HL1 := Lib.hid (fun W => long_any a W)
  have HL2 := Lib.hid (fun W => long_any b W)
  rw [h1] at HL1
  rw [h2] at HL2
  have hsa := longB_no h1
  have hsb := longB_no h2
  have HE1 := Lib.hid (fun W => enc_no a hsa.1 hsa.2 ma W)
  have HE2 := Lib.hid (fun W => enc_ok b ob mb W)
  unfold LinesTo at HE2
  obtain ⟨n2, hn2⟩ : ∃ n, (linesL b).length = n := ⟨_, rfl⟩
  rw [hn2] at HE2
  have HLBVB : Hid (0 < n2 ∧ n2 ≤ 1073741824) := (by
    have h1 := linesL_len mb
    have h2 := spanN_some (c := b.cl) (by have := mayB_cl mb; omega)
    show _ ∧ _
    omega)

  have HAW := Lib.hid awake_any
  have HNa := Lib.hid (box_new w a)
  obtain ⟨p, hp⟩ : ∃ p, w.heap.size = p := ⟨_, rfl⟩
  have HP := Lib.hid hp
  obtain ⟨w0, hw0⟩ : ∃ w0, w.alloc (.cells #[.int .i64 a.cl, .int .i64 a.kd, .int .u64 (a.id : Nat), .int .u64 (a.ver : Nat), .int .u64 (a.ep : Nat), .string a.key, .string a.val] 24) = w0 := ⟨_, rfl⟩
  rw [hw0, hp] at HNa
  have HB0 : Hid (Below p w w0) := (by rw [← hp, ← hw0]; exact (Below.refl _ _).alloc (Nat.le_refl _) _)
  have HNb := Lib.hid (box_new w0 b)
  obtain ⟨q, hq⟩ : ∃ q, w0.heap.size = q := ⟨_, rfl⟩
  obtain ⟨w1, hw1⟩ : ∃ w1, w0.alloc (.cells #[.int .i64 b.cl, .int .i64 b.kd, .int .u64 (b.id : Nat), .int .u64 (b.ver : Nat), .int .u64 (b.ep : Nat), .string b.key, .string b.val] 24) = w1 := ⟨_, rfl⟩
  rw [hw1, hq] at HNb
  have hb01 : Below q w0 w1 := (by rw [← hq, ← hw1]; exact (Below.refl _ _).alloc (Nat.le_refl _) _)
  have HNa1 := Lib.hid (HNa.out.below hb01 (hq ▸ HNa.out.lt))
  have HB1 : Hid (Below p w w1) := HB0.out.trans (hb01.mono (hq ▸ Nat.le_of_lt HNa.out.lt))
  clear HNa hb01
  clear h1 h2 ma mb hsa hsb hn2 ob
  rw [BV.agg] at HL1 HE1
  rw [BV.agg] at HL2 HE2
  rw [BV.agg, BV.agg]
  obtain ⟨cl, kd, id, ver, ep, key, val⟩ := a
  obtain ⟨cl', kd', id', ver', ep', key', val'⟩ := b
  simp only at *
  obtain ⟨c0, c1, c2, c3, c4, c5, c6⟩ := HNa1.out.cells
  obtain ⟨d0, d1, d2, d3, d4, d5, d6⟩ := HNb.out.cells
  go_enter Try.func10, Try.ntmps10
  go_wp2_with fail
  refine (HL1.out _).mono ?_
  rintro e w2 ⟨rfl, hb⟩
  have HB2 : Hid (Below p w w2) := HB1.out.trans (hb.mono (HP.out ▸ HB1.out.size))
  have HNa2 := Lib.hid (HNa1.out.below hb HNa1.out.lt)
  have HNb2 := Lib.hid (HNb.out.below hb HNb.out.lt)
  clear hb c0 c1 c2 c3 c4 c5 c6 d0 d1 d2 d3 d4 d5 d6
  obtain ⟨c0, c1, c2, c3, c4, c5, c6⟩ := HNa2.out.cells
  obtain ⟨d0, d1, d2, d3, d4, d5, d6⟩ := HNb2.out.cells
  go_wp2_with fail
  refine (HL2.out _).mono ?_
  rintro e w3 ⟨rfl, hb⟩
  have HB3 : Hid (Below p w w3) := HB2.out.trans (hb.mono (HP.out ▸ HB2.out.size))
  have HNa3 := Lib.hid (HNa2.out.below hb HNa2.out.lt)
  have HNb3 := Lib.hid (HNb2.out.below hb HNb2.out.lt)
  clear hb c0 c1 c2 c3 c4 c5 c6 d0 d1 d2 d3 d4 d5 d6
  obtain ⟨c0, c1, c2, c3, c4, c5, c6⟩ := HNa3.out.cells
  obtain ⟨d0, d1, d2, d3, d4, d5, d6⟩ := HNb3.out.cells
  go_wp2_with fail
  refine (HE1.out _).mono ?_
  rintro e w4 ⟨rfl, hb⟩
  have HB4 : Hid (Below p w w4) := HB3.out.trans (hb.mono (HP.out ▸ HB3.out.size))
  have HNa4 := Lib.hid (HNa3.out.below hb HNa3.out.lt)
  have HNb4 := Lib.hid (HNb3.out.below hb HNb3.out.lt)
  clear hb c0 c1 c2 c3 c4 c5 c6 d0 d1 d2 d3 d4 d5 d6
  obtain ⟨c0, c1, c2, c3, c4, c5, c6⟩ := HNa4.out.cells
  obtain ⟨d0, d1, d2, d3, d4, d5, d6⟩ := HNb4.out.cells
  go_wp2_with fail
  refine (HE2.out _).mono ?_
  rintro e w5 ⟨VB, rfl, hown, hb⟩
  obtain ⟨gVB, capVB, rfl, hcapVB, hgpVB, hglVB, hrow⟩ := own_form hown HLBVB.out.1 HLBVB.out.2
  have HRVB := Lib.hid hrow
  clear hown hrow
  have HB5 : Hid (Below p w w5) := HB4.out.trans (hb.mono (HP.out ▸ HB4.out.size))
  have HNa5 := Lib.hid (HNa4.out.below hb HNa4.out.lt)
  have HNb5 := Lib.hid (HNb4.out.below hb HNb4.out.lt)
  clear hb c0 c1 c2 c3 c4 c5 c6 d0 d1 d2 d3 d4 d5 d6
  go_wp2_with fail
  refine (HAW.out _).mono ?_
  rintro e w6 ⟨rfl, hb⟩
  have HB6 : Hid (Below p w w6) := HB5.out.trans (hb.mono (HP.out ▸ HB5.out.size))
  have HNa6 := Lib.hid (HNa5.out.below hb HNa5.out.lt)
  have HNb6 := Lib.hid (HNb5.out.below hb HNb5.out.lt)
  clear hb
  go_wp2
  go_ret
  exact ⟨rfl, by rw [HP.out]; exact HB6.out⟩
set_option maxHeartbeats 4000000 in
set_option maxRecDepth 100000 in
theorem walk_n2 (a b : BV) (w : World) (oa : a.ok) (h1 : longB a = false) (h2 : longB b = false) (ma : mayB a = true) (mb : mayB b = false) :
    Calls Try.prog 10 #[a.agg, b.agg] w fun e w' => e = .returned (.bool true) ∧ Below w.heap.size w w' := by
  have HL1 := Lib.hid (fun W => long_any a W)
  have HL2 := Lib.hid (fun W => long_any b W)
  rw [h1] at HL1
  rw [h2] at HL2
  have hsa := longB_no h1
  have hsb := longB_no h2
  have HE2 := Lib.hid (fun W => enc_no b hsb.1 hsb.2 mb W)
  have HE1 := Lib.hid (fun W => enc_ok a oa ma W)
  unfold LinesTo at HE1
  obtain ⟨n1, hn1⟩ : ∃ n, (linesL a).length = n := ⟨_, rfl⟩
  rw [hn1] at HE1
  have HLBVA : Hid (0 < n1 ∧ n1 ≤ 1073741824) := (by
    have h1 := linesL_len ma
    have h2 := spanN_some (c := a.cl) (by have := mayB_cl ma; omega)
    show _ ∧ _
    omega)

  have HAW := Lib.hid awake_any
  have HNa := Lib.hid (box_new w a)
  obtain ⟨p, hp⟩ : ∃ p, w.heap.size = p := ⟨_, rfl⟩
  have HP := Lib.hid hp
  obtain ⟨w0, hw0⟩ : ∃ w0, w.alloc (.cells #[.int .i64 a.cl, .int .i64 a.kd, .int .u64 (a.id : Nat), .int .u64 (a.ver : Nat), .int .u64 (a.ep : Nat), .string a.key, .string a.val] 24) = w0 := ⟨_, rfl⟩
  rw [hw0, hp] at HNa
  have HB0 : Hid (Below p w w0) := (by rw [← hp, ← hw0]; exact (Below.refl _ _).alloc (Nat.le_refl _) _)
  have HNb := Lib.hid (box_new w0 b)
  obtain ⟨q, hq⟩ : ∃ q, w0.heap.size = q := ⟨_, rfl⟩
  obtain ⟨w1, hw1⟩ : ∃ w1, w0.alloc (.cells #[.int .i64 b.cl, .int .i64 b.kd, .int .u64 (b.id : Nat), .int .u64 (b.ver : Nat), .int .u64 (b.ep : Nat), .string b.key, .string b.val] 24) = w1 := ⟨_, rfl⟩
  rw [hw1, hq] at HNb
  have hb01 : Below q w0 w1 := (by rw [← hq, ← hw1]; exact (Below.refl _ _).alloc (Nat.le_refl _) _)
  have HNa1 := Lib.hid (HNa.out.below hb01 (hq ▸ HNa.out.lt))
  have HB1 : Hid (Below p w w1) := HB0.out.trans (hb01.mono (hq ▸ Nat.le_of_lt HNa.out.lt))
  clear HNa hb01
  clear h1 h2 ma mb hsa hsb hn1 oa
  rw [BV.agg] at HL1 HE1
  rw [BV.agg] at HL2 HE2
  rw [BV.agg, BV.agg]
  obtain ⟨cl, kd, id, ver, ep, key, val⟩ := a
  obtain ⟨cl', kd', id', ver', ep', key', val'⟩ := b
  simp only at *
  obtain ⟨c0, c1, c2, c3, c4, c5, c6⟩ := HNa1.out.cells
  obtain ⟨d0, d1, d2, d3, d4, d5, d6⟩ := HNb.out.cells
  go_enter Try.func10, Try.ntmps10
  go_wp2_with fail
  refine (HL1.out _).mono ?_
  rintro e w2 ⟨rfl, hb⟩
  have HB2 : Hid (Below p w w2) := HB1.out.trans (hb.mono (HP.out ▸ HB1.out.size))
  have HNa2 := Lib.hid (HNa1.out.below hb HNa1.out.lt)
  have HNb2 := Lib.hid (HNb.out.below hb HNb.out.lt)
  clear hb c0 c1 c2 c3 c4 c5 c6 d0 d1 d2 d3 d4 d5 d6
  obtain ⟨c0, c1, c2, c3, c4, c5, c6⟩ := HNa2.out.cells
  obtain ⟨d0, d1, d2, d3, d4, d5, d6⟩ := HNb2.out.cells
  go_wp2_with fail
  refine (HL2.out _).mono ?_
  rintro e w3 ⟨rfl, hb⟩
  have HB3 : Hid (Below p w w3) := HB2.out.trans (hb.mono (HP.out ▸ HB2.out.size))
  have HNa3 := Lib.hid (HNa2.out.below hb HNa2.out.lt)
  have HNb3 := Lib.hid (HNb2.out.below hb HNb2.out.lt)
  clear hb c0 c1 c2 c3 c4 c5 c6 d0 d1 d2 d3 d4 d5 d6
  obtain ⟨c0, c1, c2, c3, c4, c5, c6⟩ := HNa3.out.cells
  obtain ⟨d0, d1, d2, d3, d4, d5, d6⟩ := HNb3.out.cells
  go_wp2_with fail
  refine (HE1.out _).mono ?_
  rintro e w4 ⟨VA, rfl, hown, hb⟩
  obtain ⟨gVA, capVA, rfl, hcapVA, hgpVA, hglVA, hrow⟩ := own_form hown HLBVA.out.1 HLBVA.out.2
  have HRVA := Lib.hid hrow
  clear hown hrow
  have HB4 : Hid (Below p w w4) := HB3.out.trans (hb.mono (HP.out ▸ HB3.out.size))
  have HNa4 := Lib.hid (HNa3.out.below hb HNa3.out.lt)
  have HNb4 := Lib.hid (HNb3.out.below hb HNb3.out.lt)
  clear hb c0 c1 c2 c3 c4 c5 c6 d0 d1 d2 d3 d4 d5 d6
  obtain ⟨c0, c1, c2, c3, c4, c5, c6⟩ := HNa4.out.cells
  obtain ⟨d0, d1, d2, d3, d4, d5, d6⟩ := HNb4.out.cells
  go_wp2_with fail
  refine (HE2.out _).mono ?_
  rintro e w5 ⟨rfl, hb⟩
  have HB5 : Hid (Below p w w5) := HB4.out.trans (hb.mono (HP.out ▸ HB4.out.size))
  have HNa5 := Lib.hid (HNa4.out.below hb HNa4.out.lt)
  have HNb5 := Lib.hid (HNb4.out.below hb HNb4.out.lt)
  clear hb c0 c1 c2 c3 c4 c5 c6 d0 d1 d2 d3 d4 d5 d6
  go_wp2_with fail
  refine (HAW.out _).mono ?_
  rintro e w6 ⟨rfl, hb⟩
  have HB6 : Hid (Below p w w6) := HB5.out.trans (hb.mono (HP.out ▸ HB5.out.size))
  have HNa6 := Lib.hid (HNa5.out.below hb HNa5.out.lt)
  have HNb6 := Lib.hid (HNb5.out.below hb HNb5.out.lt)
  clear hb
  go_wp2
  go_ret
  exact ⟨rfl, by rw [HP.out]; exact HB6.out⟩
set_option maxHeartbeats 4000000 in
set_option maxRecDepth 100000 in
theorem walk_good (a b : BV) (w : World) (oa : a.ok) (ob : b.ok) (h1 : longB a = false) (h2 : longB b = false) (ma : mayB a = true) (mb : mayB b = true) :
    Calls Try.prog 10 #[a.agg, b.agg] w fun e w' => e = .returned (.bool true) ∧ Below w.heap.size w w' := by
  have HL1 := Lib.hid (fun W => long_any a W)
  have HL2 := Lib.hid (fun W => long_any b W)
  rw [h1] at HL1
  rw [h2] at HL2
  have hsa := longB_no h1
  have hsb := longB_no h2
  have HE1 := Lib.hid (fun W => enc_ok a oa ma W)
  unfold LinesTo at HE1
  obtain ⟨n1, hn1⟩ : ∃ n, (linesL a).length = n := ⟨_, rfl⟩
  rw [hn1] at HE1
  have HLBVA : Hid (0 < n1 ∧ n1 ≤ 1073741824) := (by
    have h1 := linesL_len ma
    have h2 := spanN_some (c := a.cl) (by have := mayB_cl ma; omega)
    show _ ∧ _
    omega)
  have HE2 := Lib.hid (fun W => enc_ok b ob mb W)
  unfold LinesTo at HE2
  obtain ⟨n2, hn2⟩ : ∃ n, (linesL b).length = n := ⟨_, rfl⟩
  rw [hn2] at HE2
  have HLBVB : Hid (0 < n2 ∧ n2 ≤ 1073741824) := (by
    have h1 := linesL_len mb
    have h2 := spanN_some (c := b.cl) (by have := mayB_cl mb; omega)
    show _ ∧ _
    omega)
  have HINJ : Hid ((linesL a == linesL b) = beqB a b) := (by
    show _ = _
    rw [Bool.eq_iff_iff, beqB_iff, beq_iff_eq]
    exact ⟨fun e => linesL_inj ma mb oa ob e, fun e => by rw [e]⟩)
  have HSAME : Hid (∀ W g g' c c', Row W (some ⟨g, 0, none⟩) (linesL a) → Row W (some ⟨g', 0, none⟩) (linesL b) → Calls Try.prog 17 #[.slice (some ⟨g, 0, none⟩) n1 c, .slice (some ⟨g', 0, none⟩) n2 c'] W fun e w' => e = .returned (.bool (beqB a b)) ∧ W = w') := fun W g g' c c' h1 h2 => by
    have := same_any W (some ⟨g, 0, none⟩) (some ⟨g', 0, none⟩) n1 n2 c c' _ _ hn1 hn2 h1 h2
    rw [HINJ.out] at this
    exact this
  generalize linesL a = LA at *
  generalize linesL b = LB at *
  have HAW := Lib.hid awake_any
  have HNa := Lib.hid (box_new w a)
  obtain ⟨p, hp⟩ : ∃ p, w.heap.size = p := ⟨_, rfl⟩
  have HP := Lib.hid hp
  obtain ⟨w0, hw0⟩ : ∃ w0, w.alloc (.cells #[.int .i64 a.cl, .int .i64 a.kd, .int .u64 (a.id : Nat), .int .u64 (a.ver : Nat), .int .u64 (a.ep : Nat), .string a.key, .string a.val] 24) = w0 := ⟨_, rfl⟩
  rw [hw0, hp] at HNa
  have HB0 : Hid (Below p w w0) := (by rw [← hp, ← hw0]; exact (Below.refl _ _).alloc (Nat.le_refl _) _)
  have HNb := Lib.hid (box_new w0 b)
  obtain ⟨q, hq⟩ : ∃ q, w0.heap.size = q := ⟨_, rfl⟩
  obtain ⟨w1, hw1⟩ : ∃ w1, w0.alloc (.cells #[.int .i64 b.cl, .int .i64 b.kd, .int .u64 (b.id : Nat), .int .u64 (b.ver : Nat), .int .u64 (b.ep : Nat), .string b.key, .string b.val] 24) = w1 := ⟨_, rfl⟩
  rw [hw1, hq] at HNb
  have hb01 : Below q w0 w1 := (by rw [← hq, ← hw1]; exact (Below.refl _ _).alloc (Nat.le_refl _) _)
  have HNa1 := Lib.hid (HNa.out.below hb01 (hq ▸ HNa.out.lt))
  have HB1 : Hid (Below p w w1) := HB0.out.trans (hb01.mono (hq ▸ Nat.le_of_lt HNa.out.lt))
  clear HNa hb01
  have HPARTS : Hid (beqB a b = (a.cl == b.cl && (a.kd == b.kd && (((a.id : Nat) : Int) == ((b.id : Nat) : Int) && (((a.ver : Nat) : Int) == ((b.ver : Nat) : Int) && (((a.ep : Nat) : Int) == ((b.ep : Nat) : Int) && (a.key.toList == b.key.toList && (a.val.toList == b.val.toList && true)))))))) := rfl
  clear h1 h2 ma mb hsa hsb hn1 hn2 oa ob HINJ
  generalize beqB a b = eqab at *
  rw [BV.agg] at HL1 HE1
  rw [BV.agg] at HL2 HE2
  rw [BV.agg, BV.agg]
  obtain ⟨cl, kd, id, ver, ep, key, val⟩ := a
  obtain ⟨cl', kd', id', ver', ep', key', val'⟩ := b
  simp only at *
  obtain ⟨c0, c1, c2, c3, c4, c5, c6⟩ := HNa1.out.cells
  obtain ⟨d0, d1, d2, d3, d4, d5, d6⟩ := HNb.out.cells
  go_enter Try.func10, Try.ntmps10
  go_wp2_with fail
  refine (HL1.out _).mono ?_
  rintro e w2 ⟨rfl, hb⟩
  have HB2 : Hid (Below p w w2) := HB1.out.trans (hb.mono (HP.out ▸ HB1.out.size))
  have HNa2 := Lib.hid (HNa1.out.below hb HNa1.out.lt)
  have HNb2 := Lib.hid (HNb.out.below hb HNb.out.lt)
  clear hb c0 c1 c2 c3 c4 c5 c6 d0 d1 d2 d3 d4 d5 d6
  obtain ⟨c0, c1, c2, c3, c4, c5, c6⟩ := HNa2.out.cells
  obtain ⟨d0, d1, d2, d3, d4, d5, d6⟩ := HNb2.out.cells
  go_wp2_with fail
  refine (HL2.out _).mono ?_
  rintro e w3 ⟨rfl, hb⟩
  have HB3 : Hid (Below p w w3) := HB2.out.trans (hb.mono (HP.out ▸ HB2.out.size))
  have HNa3 := Lib.hid (HNa2.out.below hb HNa2.out.lt)
  have HNb3 := Lib.hid (HNb2.out.below hb HNb2.out.lt)
  clear hb c0 c1 c2 c3 c4 c5 c6 d0 d1 d2 d3 d4 d5 d6
  obtain ⟨c0, c1, c2, c3, c4, c5, c6⟩ := HNa3.out.cells
  obtain ⟨d0, d1, d2, d3, d4, d5, d6⟩ := HNb3.out.cells
  go_wp2_with fail
  refine (HE1.out _).mono ?_
  rintro e w4 ⟨VA, rfl, hown, hb⟩
  obtain ⟨gVA, capVA, rfl, hcapVA, hgpVA, hglVA, hrow⟩ := own_form hown HLBVA.out.1 HLBVA.out.2
  have HRVA := Lib.hid hrow
  clear hown hrow
  have HB4 : Hid (Below p w w4) := HB3.out.trans (hb.mono (HP.out ▸ HB3.out.size))
  have HNa4 := Lib.hid (HNa3.out.below hb HNa3.out.lt)
  have HNb4 := Lib.hid (HNb3.out.below hb HNb3.out.lt)
  clear hb c0 c1 c2 c3 c4 c5 c6 d0 d1 d2 d3 d4 d5 d6
  obtain ⟨c0, c1, c2, c3, c4, c5, c6⟩ := HNa4.out.cells
  obtain ⟨d0, d1, d2, d3, d4, d5, d6⟩ := HNb4.out.cells
  go_wp2_with fail
  refine (HE2.out _).mono ?_
  rintro e w5 ⟨VB, rfl, hown, hb⟩
  have HX45 := Lib.hid hb
  obtain ⟨gVB, capVB, rfl, hcapVB, hgpVB, hglVB, hrow⟩ := own_form hown HLBVB.out.1 HLBVB.out.2
  have HRVB := Lib.hid hrow
  clear hown hrow
  have HB5 : Hid (Below p w w5) := HB4.out.trans (hb.mono (HP.out ▸ HB4.out.size))
  have HNa5 := Lib.hid (HNa4.out.below hb HNa4.out.lt)
  have HNb5 := Lib.hid (HNb4.out.below hb HNb4.out.lt)
  clear hb c0 c1 c2 c3 c4 c5 c6 d0 d1 d2 d3 d4 d5 d6
  obtain ⟨c0, c1, c2, c3, c4, c5, c6⟩ := HNa5.out.cells
  obtain ⟨d0, d1, d2, d3, d4, d5, d6⟩ := HNb5.out.cells
  have HRA5 := Lib.hid (HRVA.out.below (HX45.out))
  have HSM := Lib.hid (HSAME.out w5.drew gVA gVB capVA capVB HRA5.out HRVB.out)
  rcases (Classical.em (cl = cl')).symm with hne | hne
  · have hn : (cl == cl') = false := by simpa using hne
    obtain rfl : eqab = false := by rw [HPARTS.out, hn]; simp
    clear HPARTS
    go_wp2_with fail
    go_region_held3 (fun w' => w'.cell? ⟨p, 0, none⟩ = some (.int .i64 cl) ∧ w'.cell? ⟨p, 1, none⟩ = some (.int .i64 kd) ∧ w'.cell? ⟨p, 2, none⟩ = some (.int .u64 (id : Nat)) ∧ w'.cell? ⟨p, 3, none⟩ = some (.int .u64 (ver : Nat)) ∧ w'.cell? ⟨p, 4, none⟩ = some (.int .u64 (ep : Nat)) ∧ w'.cell? ⟨p, 5, none⟩ = some (.string key) ∧ w'.cell? ⟨p, 6, none⟩ = some (.string val) ∧ w'.cell? ⟨q, 0, none⟩ = some (.int .i64 cl') ∧ w'.cell? ⟨q, 1, none⟩ = some (.int .i64 kd') ∧ w'.cell? ⟨q, 2, none⟩ = some (.int .u64 (id' : Nat)) ∧ w'.cell? ⟨q, 3, none⟩ = some (.int .u64 (ver' : Nat)) ∧ w'.cell? ⟨q, 4, none⟩ = some (.int .u64 (ep' : Nat)) ∧ w'.cell? ⟨q, 5, none⟩ = some (.string key') ∧ w'.cell? ⟨q, 6, none⟩ = some (.string val')) (go_keep)
      (first
        | (go_at_call 17; refine (HSM.out).mono ?_; rintro e w6 ⟨rfl, rfl⟩)
        | (go_at_call 14; refine (HAW.out _).mono ?_; rintro e w7 ⟨rfl, hb⟩; have HB7 : Hid (Below p w w7) := HB5.out.drew.trans (hb.mono (HP.out ▸ HB5.out.size)); obtain ⟨e0, e1, e2, e3, e4, e5, e6⟩ := (Box.below (w := w5.drew) HNa5.out hb HNa5.out.lt).cells; obtain ⟨f0, f1, f2, f3, f4, f5, f6⟩ := (Box.below (w := w5.drew) HNb5.out hb HNb5.out.lt).cells; clear hb))
    go_wp2
    go_ret
    exact ⟨rfl, by rw [HP.out]; exact HB7.out⟩
  · subst hne
    rcases (Classical.em (kd = kd')).symm with hne | hne
    · have hn : (kd == kd') = false := by simpa using hne
      obtain rfl : eqab = false := by rw [HPARTS.out, hn]; simp
      clear HPARTS
      go_wp2_with fail
      go_region_held3 (fun w' => w'.cell? ⟨p, 0, none⟩ = some (.int .i64 cl) ∧ w'.cell? ⟨p, 1, none⟩ = some (.int .i64 kd) ∧ w'.cell? ⟨p, 2, none⟩ = some (.int .u64 (id : Nat)) ∧ w'.cell? ⟨p, 3, none⟩ = some (.int .u64 (ver : Nat)) ∧ w'.cell? ⟨p, 4, none⟩ = some (.int .u64 (ep : Nat)) ∧ w'.cell? ⟨p, 5, none⟩ = some (.string key) ∧ w'.cell? ⟨p, 6, none⟩ = some (.string val) ∧ w'.cell? ⟨q, 0, none⟩ = some (.int .i64 cl) ∧ w'.cell? ⟨q, 1, none⟩ = some (.int .i64 kd') ∧ w'.cell? ⟨q, 2, none⟩ = some (.int .u64 (id' : Nat)) ∧ w'.cell? ⟨q, 3, none⟩ = some (.int .u64 (ver' : Nat)) ∧ w'.cell? ⟨q, 4, none⟩ = some (.int .u64 (ep' : Nat)) ∧ w'.cell? ⟨q, 5, none⟩ = some (.string key') ∧ w'.cell? ⟨q, 6, none⟩ = some (.string val')) (go_keep)
        (first
          | (go_at_call 17; refine (HSM.out).mono ?_; rintro e w6 ⟨rfl, rfl⟩)
          | (go_at_call 14; refine (HAW.out _).mono ?_; rintro e w7 ⟨rfl, hb⟩; have HB7 : Hid (Below p w w7) := HB5.out.drew.trans (hb.mono (HP.out ▸ HB5.out.size)); obtain ⟨e0, e1, e2, e3, e4, e5, e6⟩ := (Box.below (w := w5.drew) HNa5.out hb HNa5.out.lt).cells; obtain ⟨f0, f1, f2, f3, f4, f5, f6⟩ := (Box.below (w := w5.drew) HNb5.out hb HNb5.out.lt).cells; clear hb))
      go_wp2
      go_ret
      exact ⟨rfl, by rw [HP.out]; exact HB7.out⟩
    · subst hne
      rcases (Classical.em (id = id')).symm with hne | hne
      · have hn : ((((id : Nat) : Int)) == ((id' : Nat) : Int)) = false := by simp; omega
        obtain rfl : eqab = false := by rw [HPARTS.out, hn]; simp
        clear HPARTS
        go_wp2_with fail
        go_region_held3 (fun w' => w'.cell? ⟨p, 0, none⟩ = some (.int .i64 cl) ∧ w'.cell? ⟨p, 1, none⟩ = some (.int .i64 kd) ∧ w'.cell? ⟨p, 2, none⟩ = some (.int .u64 (id : Nat)) ∧ w'.cell? ⟨p, 3, none⟩ = some (.int .u64 (ver : Nat)) ∧ w'.cell? ⟨p, 4, none⟩ = some (.int .u64 (ep : Nat)) ∧ w'.cell? ⟨p, 5, none⟩ = some (.string key) ∧ w'.cell? ⟨p, 6, none⟩ = some (.string val) ∧ w'.cell? ⟨q, 0, none⟩ = some (.int .i64 cl) ∧ w'.cell? ⟨q, 1, none⟩ = some (.int .i64 kd) ∧ w'.cell? ⟨q, 2, none⟩ = some (.int .u64 (id' : Nat)) ∧ w'.cell? ⟨q, 3, none⟩ = some (.int .u64 (ver' : Nat)) ∧ w'.cell? ⟨q, 4, none⟩ = some (.int .u64 (ep' : Nat)) ∧ w'.cell? ⟨q, 5, none⟩ = some (.string key') ∧ w'.cell? ⟨q, 6, none⟩ = some (.string val')) (go_keep)
          (first
            | (go_at_call 17; refine (HSM.out).mono ?_; rintro e w6 ⟨rfl, rfl⟩)
            | (go_at_call 14; refine (HAW.out _).mono ?_; rintro e w7 ⟨rfl, hb⟩; have HB7 : Hid (Below p w w7) := HB5.out.drew.trans (hb.mono (HP.out ▸ HB5.out.size)); obtain ⟨e0, e1, e2, e3, e4, e5, e6⟩ := (Box.below (w := w5.drew) HNa5.out hb HNa5.out.lt).cells; obtain ⟨f0, f1, f2, f3, f4, f5, f6⟩ := (Box.below (w := w5.drew) HNb5.out hb HNb5.out.lt).cells; clear hb))
        go_wp2
        go_ret
        exact ⟨rfl, by rw [HP.out]; exact HB7.out⟩
      · subst hne
        rcases (Classical.em (ver = ver')).symm with hne | hne
        · have hn : ((((ver : Nat) : Int)) == ((ver' : Nat) : Int)) = false := by simp; omega
          obtain rfl : eqab = false := by rw [HPARTS.out, hn]; simp
          clear HPARTS
          go_wp2_with fail
          go_region_held3 (fun w' => w'.cell? ⟨p, 0, none⟩ = some (.int .i64 cl) ∧ w'.cell? ⟨p, 1, none⟩ = some (.int .i64 kd) ∧ w'.cell? ⟨p, 2, none⟩ = some (.int .u64 (id : Nat)) ∧ w'.cell? ⟨p, 3, none⟩ = some (.int .u64 (ver : Nat)) ∧ w'.cell? ⟨p, 4, none⟩ = some (.int .u64 (ep : Nat)) ∧ w'.cell? ⟨p, 5, none⟩ = some (.string key) ∧ w'.cell? ⟨p, 6, none⟩ = some (.string val) ∧ w'.cell? ⟨q, 0, none⟩ = some (.int .i64 cl) ∧ w'.cell? ⟨q, 1, none⟩ = some (.int .i64 kd) ∧ w'.cell? ⟨q, 2, none⟩ = some (.int .u64 (id : Nat)) ∧ w'.cell? ⟨q, 3, none⟩ = some (.int .u64 (ver' : Nat)) ∧ w'.cell? ⟨q, 4, none⟩ = some (.int .u64 (ep' : Nat)) ∧ w'.cell? ⟨q, 5, none⟩ = some (.string key') ∧ w'.cell? ⟨q, 6, none⟩ = some (.string val')) (go_keep)
            (first
              | (go_at_call 17; refine (HSM.out).mono ?_; rintro e w6 ⟨rfl, rfl⟩)
              | (go_at_call 14; refine (HAW.out _).mono ?_; rintro e w7 ⟨rfl, hb⟩; have HB7 : Hid (Below p w w7) := HB5.out.drew.trans (hb.mono (HP.out ▸ HB5.out.size)); obtain ⟨e0, e1, e2, e3, e4, e5, e6⟩ := (Box.below (w := w5.drew) HNa5.out hb HNa5.out.lt).cells; obtain ⟨f0, f1, f2, f3, f4, f5, f6⟩ := (Box.below (w := w5.drew) HNb5.out hb HNb5.out.lt).cells; clear hb))
          go_wp2
          go_ret
          exact ⟨rfl, by rw [HP.out]; exact HB7.out⟩
        · subst hne
          rcases (Classical.em (ep = ep')).symm with hne | hne
          · have hn : ((((ep : Nat) : Int)) == ((ep' : Nat) : Int)) = false := by simp; omega
            obtain rfl : eqab = false := by rw [HPARTS.out, hn]; simp
            clear HPARTS
            go_wp2_with fail
            go_region_held3 (fun w' => w'.cell? ⟨p, 0, none⟩ = some (.int .i64 cl) ∧ w'.cell? ⟨p, 1, none⟩ = some (.int .i64 kd) ∧ w'.cell? ⟨p, 2, none⟩ = some (.int .u64 (id : Nat)) ∧ w'.cell? ⟨p, 3, none⟩ = some (.int .u64 (ver : Nat)) ∧ w'.cell? ⟨p, 4, none⟩ = some (.int .u64 (ep : Nat)) ∧ w'.cell? ⟨p, 5, none⟩ = some (.string key) ∧ w'.cell? ⟨p, 6, none⟩ = some (.string val) ∧ w'.cell? ⟨q, 0, none⟩ = some (.int .i64 cl) ∧ w'.cell? ⟨q, 1, none⟩ = some (.int .i64 kd) ∧ w'.cell? ⟨q, 2, none⟩ = some (.int .u64 (id : Nat)) ∧ w'.cell? ⟨q, 3, none⟩ = some (.int .u64 (ver : Nat)) ∧ w'.cell? ⟨q, 4, none⟩ = some (.int .u64 (ep' : Nat)) ∧ w'.cell? ⟨q, 5, none⟩ = some (.string key') ∧ w'.cell? ⟨q, 6, none⟩ = some (.string val')) (go_keep)
              (first
                | (go_at_call 17; refine (HSM.out).mono ?_; rintro e w6 ⟨rfl, rfl⟩)
                | (go_at_call 14; refine (HAW.out _).mono ?_; rintro e w7 ⟨rfl, hb⟩; have HB7 : Hid (Below p w w7) := HB5.out.drew.trans (hb.mono (HP.out ▸ HB5.out.size)); obtain ⟨e0, e1, e2, e3, e4, e5, e6⟩ := (Box.below (w := w5.drew) HNa5.out hb HNa5.out.lt).cells; obtain ⟨f0, f1, f2, f3, f4, f5, f6⟩ := (Box.below (w := w5.drew) HNb5.out hb HNb5.out.lt).cells; clear hb))
            go_wp2
            go_ret
            exact ⟨rfl, by rw [HP.out]; exact HB7.out⟩
          · subst hne
            rcases (Classical.em (key = key')).symm with hne | hne
            · have hn : (key.toList == key'.toList) = false := by rw [beq_eq_false_iff_ne]; exact fun e => hne (list_inj e)
              have hn2 : ¬ key.toList = key'.toList := fun e => hne (list_inj e)
              obtain rfl : eqab = false := by rw [HPARTS.out, hn]; simp
              clear HPARTS
              go_wp2_with fail
              go_region_held3 (fun w' => w'.cell? ⟨p, 0, none⟩ = some (.int .i64 cl) ∧ w'.cell? ⟨p, 1, none⟩ = some (.int .i64 kd) ∧ w'.cell? ⟨p, 2, none⟩ = some (.int .u64 (id : Nat)) ∧ w'.cell? ⟨p, 3, none⟩ = some (.int .u64 (ver : Nat)) ∧ w'.cell? ⟨p, 4, none⟩ = some (.int .u64 (ep : Nat)) ∧ w'.cell? ⟨p, 5, none⟩ = some (.string key) ∧ w'.cell? ⟨p, 6, none⟩ = some (.string val) ∧ w'.cell? ⟨q, 0, none⟩ = some (.int .i64 cl) ∧ w'.cell? ⟨q, 1, none⟩ = some (.int .i64 kd) ∧ w'.cell? ⟨q, 2, none⟩ = some (.int .u64 (id : Nat)) ∧ w'.cell? ⟨q, 3, none⟩ = some (.int .u64 (ver : Nat)) ∧ w'.cell? ⟨q, 4, none⟩ = some (.int .u64 (ep : Nat)) ∧ w'.cell? ⟨q, 5, none⟩ = some (.string key') ∧ w'.cell? ⟨q, 6, none⟩ = some (.string val')) (go_keep)
                (first
                  | (go_at_call 17; refine (HSM.out).mono ?_; rintro e w6 ⟨rfl, rfl⟩)
                  | (go_at_call 14; refine (HAW.out _).mono ?_; rintro e w7 ⟨rfl, hb⟩; have HB7 : Hid (Below p w w7) := HB5.out.drew.trans (hb.mono (HP.out ▸ HB5.out.size)); obtain ⟨e0, e1, e2, e3, e4, e5, e6⟩ := (Box.below (w := w5.drew) HNa5.out hb HNa5.out.lt).cells; obtain ⟨f0, f1, f2, f3, f4, f5, f6⟩ := (Box.below (w := w5.drew) HNb5.out hb HNb5.out.lt).cells; clear hb))
              go_wp2
              go_ret
              exact ⟨rfl, by rw [HP.out]; exact HB7.out⟩
            · subst hne
              rcases (Classical.em (val = val')).symm with hne | hne
              · have hn : (val.toList == val'.toList) = false := by rw [beq_eq_false_iff_ne]; exact fun e => hne (list_inj e)
                have hn2 : ¬ val.toList = val'.toList := fun e => hne (list_inj e)
                obtain rfl : eqab = false := by rw [HPARTS.out, hn]; simp
                clear HPARTS
                go_wp2_with fail
                go_region_held3 (fun w' => w'.cell? ⟨p, 0, none⟩ = some (.int .i64 cl) ∧ w'.cell? ⟨p, 1, none⟩ = some (.int .i64 kd) ∧ w'.cell? ⟨p, 2, none⟩ = some (.int .u64 (id : Nat)) ∧ w'.cell? ⟨p, 3, none⟩ = some (.int .u64 (ver : Nat)) ∧ w'.cell? ⟨p, 4, none⟩ = some (.int .u64 (ep : Nat)) ∧ w'.cell? ⟨p, 5, none⟩ = some (.string key) ∧ w'.cell? ⟨p, 6, none⟩ = some (.string val) ∧ w'.cell? ⟨q, 0, none⟩ = some (.int .i64 cl) ∧ w'.cell? ⟨q, 1, none⟩ = some (.int .i64 kd) ∧ w'.cell? ⟨q, 2, none⟩ = some (.int .u64 (id : Nat)) ∧ w'.cell? ⟨q, 3, none⟩ = some (.int .u64 (ver : Nat)) ∧ w'.cell? ⟨q, 4, none⟩ = some (.int .u64 (ep : Nat)) ∧ w'.cell? ⟨q, 5, none⟩ = some (.string key) ∧ w'.cell? ⟨q, 6, none⟩ = some (.string val')) (go_keep)
                  (first
                    | (go_at_call 17; refine (HSM.out).mono ?_; rintro e w6 ⟨rfl, rfl⟩)
                    | (go_at_call 14; refine (HAW.out _).mono ?_; rintro e w7 ⟨rfl, hb⟩; have HB7 : Hid (Below p w w7) := HB5.out.drew.trans (hb.mono (HP.out ▸ HB5.out.size)); obtain ⟨e0, e1, e2, e3, e4, e5, e6⟩ := (Box.below (w := w5.drew) HNa5.out hb HNa5.out.lt).cells; obtain ⟨f0, f1, f2, f3, f4, f5, f6⟩ := (Box.below (w := w5.drew) HNb5.out hb HNb5.out.lt).cells; clear hb))
                go_wp2
                go_ret
                exact ⟨rfl, by rw [HP.out]; exact HB7.out⟩
              · subst hne
                obtain rfl : eqab = true := by rw [HPARTS.out]; simp
                clear HPARTS
                go_wp2_with fail
                go_region_held3 (fun w' => w'.cell? ⟨p, 0, none⟩ = some (.int .i64 cl) ∧ w'.cell? ⟨p, 1, none⟩ = some (.int .i64 kd) ∧ w'.cell? ⟨p, 2, none⟩ = some (.int .u64 (id : Nat)) ∧ w'.cell? ⟨p, 3, none⟩ = some (.int .u64 (ver : Nat)) ∧ w'.cell? ⟨p, 4, none⟩ = some (.int .u64 (ep : Nat)) ∧ w'.cell? ⟨p, 5, none⟩ = some (.string key) ∧ w'.cell? ⟨p, 6, none⟩ = some (.string val) ∧ w'.cell? ⟨q, 0, none⟩ = some (.int .i64 cl) ∧ w'.cell? ⟨q, 1, none⟩ = some (.int .i64 kd) ∧ w'.cell? ⟨q, 2, none⟩ = some (.int .u64 (id : Nat)) ∧ w'.cell? ⟨q, 3, none⟩ = some (.int .u64 (ver : Nat)) ∧ w'.cell? ⟨q, 4, none⟩ = some (.int .u64 (ep : Nat)) ∧ w'.cell? ⟨q, 5, none⟩ = some (.string key) ∧ w'.cell? ⟨q, 6, none⟩ = some (.string val)) (go_keep)
                  (first
                    | (go_at_call 17; refine (HSM.out).mono ?_; rintro e w6 ⟨rfl, rfl⟩)
                    | (go_at_call 14; refine (HAW.out _).mono ?_; rintro e w7 ⟨rfl, hb⟩; have HB7 : Hid (Below p w w7) := HB5.out.drew.trans (hb.mono (HP.out ▸ HB5.out.size)); obtain ⟨e0, e1, e2, e3, e4, e5, e6⟩ := (Box.below (w := w5.drew) HNa5.out hb HNa5.out.lt).cells; obtain ⟨f0, f1, f2, f3, f4, f5, f6⟩ := (Box.below (w := w5.drew) HNb5.out hb HNb5.out.lt).cells; clear hb))
                go_wp2
                go_ret
                exact ⟨rfl, by rw [HP.out]; exact HB7.out⟩
theorem walk (a b : BV) (w : World) (oa : a.ok) (ob : b.ok) :
    Calls Try.prog 10 #[a.agg, b.agg] w fun e w' => e = .returned (.bool true) ∧ Below w.heap.size w w' := by
  cases h1 : longB a with
  | true => exact walk_l1 a b w h1
  | false =>
    cases h2 : longB b with
    | true => exact walk_l2 a b w h1 h2
    | false =>
      cases ma : mayB a <;> cases mb : mayB b
      · exact walk_n12 a b w h1 h2 ma mb
      · exact walk_n1 a b w ob h1 h2 ma mb
      · exact walk_n2 a b w oa h1 h2 ma mb
      · exact walk_good a b w oa ob h1 h2 ma mb

set_option maxRecDepth 100000 in
theorem lifted (os : Os) (started : os.Started) (H : Type) (enc : TypeId × Value → H) :
    ReturnsInHanded {} Try.checked os 10 .any (Rows.blockApartSpec.pre6 enc Try.prog Try.f10 Rows.blockApartRow.domain false) (Rows.blockApartSpec.post enc Try.prog Try.f10 false true false false) := by
  refine returnsInHanded_of_change (C := Try.checked) own started (by kernel_rfl) Try.func10
    (ChangeSpec.witness6 (enc := enc) (C := Try.checked) false ⟨#[], #[.agg #[.int .i64 0, .int .i64 0, .int .u64 0, .int .u64 0, .int .u64 0, .string ⟨#[]⟩, .string ⟨#[]⟩], .agg #[.int .i64 0, .int .i64 0, .int .u64 0, .int .u64 0, .int .u64 0, .string ⟨#[]⟩, .string ⟨#[]⟩]], []⟩ 8 (by kernel_rfl) (by kernel_rfl) (by kernel_rfl) (by kernel_rfl)) ?_
  intro W base args ds gs before hval0 hW hcnd _
  have hval : ∀ (j : Nat) t v, Try.f10.params[j]? = some t → args[j]? = some v → Value.okWide Try.prog W .any base t v := hval0
  have hW' := hW
  obtain ⟨p, q, hA0, hV, rfl, hfz, hnd⟩ := hW
  have hA : DataW.TrodAll enc Try.prog W 0 (fun _ => true) true Try.f10.params.toList args.toList ds p := hA0
  rw [Try.params10] at hA hval
  obtain ⟨v0, vs0, d0, ds0, p0, q0, hargs, rfl, rfl, h0, r0⟩ := trodAll_cons hA
  obtain ⟨v1, vs1, d1, ds1, p1, q1, rfl, rfl, rfl, h1, r1⟩ := trodAll_cons r0
  obtain ⟨rfl, rfl, rfl⟩ := trodAll_nil r1
  obtain rfl : args = #[v0, v1] := by cases args; simp_all
  obtain ⟨rfl, rfl⟩ := trodVars_none hV
  obtain ⟨z0, rfl, w0⟩ := isBlock_of (hval 0 24 v0 rfl rfl) h0
  have k0 := h0
  have lt0 : ∀ x ∈ p0, x.block < W.heap.size := by obtain ⟨m, hm⟩ := k0; exact DataW.trod_lt m _ _ _ hm
  obtain ⟨z1, rfl, w1⟩ := isBlock_of (hval 1 24 v1 rfl rfl) h1
  have k1 := h1
  have lt1 : ∀ x ∈ p1, x.block < W.heap.size := by obtain ⟨m, hm⟩ := k1; exact DataW.trod_lt m _ _ _ hm
  clear hA0 hval0
  refine (walk z0 z1 W w0 w1).mono fun e W' ⟨he, bel⟩ => ?_
  subst he
  exact ⟨_, rfl, _, _, _, [], _, [], hW', trodAll_mk1 (shut_bool Try.underlying4 _), (trodAll_cons_mk (Below.trod laidOut (by kernel_rfl) (of_decide_eq_true (by kernel_rfl)) k0 bel lt0) (trodAll_cons_mk (Below.trod laidOut (by kernel_rfl) (of_decide_eq_true (by kernel_rfl)) k1 bel lt1) trodAll_mk0)), rfl, bel.frame _, fun h => by cases h⟩

theorem over : Rows.blockApartRow.holds Try.pinned (OpenSpec.ofChange Rows.blockApartSpec) :=
  OpenClaim.holds_of_wide 10 Try.f10 rfl rfl rfl rfl rfl rfl rfl ⟨rfl, rfl, rfl, rfl, rfl⟩ rfl rfl rfl rfl rfl (by kernel_rfl) Try.func10 (by kernel_rfl)
    (of_decide_eq_true (by kernel_rfl)) (by unfold Func.isWrapper; first | (rw [if_pos (by decide +kernel)]; kernel_rfl) | (rw [if_neg (by decide +kernel)]; exact ⟨rfl, rfl⟩))
    (fun os started H enc _ => lifted os started H enc)

theorem proved : Rows.BlockApartSaid := over
#print axioms proved
end Go.Proofs.Ytokobelmoanneaa.blockApart
