/-
  Proved here: what the statements' own awake answers and leaves.
  Conditions: none.
-/
import Derived.Test.YtfonjkbdonbjdaaTwo10
import Derived.Deep.RegionWith
namespace Go.Proofs.Ytfonjkbdonbjdaa
open Go Go.RowKit

set_option maxHeartbeats 1600000 in
set_option maxRecDepth 100000 in
theorem awake_any (w : World) : Calls Try.prog 8 #[] w fun e w' => e = .returned (.bool true) ∧ Below w.heap.size w w' := by
  have HN := Lib.hid (bgnew_any w)
  have HR := Lib.hid (fun w1 => rdnew_ok 1 (by omega) (by omega) w1)
  unfold MadeRd at HR
  obtain ⟨g, hg⟩ : ∃ g, w.heap.size = g := ⟨_, rfl⟩
  have HG := Lib.hid hg
  rw [hg] at HN ⊢
  have HZ := Lib.hid zero_entry
  have HP1 : Hid (∀ w1 p q rp rq, Br w g w1 p q [] rp rq [0] 1 → Calls Try.prog 18 #[.pointer (some ⟨p, 0, none⟩), .agg #[.int .i64 2, .int .i64 0, .int .u64 1, .int .u64 3, .int .i64 (-1)]] w1 fun x w' => x = .returned (.int .i64 0) ∧ BgTo w1 p g q [plainE 1 3] w') := fun w1 p q rp rq h => bgput_any h.bg h.gw (plainE 1 3)
  have HP2 : Hid (∀ w1 p q rp rq, Br w g w1 p q [plainE 1 3] rp rq [0] 1 → Calls Try.prog 18 #[.pointer (some ⟨p, 0, none⟩), .agg #[.int .i64 2, .int .i64 0, .int .u64 2, .int .u64 2, .int .i64 (-1)]] w1 fun x w' => x = .returned (.int .i64 0) ∧ BgTo w1 p g q [plainE 1 3, plainE 2 2] w') := fun w1 p q rp rq h => bgput_any h.bg h.gw (plainE 2 2)
  have HL : Hid (∀ w1 p q rp rq, Br w g w1 p q [plainE 1 3, plainE 2 2] rp rq [0] 1 → Calls Try.prog 15 #[.pointer (some ⟨p, 0, none⟩)] w1 fun x w' => x = .returned (.int .i64 2) ∧ w1 = w') := fun w1 p q rp rq h => bglen_any h.bg
  have HRD : Hid (∀ w1 p q rp rq, Br w g w1 p q [plainE 1 3, plainE 2 2] rp rq [0] 1 → Calls Try.prog 17 #[.pointer (some ⟨p, 0, none⟩), .pointer (some ⟨rp, 0, none⟩), .int .u64 2] w1 fun x w' => x = .returned (.tuple #[.agg #[.int .i64 2, .int .i64 0, .int .u64 2, .int .u64 2, .int .i64 (-1)], .bool true]) ∧ Below w1.heap.size w1 w') := fun w1 p q rp rq h => bgready_bag h.bg h.rd 2
  have HA : Hid (∀ w1, Calls Try.prog 24 #[.int .u64 1, .int .u64 3] w1 fun y w' => y = .returned (.agg #[.int .i64 2, .int .i64 0, .int .u64 1, .int .u64 3, .int .i64 (-1)]) ∧ Below w1.heap.size w1 w') := fun w1 => plain_any 1 3 w1
  have HB : Hid (∀ w1, Calls Try.prog 24 #[.int .u64 2, .int .u64 2] w1 fun y w' => y = .returned (.agg #[.int .i64 2, .int .i64 0, .int .u64 2, .int .u64 2, .int .i64 (-1)]) ∧ Below w1.heap.size w1 w') := fun w1 => plain_any 2 2 w1
  have hgu := guard_entry
  clear hg
  go_enter Try.func8, Try.ntmps8
  go_wp2_with fail
  refine HN.out.mono ?_
  rintro e w1 ⟨rfl, hb1, hl1⟩
  have HB1 := Lib.hid hb1
  have HL1 := Lib.hid hl1
  clear hb1 hl1
  go_wp2_with fail
  refine (HR.out w1).mono ?_
  rintro e w2 ⟨rp, rq, rfl, hrp, hrq, hr, hb2⟩
  have HB2 := Lib.hid (br_new HG.out HB1.out HL1.out hrp hrq hr hb2)
  clear hrp hrq hr hb2
  go_wp2_with fail
  refine (HA.out w2).mono ?_
  rintro e w3 ⟨rfl, hb3⟩
  have HB3 := Lib.hid (HB2.out.below hb3)
  clear hb3
  go_wp2_with fail
  refine (HP1.out _ _ _ _ _ HB3.out).mono ?_
  rintro e w4 ⟨rfl, hb4⟩
  obtain ⟨q4, hb4⟩ := HB3.out.moved hb4
  have HB4 := Lib.hid hb4
  clear hb4
  go_wp2_with fail
  refine (HB.out w4).mono ?_
  rintro e w5 ⟨rfl, hb5⟩
  have HB5 := Lib.hid (HB4.out.below hb5)
  clear hb5
  go_wp2_with fail
  refine (HP2.out _ _ _ _ _ HB5.out).mono ?_
  rintro e w6 ⟨rfl, hb6⟩
  obtain ⟨q6, hb6⟩ := HB5.out.moved hb6
  have HB6 := Lib.hid hb6
  clear hb6
  go_wp2_with fail
  refine (HL.out _ _ _ _ _ HB6.out).mono ?_
  rintro e w7 ⟨rfl, rfl⟩
  go_wp2_with fail
  refine (HRD.out _ _ _ _ _ HB6.out).mono ?_
  rintro e w8 ⟨rfl, hb8⟩
  have HB8 := Lib.hid (HB6.out.below hb8)
  obtain ⟨g8, hg8⟩ : ∃ g8, w8.heap.size = g8 := ⟨_, rfl⟩
  have HG8 := Lib.hid hg8
  clear hb8 hg8
  go_wp2_with (first
    | ((with_reducible show wpList _ _ _ (⟨some 4, .alloc _, _, _, _, _⟩ :: _) _ _); refine wpList_alloc_var (o := ⟨some 4, _, _, _, _, _⟩) rfl 40 rfl g8 HG8.out _ HZ.out ?_; intro x1 H1 X1)
    | ((with_reducible show wpList _ _ _ (⟨none, .store _ _ _, _, _, _, _⟩ :: _) _ _); refine wpList_store_whole (o := ⟨none, .store 40 (.tmp 4) (.tmp 38), _, _, _, _⟩) rfl _ _ _ rfl rfl g8 #[.int .i64 2, .int .i64 0, .int .u64 2, .int .u64 2, .int .i64 (-1)] rfl rfl 40 _ H1.out size_entry rfl (ones5 _ _ _ _ _) ?_; intro x5 H5 X5; obtain ⟨c0, c1, c2, c3, c4⟩ := cells5 H5.out)
    | fail)
  have HX : Hid (Below g w x5) := HB8.out.bel.trans ((X1.out.trans X5.out).mono (by have := HG8.out; have := HB8.out.gw; omega))
  have HLT := Lib.hid (lt_of_heap H5.out)
  have HH5 := Lib.hid H5.out
  have HBX := Lib.hid (HB.out x5.drew)
  clear H5 X1 X5 H1
  go_region_with ((first
    | (go_at_call 24; refine HBX.out.mono ?_; rintro e v8 ⟨rfl, hb8⟩; have HV8 : Hid (Below g w v8) := HX.out.trans ((Below.refl _ _).drew.trans (hb8.mono (by have := HX.out.size; have := HG.out; show g ≤ x5.heap.size; omega))); obtain ⟨d0, d1, d2, d3, d4⟩ := cells5 ((hb8.block g8 HLT.out).trans HH5.out); clear hb8)))
  all_goals
    go_wp2
    go_ret
    exact ⟨rfl, HV8.out⟩

end Go.Proofs.Ytfonjkbdonbjdaa
