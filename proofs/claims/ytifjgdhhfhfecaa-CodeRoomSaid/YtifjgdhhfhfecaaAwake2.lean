/-
  Proved here: the chapter's example, as the statements of chapter 2 ask it, is answered as the chapter says.
  Conditions: none.
-/
import Derived.Test.YtifjgdhhfhfecaaCode
namespace Go.Proofs.Ytifjgdhhfhfecaa
open Go.RowKit

set_option maxHeartbeats 800000 in
theorem awake_any (w : World) : Calls Try.prog 8 #[] w fun e w' => e = .returned (.bool true) ∧ Below w.heap.size w w' := by
  have HP : Hid (Calls Try.prog 10 #[.slice (some ⟨w.heap.size, 0, none⟩) 3 3, .int .i64 1, .int .i64 2, .int .u64 258] (w.alloc (.cells #[.int .u8 0, .int .u8 0, .int .u8 0] 5)) (PutTo (w.alloc (.cells #[.int .u8 0, .int .u8 0, .int .u8 0] 5)) 3 [0, 2, 1])) :=
    put_ok (some ⟨w.heap.size, 0, none⟩) 3 3 [0, 0, 0] rfl 1 2 258 (by omega) (by omega) (by omega) (by omega) (by decide) _ (row_lit w [0, 0, 0] (by decide))
  go_enter Try.func8, Try.ntmps8
  go_wp2_with fail
  refine HP.out.mono ?_
  rintro e w1 ⟨g, rfl, hg, hblk, hb1⟩
  have hb1' : Below w.heap.size w w1 := ((Below.refl _ _).alloc (Nat.le_refl _) _).trans (hb1.mono (by simp))
  have HB1 := Lib.hid hb1'
  have HG : Hid (Calls Try.prog 16 #[.slice (some ⟨w1.heap.size, 0, none⟩) 3 3, .int .i64 1, .int .i64 2] (w1.alloc (.cells #[.int .u8 0, .int .u8 2, .int .u8 1] 5)) (fun e w' => e = .returned (.tuple #[.int .u64 258, .int .i64 0]) ∧ (w1.alloc (.cells #[.int .u8 0, .int .u8 2, .int .u8 1] 5)) = w')) :=
    get_ok (some ⟨w1.heap.size, 0, none⟩) 3 3 [0, 2, 1] rfl 1 2 (by omega) (by omega) (by omega) _ (row_lit w1 [0, 2, 1] (by decide))
  have HBK := Lib.hid hblk
  clear hb1' hblk hb1 hg
  go_wp2_with fail
  refine HG.out.mono ?_
  rintro e w' ⟨rfl, rfl⟩
  obtain ⟨w2, hw2⟩ : ∃ w2, w1.alloc (.cells #[.int .u8 0, .int .u8 2, .int .u8 1] 5) = w2 := ⟨_, rfl⟩
  have hb2 : Below w1.heap.size w1 w2 := hw2 ▸ (Below.refl _ _).alloc (Nat.le_refl _) _
  rw [hw2]
  have hblk2 : Blk w2 g (enc [0, 2, 1]) := Blk.below HBK.out hb2 (Blk.lt HBK.out)
  have hb3 : Below w2.heap.size w2 (w2.alloc (.cells #[.int .u8 0, .int .u8 2, .int .u8 1] 5)) := (Below.refl _ _).alloc (Nat.le_refl _) _
  have HS : Hid (Calls Try.prog 12 #[.slice (some ⟨g, 0, none⟩) 3 3, .slice (some ⟨w2.heap.size, 0, none⟩) 3 3] (w2.alloc (.cells #[.int .u8 0, .int .u8 2, .int .u8 1] 5)) (fun e w' => e = .returned (.bool true) ∧ (w2.alloc (.cells #[.int .u8 0, .int .u8 2, .int .u8 1] 5)) = w')) :=
    same_any _ (some ⟨g, 0, none⟩) (some ⟨w2.heap.size, 0, none⟩) 3 3 3 3 [0, 2, 1] [0, 2, 1] rfl rfl ((Blk.below hblk2 hb3 (Blk.lt hblk2)).row (by decide)) (row_lit w2 [0, 2, 1] (by decide))
  have HB := Lib.hid ((HB1.out.trans (hb2.mono HB1.out.size)).trans (hb3.mono (Nat.le_trans HB1.out.size hb2.size)))
  clear hw2 hb2 hblk2 hb3
  go_wp2_with fail
  refine HS.out.mono ?_
  rintro e w' ⟨rfl, rfl⟩
  go_wp2
  go_ret
  exact ⟨rfl, HB.out⟩
end Go.Proofs.Ytifjgdhhfhfecaa
