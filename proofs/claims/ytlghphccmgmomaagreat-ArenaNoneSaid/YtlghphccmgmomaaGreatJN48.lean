/-
  Proved here, joined: Nil16, Acc16
  Conditions: as each part says.
-/
import Derived.Test.YtlghphccmgmomaaGreatJN31
import Derived.Test.YtlghphccmgmomaaGreatJN19
import Derived.Test.YtlghphccmgmomaaGreatJN35

/-
  Proved here: the calls of no arena.
  Conditions: none.
-/
namespace Go.Proofs.YtlghphccmgmomaaGreat
open Go Go.RowKit
set_option maxRecDepth 100000

theorem arpublish_nil (t e : Int) (A : Option Addr) (n c : Nat) (w : World) : Calls Tryz.prog 4 #[.pointer none, .int .i64 t, .int .u64 e, .slice A n c] w fun x w' => x = .returned (.tuple #[.slice none 0 0, .int .i64 1]) ∧ Below w.heap.size w w' := by
  go_enter Tryz.func4, Tryz.ntmps4
  go_wp2
  go_ret2
  exact ⟨rfl, Below.refl _ _⟩
theorem arnumbers_nil (w : World) : Calls Tryz.prog 6 #[.pointer none] w fun x w' => x = .returned (.tuple #[.int .u64 0, .int .u64 0]) ∧ Below w.heap.size w w' := by
  go_enter Tryz.func6, Tryz.ntmps6
  go_wp2
  go_ret2
  exact ⟨rfl, Below.refl _ _⟩
theorem areffects_nil (w : World) : Calls Tryz.prog 16 #[.pointer none] w fun x w' => x = .returned (.slice none 0 0) ∧ Below w.heap.size w w' := by
  go_enter Tryz.func16, Tryz.ntmps16
  go_wp2
  go_ret
  exact ⟨rfl, Below.refl _ _⟩
theorem rooms_info : (Tryz.prog.info? 64).map (fun i => (i.zero, i.size)) = some (some (.agg #[.slice none 0 0, .slice none 0 0, .slice none 0 0, .slice none 0 0, .slice none 0 0]), 5) := by kernel_rfl
theorem zero_rooms : (Tryz.prog.info? 64).bind (·.zero) = some (.agg #[.slice none 0 0, .slice none 0 0, .slice none 0 0, .slice none 0 0, .slice none 0 0]) := by
  obtain ⟨i, h1, h2⟩ := Option.map_eq_some_iff.1 rooms_info
  simp only [Prod.mk.injEq] at h2
  rw [h1]
  exact h2.1
theorem size_rooms : (Tryz.prog.info? 64).map (·.size) = some 5 := by
  obtain ⟨i, h1, h2⟩ := Option.map_eq_some_iff.1 rooms_info
  simp only [Prod.mk.injEq] at h2
  rw [h1]
  simp [h2.2]
theorem arrelease_nil (w : World) : Calls Tryz.prog 5 #[.pointer none] w fun x w' => x = .returned (.tuple #[.agg #[.int .i64 0, .int .i64 0, .int .u64 0, .int .u64 0, .int .i64 0], .int .i64 1]) ∧ Below w.heap.size w w' := by
  obtain ⟨g, hg⟩ : ∃ g, w.heap.size = g := ⟨_, rfl⟩
  have HG := Lib.hid hg
  have HZ := Lib.hid zero_entry
  rw [hg]
  clear hg
  go_enter Tryz.func5, Tryz.ntmps5
  go_wp2_with (first
    | ((with_reducible show wpList _ _ _ (⟨some 2, .alloc _, _, _, _, _⟩ :: _) _ _); refine wpList_alloc_var (o := ⟨some 2, _, _, _, _, _⟩) rfl 34 rfl g HG.out _ HZ.out ?_; intro v1 H1 B1)
    | ((with_reducible show wpList _ _ _ (⟨none, .store _ (.tmp 2) _, _, _, _, _⟩ :: _) _ _); refine wpList_store_whole (o := ⟨none, .store 34 (.tmp 2) (.tmp 8), _, _, _, _⟩) rfl _ _ _ rfl rfl g #[.int .i64 0, .int .i64 0, .int .u64 0, .int .u64 0, .int .i64 0] rfl rfl 34 _ H1.out size_entry rfl (by decide +kernel) ?_; intro v2 H2 B2)
    | fail)
  refine bodyPost_ret (results_vt (cs := [.int .i64 0, .int .i64 0, .int .u64 0, .int .u64 0, .int .i64 0]) rfl Tryz.underlying34 rfl rfl H2.out size_entry) rfl ⟨rfl, B1.out.trans B2.out⟩
theorem arshelf_nil (w : World) : Calls Tryz.prog 7 #[.pointer none] w fun x w' => x = .returned (.agg #[.slice none 0 0, .slice none 0 0]) ∧ Below w.heap.size w w' := by
  obtain ⟨g, hg⟩ : ∃ g, w.heap.size = g := ⟨_, rfl⟩
  have HG := Lib.hid hg
  have HZ := Lib.hid zero_shelf
  rw [hg]
  clear hg
  go_enter Tryz.func7, Tryz.ntmps7
  go_wp2_with (first
    | ((with_reducible show wpList _ _ _ (⟨some 2, .alloc _, _, _, _, _⟩ :: _) _ _); refine wpList_alloc_var (o := ⟨some 2, _, _, _, _, _⟩) rfl 42 rfl g HG.out _ HZ.out ?_; intro v1 H1 B1)
    | ((with_reducible show wpList _ _ _ (⟨none, .store _ (.tmp 2) _, _, _, _, _⟩ :: _) _ _); refine wpList_store_whole (o := ⟨none, .store 42 (.tmp 2) (.tmp 14), _, _, _, _⟩) rfl _ _ _ rfl rfl g #[.slice none 0 0, .slice none 0 0] rfl rfl 42 _ H1.out size_shelf rfl (by decide +kernel) ?_; intro v2 H2 B2)
    | fail)
  refine bodyPost_ret (results_v1 (cs := [.slice none 0 0, .slice none 0 0]) rfl Tryz.underlying42 rfl H2.out size_shelf) rfl ⟨rfl, B1.out.trans B2.out⟩
theorem arrooms_nil (A : Option Addr) (n c : Nat) (w : World) : Calls Tryz.prog 17 #[.pointer none, .slice A n c] w fun x w' => x = .returned (.agg #[.slice none 0 0, .slice none 0 0, .slice none 0 0, .slice none 0 0, .slice none 0 0]) ∧ Below w.heap.size w w' := by
  obtain ⟨g, hg⟩ : ∃ g, w.heap.size = g := ⟨_, rfl⟩
  have HG := Lib.hid hg
  have HZ := Lib.hid zero_rooms
  rw [hg]
  clear hg
  go_enter Tryz.func17, Tryz.ntmps17
  go_wp2_with (first
    | ((with_reducible show wpList _ _ _ (⟨some 4, .alloc _, _, _, _, _⟩ :: _) _ _); refine wpList_alloc_var (o := ⟨some 4, _, _, _, _, _⟩) rfl 64 rfl g HG.out _ HZ.out ?_; intro v1 H1 B1)
    | ((with_reducible show wpList _ _ _ (⟨none, .store _ (.tmp 4) _, _, _, _, _⟩ :: _) _ _); refine wpList_store_whole (o := ⟨none, .store 64 (.tmp 4) (.tmp 7), _, _, _, _⟩) rfl _ _ _ rfl rfl g #[.slice none 0 0, .slice none 0 0, .slice none 0 0, .slice none 0 0, .slice none 0 0] rfl rfl 64 _ H1.out size_rooms rfl (by decide +kernel) ?_; intro v2 H2 B2)
    | fail)
  refine bodyPost_ret (results_v1 (cs := [.slice none 0 0, .slice none 0 0, .slice none 0 0, .slice none 0 0, .slice none 0 0]) rfl Tryz.underlying64 rfl H2.out size_rooms) rfl ⟨rfl, B1.out.trans B2.out⟩

end Go.Proofs.YtlghphccmgmomaaGreat

/-
  Proved here: an arena's parts as it shows them; of none, none.
  Conditions: none.
-/
namespace Go.Proofs.YtlghphccmgmomaaGreat
open Go Go.RowKit
set_option maxRecDepth 100000

open Classical
section
variable {b : Nat} {w w' : World} {col : Nat → Nat} {z : Pz} {s : Az}
theorem ardev_nil (w : World) : Calls Tryz.prog 8 #[.pointer none] w fun e w' => e = .returned (.pointer none) ∧ w = w' := by
  go_enter Tryz.func8, Tryz.ntmps8
  go_wp2
  go_ret
  exact ⟨rfl, rfl⟩
theorem arpool_get (h : Ar b w col z s) : Calls Tryz.prog 9 #[.pointer (some ⟨z.ap, 0, none⟩)] w fun e w' => e = .returned (.pointer (some ⟨z.pp, 0, none⟩)) ∧ w = w' := by
  obtain ⟨-, a4, -, -, -, -, -, -, -⟩ := h.at_
  generalize z.ap = ap at *
  generalize z.pp = q at *
  clear h
  go_enter Tryz.func9, Tryz.ntmps9
  go_wp2
  go_ret
  exact ⟨rfl, rfl⟩
theorem arpool_nil (w : World) : Calls Tryz.prog 9 #[.pointer none] w fun e w' => e = .returned (.pointer none) ∧ w = w' := by
  go_enter Tryz.func9, Tryz.ntmps9
  go_wp2
  go_ret
  exact ⟨rfl, rfl⟩
theorem arreaders_nil (w : World) : Calls Tryz.prog 10 #[.pointer none] w fun e w' => e = .returned (.pointer none) ∧ w = w' := by
  go_enter Tryz.func10, Tryz.ntmps10
  go_wp2
  go_ret
  exact ⟨rfl, rfl⟩
theorem arclock_nil (w : World) : Calls Tryz.prog 11 #[.pointer none] w fun e w' => e = .returned (.pointer none) ∧ w = w' := by
  go_enter Tryz.func11, Tryz.ntmps11
  go_wp2
  go_ret
  exact ⟨rfl, rfl⟩
theorem arbag_nil (w : World) : Calls Tryz.prog 12 #[.pointer none] w fun e w' => e = .returned (.pointer none) ∧ w = w' := by
  go_enter Tryz.func12, Tryz.ntmps12
  go_wp2
  go_ret
  exact ⟨rfl, rfl⟩
theorem artable_nil (w : World) : Calls Tryz.prog 13 #[.pointer none] w fun e w' => e = .returned (.pointer none) ∧ w = w' := by
  go_enter Tryz.func13, Tryz.ntmps13
  go_wp2
  go_ret
  exact ⟨rfl, rfl⟩
theorem arorder_nil (w : World) : Calls Tryz.prog 14 #[.pointer none] w fun e w' => e = .returned (.pointer none) ∧ w = w' := by
  go_enter Tryz.func14, Tryz.ntmps14
  go_wp2
  go_ret
  exact ⟨rfl, rfl⟩
theorem arline_nil (w : World) : Calls Tryz.prog 15 #[.pointer none] w fun e w' => e = .returned (.pointer none) ∧ w = w' := by
  go_enter Tryz.func15, Tryz.ntmps15
  go_wp2
  go_ret
  exact ⟨rfl, rfl⟩
end

end Go.Proofs.YtlghphccmgmomaaGreat
