/-
  Proved here: what package nvm's Lines and Counts answer, of no device and of one; what Copy answers of none; how a count is read and stored.
  Conditions: a device of at most 258 lines.
-/
import Derived.Test.YtgfbehdnmdmnhaaNvmF
import Derived.Laws.LoneSync
import Derived.StillTailTactics
import Derived.WalkSmall
namespace Go.Proofs.Ytgfbehdnmdmnhaa
open Go Go.RowKit

theorem load64 (a : Addr) (x : Int) (w : World) (hc : w.cell? a = some (.int .i64 x)) : (callFunc 59 #[.pointer (some a)]).run Try.prog w = .ok (.value (.int .i64 x)) w :=
  run_call_load Try.func59 (by kernel_rfl) (by kernel_rfl) (by kernel_rfl) .i64 (by kernel_rfl) hc
theorem store64 (a : Addr) (y : Int) (u : Value) (w : World) (hc : w.cell? a = some u) (hz : w.frozen? a = false) : (callFunc 58 #[.pointer (some a), .int .i64 y]).run Try.prog w = .ok (.value (.tuple #[])) (w.setCell a (.int .i64 y)) :=
  run_call_store Try.func58 (by kernel_rfl) (by kernel_rfl) (by kernel_rfl) (by kernel_rfl) hc hz
set_option maxHeartbeats 400000 in
theorem aload_ok (b o : Nat) (x : Int) (w : World) (hc : w.cell? ⟨b, o, none⟩ = some (.int .i64 x)) : Calls Try.prog 36 #[.pointer (some ⟨b, o, none⟩)] w fun e w' => e = .returned (.int .i64 x) ∧ w = w' := by
  have h1 := load64 ⟨b, o, none⟩ x w hc
  clear hc
  go_enter Try.func36, Try.ntmps36
  go_wp2
  go_ret
  exact ⟨rfl, rfl⟩
set_option maxHeartbeats 400000 in
theorem astore_ok (b o : Nat) (y : Int) (u : Value) (w : World) (hc : w.cell? ⟨b, o, none⟩ = some u) (hz : w.frozen? ⟨b, o, none⟩ = false) : Calls Try.prog 35 #[.pointer (some ⟨b, o, none⟩), .int .i64 y] w fun e w' => e = .returned (.tuple #[]) ∧ w' = w.setCell ⟨b, o, none⟩ (.int .i64 y) := by
  have h1 := store64 ⟨b, o, none⟩ y u w hc hz
  obtain ⟨w1, hw⟩ : ∃ w1, w.setCell ⟨b, o, none⟩ (.int .i64 y) = w1 := ⟨_, rfl⟩
  rw [hw] at h1 ⊢
  clear hc hz hw
  go_enter Try.func35, Try.ntmps35
  go_wp2
  refine bodyPost_end (results_none rfl _ _ _) rfl ?_
  exact ⟨rfl, rfl⟩
set_option maxHeartbeats 400000 in
theorem lin_nil (w : World) : Calls Try.prog 31 #[.pointer none] w fun e w' => e = .returned (.int .i64 0) ∧ w = w' := by
  go_enter Try.func31, Try.ntmps31
  go_wp2
  go_ret
  exact ⟨rfl, rfl⟩
set_option maxHeartbeats 400000 in
theorem lin_ok {w : World} {p q : Nat} {st : List Cl} {cs : List Int} (h : DvP w p q st cs) : Calls Try.prog 31 #[.pointer (some ⟨p, 0, none⟩)] w fun e w' => e = .returned (.int .i64 st.length) ∧ w = w' := by
  obtain ⟨cap, hc, _⟩ := h.slice
  obtain ⟨n, hn'⟩ : ∃ n, st.length = n := ⟨_, rfl⟩
  rw [hn'] at hc ⊢
  clear h hn'
  go_enter Try.func31, Try.ntmps31
  go_wp2
  go_ret
  exact ⟨rfl, rfl⟩
def aggI (cs : List Int) : Value := .agg (encI cs).toArray
set_option maxHeartbeats 400000 in
theorem counts_nil (w : World) : Calls Try.prog 32 #[.pointer none] w fun e w' => e = .returned (aggI [0, 0, 0, 0, 0]) ∧ Below w.heap.size w w' := by
  go_enter Try.func32, Try.ntmps32
  go_wp2
  refine bodyPost_ret (v := .agg #[.int .i64 0, .int .i64 0, .int .i64 0, .int .i64 0, .int .i64 0]) (by simp [results, Try.results32, go_sem]) rfl ⟨rfl, ?_⟩
  exact ((Below.refl _ _).alloc (Nat.le_refl _) _)
set_option maxHeartbeats 400000 in
theorem copy_nil (w : World) : Calls Try.prog 15 #[.pointer none] w fun e w' => e = .returned (.pointer none) ∧ w = w' := by
  go_enter Try.func15, Try.ntmps15
  go_wp2
  go_ret
  exact ⟨rfl, rfl⟩
theorem aload' (b o : Nat) (x : Int) (w : World) (hc : w.cell? ⟨b, o, none⟩ = some (.int .i64 x)) : Calls Try.prog 36 #[.pointer (some ⟨b, o, none⟩)] w fun e w' => e = .returned (.int .i64 x) ∧ w' = w := (aload_ok b o x w hc).mono fun _ _ ⟨he, hw⟩ => ⟨he, hw.symm⟩
theorem five_of {cs : List Int} (h : cs.length = 5) : ∃ a b c d e, cs = [a, b, c, d, e] := by
  match cs, h with
  | [a, b, c, d, e], _ => exact ⟨a, b, c, d, e, rfl⟩
theorem zero_counts : (Try.prog.info? 59).bind (·.zero) = some (.agg (encI [0, 0, 0, 0, 0]).toArray) := by kernel_rfl
theorem size_counts : (Try.prog.info? 59).map (·.size) = some 5 := by kernel_rfl
set_option maxHeartbeats 800000 in
set_option maxRecDepth 100000 in
theorem counts_ok {w : World} {p q : Nat} {st : List Cl} {cs : List Int} (h : DvP w p q st cs) : Calls Try.prog 32 #[.pointer (some ⟨p, 0, none⟩)] w fun e w' => e = .returned (aggI cs) ∧ Below w.heap.size w w' := by
  obtain ⟨a, b, c, d, e, rfl⟩ := five_of h.five
  have h0 := (h.count 0 (by decide)).1
  have h1 := (h.count 1 (by decide)).1
  have h2 := (h.count 2 (by decide)).1
  have h3 := (h.count 3 (by decide)).1
  have h4 := (h.count 4 (by decide)).1
  have hp := h.lt_p
  simp only [List.getD, List.getElem?_cons_zero, List.getElem?_cons_succ, Option.getD_some, Nat.zero_add, Nat.reduceAdd] at h0 h1 h2 h3 h4
  have HALL : Hid (w.cell? ⟨p, 1, none⟩ = some (.int .i64 a) ∧ w.cell? ⟨p, 2, none⟩ = some (.int .i64 b) ∧ w.cell? ⟨p, 3, none⟩ = some (.int .i64 c) ∧ w.cell? ⟨p, 4, none⟩ = some (.int .i64 d) ∧ w.cell? ⟨p, 5, none⟩ = some (.int .i64 e)) := ⟨h0, h1, h2, h3, h4⟩
  have HZ := Lib.hid zero_counts
  obtain ⟨g, hg⟩ : ∃ g, w.heap.size = g := ⟨_, rfl⟩
  have HG := Lib.hid hg
  rw [hg] at hp
  clear h h0 h1 h2 h3 h4 hg
  go_enter Try.func32, Try.ntmps32
  go_wp2_with (first
    | ((with_reducible show wpList _ _ _ (⟨some 2, _, _, _, _, _⟩ :: _) _ _); refine wpList_alloc_var (o := ⟨some 2, _, _, _, _, _⟩) rfl 59 rfl g HG.out _ HZ.out ?_; intro w1 HA1 HB1))
  obtain ⟨h0, h1, h2, h3, h4⟩ := HALL.out
  have k0 := (HB1.out.cell (p := ⟨p, 1, none⟩) hp).trans h0
  have k1 := (HB1.out.cell (p := ⟨p, 2, none⟩) hp).trans h1
  have k2 := (HB1.out.cell (p := ⟨p, 3, none⟩) hp).trans h2
  have k3 := (HB1.out.cell (p := ⟨p, 4, none⟩) hp).trans h3
  have k4 := (HB1.out.cell (p := ⟨p, 5, none⟩) hp).trans h4
  clear h0 h1 h2 h3 h4
  refine wp_region_still_tail 21 (by kernel_rfl) (by kernel_rfl) ?_
  change wpStill _ _ w1.drew _ _ _
  simp only [List.take_succ_cons, List.take_zero, List.drop_succ_cons, List.drop_zero]
  iterate 3 still_step
  still_call (aload' p 1 a w1.drew k0)
  iterate 3 still_step
  still_call (aload' p 2 b w1.drew k1)
  iterate 3 still_step
  still_call (aload' p 3 c w1.drew k2)
  iterate 3 still_step
  still_call (aload' p 4 d w1.drew k3)
  iterate 3 still_step
  still_call (aload' p 5 e w1.drew k4)
  iterate 1 still_step
  refine wpStill_nil ?_
  refine wpList_store_whole (o := ⟨none, .store 59 (.tmp 2) (.tmp 26), _, _, _, _⟩) rfl _ _ _ rfl rfl g (encI [a, b, c, d, e]).toArray rfl rfl 59 (encI [0, 0, 0, 0, 0]).toArray HA1.out size_counts rfl (all_oneCell_toArray encI_one) ?_
  intro w2 HA2 HB2
  go_wp2
  have hA2 := HA2.out
  have m0 : w2.cell? ⟨g, 0, none⟩ = some (.int .i64 a) := by simp [World.cell?, hA2, encI]
  have m1 : w2.cell? ⟨g, 1, none⟩ = some (.int .i64 b) := by simp [World.cell?, hA2, encI]
  have m2 : w2.cell? ⟨g, 2, none⟩ = some (.int .i64 c) := by simp [World.cell?, hA2, encI]
  have m3 : w2.cell? ⟨g, 3, none⟩ = some (.int .i64 d) := by simp [World.cell?, hA2, encI]
  have m4 : w2.cell? ⟨g, 4, none⟩ = some (.int .i64 e) := by simp [World.cell?, hA2, encI]
  clear hA2
  refine bodyPost_ret (v := .agg #[.int .i64 a, .int .i64 b, .int .i64 c, .int .i64 d, .int .i64 e]) (by simp [results, Try.results32, go_sem, m0, m1, m2, m3, m4]) rfl ⟨rfl, ?_⟩
  rw [HG.out]
  exact HB1.out.drew.trans HB2.out

end Go.Proofs.Ytgfbehdnmdmnhaa
