/-
  Proved here: what the table's keys hands back.
  Conditions: at most 2^20 links.
-/
import Derived.Test.YtjehklmbgldfpaaTabA
import Derived.Test.YtjehklmbgldfpaaSort12
import Derived.Sort.Walk0
namespace Go.Proofs.Ytjehklmbgldfpaa
open Go Go.RowKit
set_option maxRecDepth 100000

theorem str_info : ∃ i, Try.prog.info? 9 = some i ∧ i.zero = some (.string ⟨#[]⟩) ∧ i.size = 1 ∧ i.bytes = 16 := by
  obtain ⟨i, h1, h2⟩ := Option.map_eq_some_iff.1 (show (Try.prog.info? 9).map (fun i => (i.zero, i.size, i.bytes)) = some (some (.string ⟨#[]⟩), 1, 16) by kernel_rfl)
  simp only [Prod.mk.injEq] at h2
  exact ⟨i, h1, h2.1, h2.2.1, h2.2.2⟩
theorem keys_sorted {M : List Ln} (h : RisesK M) : (M.map Ln.k).mergeSort leB = M.map Ln.k := by
  refine List.mergeSort_of_pairwise ?_
  refine List.pairwise_map.2 (h.imp fun {a b} hab => ?_)
  show decide (a.k ≤ b.k) = true
  rw [Go.Proofs.bytesLess_eq] at hab
  simp only [decide_eq_true_eq] at hab ⊢
  exact List.le_of_lt hab
set_option maxRecDepth 100000 in
set_option maxHeartbeats 1600000 in
theorem tbkeys_map {w : World} {b : Nat} {M : List Ln} (h : MapL w b M) (hr : RisesK M) (hl : M.length ≤ 1048576) :
    Calls Try.prog 27 #[.map (some b)] w fun e w' => ∃ (g cap : Nat), e = .returned (.slice (some ⟨g, 0, none⟩) M.length cap) ∧
      w'.ownsRow w.heap.size 9 1 (.slice (some ⟨g, 0, none⟩) M.length cap) M.length ((M.map Ln.k).map encStr) ∧ Below w.heap.size w w' := by
  obtain ⟨i0, hi, hz0, hz1, hz2⟩ := str_info
  have hbl : b < w.heap.size := h.lt
  have hown : w.ownsMap Try.prog 9 linkE b M.length (Md M) := h
  have hsize : Maps.size (Md M) = M.length := md_size M
  have hsz2 := hsize
  have HSRT := Lib.hid (keys_sorted hr)
  go_enter Try.func27, Try.ntmps27
  go_wp2_with (first
    | (at_len; refine wpList_len_own _ rfl _ 48 rfl 9 33 Try.underlying48 linkE b M.length (Md M) rfl hown ?_)
    | (at_make; refine wpList_make_own _ rfl _ _ 54 rfl w.heap.size 9 i0 (.string ⟨#[]⟩) 1 Try.underlying54 hi hz0 hz1 _ _ _ (Maps.size (Md M)) rfl rfl rfl (by rw [hz2]; omega) (by unfold maxLen; omega) (Nat.le_refl _) ?_; intro w1 hrow1 hg1)
    | (at_range; refine wpList_range_own _ rfl _ 48 rfl 9 33 str_law Try.underlying48 linkE b M.length (Md M) rfl (hown.kept hg1 (by simp)) ?_; intro w0 hrg0 hg0 hs0))
  go_frame
  go_loopw [3] (fun v wr => ∃ (left : Lit → Bool) (cnt : Nat) (ss : List Ky), wr.ranges Try.prog 9 linkE b w1.heap.size M.length (Md M) left cnt ∧ ss.length + cnt ≤ Maps.size (Md M) ∧
      wr.ownsRow w.heap.size 9 1 v ss.length (ss.map encStr) ∧ v ≠ .slice none 0 0 ∧ Collected (Md M) left ss ∧ Below w.heap.size w wr)
    (fun _ wr => wr.rangeLeft b w1.heap.size)
  case atStart =>
    exact ⟨_, _, [], hrg0, by simp, (by have hk := hrow1.kept hg0 (Or.inr (by simp [Value.ownBlock])); rw [hsize] at hk; exact hk), by simp, Collected.start (Md M),
      ((Below.refl _ _).grown hg1 (Nat.le_refl _) (fun j hj => by cases hj)).grown hg0 hg1.size (fun j hj => by cases hj)⟩
  case round =>
    obtain ⟨left, cnt, ss, hrg, hcs, hrow, hnn, hC, hnx⟩ := hrel
    go_wp2_with (first
      | (at_next; refine wpList_next_ranges _ rfl _ rfl 9 str_law linkE encStr Ln.agg (fun key kl hk => by obtain ⟨x, hx, _⟩ := Maps.keyOf_str Try.underlying9 hk; exact ⟨x, hx⟩) (fun v y hv => by obtain ⟨c, rfl, _⟩ := linkE_inv hv; exact ⟨c, rfl⟩) b w1.heap.size M.length _ _ _ rfl hrg ?_ ?_))
    · intro hc0 hl0
      have hperm := hC.perm hown str_law Try.underlying9 hl0
      have hlen : ss.length = M.length := by rw [hperm.length_eq, md_keys]; simp
      have hsrt : ss.mergeSort leB = M.map Ln.k := by rw [mergeSort_of_perm hperm, md_keys]; exact HSRT.out
      rcases hrow.2 with ⟨hnil, _⟩ | ⟨g, cap, cur, rfl, hbase, hb, h1, h2, h3, h4⟩
      · exact absurd hnil hnn
      have hc := Lib.hid (sortS_own (n := ss.length) rfl hrow (by omega))
      rw [hsrt] at hc
      have HL := Lib.hid hlen
      have HNX := Lib.hid hnx
      have HBS := Lib.hid hbase
      clear hsz2 hsize hown h hr hl hcs hrow hC hnx hperm hsrt hb h1 h2 h3 h4 hlen hrg
      go_wp2_with (go_at_call 33; refine hc.out.mono ?_; rintro e w' ⟨rfl, hrw, hgw⟩)
      go_ret
      rw [← HL.out]
      exact ⟨g, cap, rfl, hrw, HNX.out.grown hgw HNX.out.size (fun j hj => by cases hj; exact HBS.out)⟩
    · intro x c kl yd yp w2 cnt2 hkey hlk hv hat hrg2 hlt hg2 hs2 hen
      obtain ⟨x', ex, rfl, _⟩ := Maps.keyOf_str Try.underlying9 hkey
      obtain rfl : x = x' := encStr_inj ex
      have hrow2 := hrow.kept hg2 (Or.inr (row_ne_iter hrow hrg).symm)
      clear hs2
      go_wp2_with (first
        | (at_builtin; refine wpList_append_own _ rfl _ _ 54 rfl w.heap.size 9 i0 (.string ⟨#[]⟩) 1 16 Try.underlying54 hi hz0 hz1 hz2 rfl (by decide) _ _ _ rfl (hrow2.alloc _) ⟨w2.heap.size, 0, none⟩ 1 1 [encStr x] rfl rfl (cell_one_new _ _ _) (by simp [Value.oneCell', encStr]) (by unfold maxLen at *; omega) (by omega) (by have := hnx.size; have := hg2.size; simp; omega) ?_; intro v' w3 hown' hg3 hnil3; go_frame))
      have hrg3 := (hrg2.alloc _).kept hg3 (row_ne_low hrow2 hbl) (row_ne_iter hrow2 hrg2)
      go_roundw
      case rel =>
        refine ⟨_, cnt2, ss ++ [x], hrg3, by simp; omega, by simpa using hown', fun hv' => by have := (hnil3.1 hv').2; omega, hC.step hlk hat, ?_⟩
        exact ((hnx.grown hg2 hnx.size (fun j hj => by cases hj; exact hg1.size)).alloc (by have := hnx.size; have := hg2.size; omega) _).grown hg3 (by have := hnx.size; have := hg2.size; simp; omega) (fun j hj => (hrow2.lt j hj).1)
      case measure => rw [hrg3.left_eq, hrg.left_eq]; exact hlt
set_option maxRecDepth 100000 in
set_option maxHeartbeats 800000 in
theorem tbkeys_nil (w : World) :
    Calls Try.prog 27 #[.map none] w fun e w' => ∃ (g cap : Nat), e = .returned (.slice (some ⟨g, 0, none⟩) 0 cap) ∧ w'.ownsRow w.heap.size 9 1 (.slice (some ⟨g, 0, none⟩) 0 cap) 0 [] ∧ Below w.heap.size w w' := by
  obtain ⟨i0, hi, hz0, hz1, hz2⟩ := str_info
  have hln : ∀ ty, (Builtin.len_ #[48] ty #[.map none]).run Try.prog w = .ok (.int .i64 0) w := fun ty => Maps.len_nil Try.underlying48 ty
  go_enter Try.func27, Try.ntmps27
  go_wp2_with (first
    | (at_make; refine wpList_make_own _ rfl _ _ 54 rfl w.heap.size 9 i0 (.string ⟨#[]⟩) 1 Try.underlying54 hi hz0 hz1 _ _ _ 0 rfl rfl rfl (by omega) (Nat.zero_le _) (Nat.le_refl _) ?_; intro w1 hrow1 hg1
       have hrg := run_range_nilMap (P := Try.prog) w1 48 9 33 Try.underlying48
       have hnx : ∀ ty, (Instr.next (.pointer (some ⟨w1.heap.size, 0, none⟩)) false ty).run Try.prog (w1.alloc (.mapIter none 0 #[] 0)) = _ := fun ty => run_next_nilMap _ ty 0 0 #[]))
  refine wp_loop_rounds 1 ?_
  rw [rounds_succ]
  have hrow2 := own_alloc hrow1 (.mapIter none 0 #[] 0)
  have hc := Lib.hid (sortS_own (ss := []) rfl hrow2 (by simp))
  rw [show ([] : List Ky).mergeSort leB = [] by simp] at hc
  have hgl := hrow1
  go_wp2_with (go_at_call 33; refine hc.out.mono ?_; rintro e w' ⟨rfl, hrw, hgw⟩)
  go_ret
  exact ⟨_, _, rfl, hrw, (((Below.refl _ _).grown hg1 (Nat.le_refl _) (fun j hj => by cases hj)).alloc hg1.size _).grown hgw (by have := hg1.size; simp; omega) (fun j hj => by cases hj; exact Nat.le_refl _)⟩
/-- What keys hands back: the keys, rising. -/
theorem tbkeys_any {w : World} {mb : Option Nat} {M : List Ln} (h : MapO w mb M) (hr : RisesK M) (hl : M.length ≤ 1048576) :
    Calls Try.prog 27 #[.map mb] w fun e w' => ∃ (g cap : Nat), e = .returned (.slice (some ⟨g, 0, none⟩) M.length cap) ∧
      w'.ownsRow w.heap.size 9 1 (.slice (some ⟨g, 0, none⟩) M.length cap) M.length ((M.map Ln.k).map encStr) ∧ Below w.heap.size w w' := by
  cases mb with
  | some b => exact tbkeys_map h hr hl
  | none =>
    obtain rfl : M = [] := h
    exact tbkeys_nil w

end Go.Proofs.Ytjehklmbgldfpaa
