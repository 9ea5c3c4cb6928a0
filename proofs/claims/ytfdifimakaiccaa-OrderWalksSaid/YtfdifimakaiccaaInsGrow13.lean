/-
  Proved here: what slices.Insert leaves of a row of links that has no room, where the link goes ahead of others.
  Conditions: less than 2^20 links.
-/
import Derived.Test.YtfdifimakaiccaaInsRoom13
import Derived.Lib.AppendZerosOnto
import Derived.Laws.NewBlocks
namespace Go.Proofs.Ytfdifimakaiccaa
open Go Go.RowKit
set_option maxRecDepth 100000

set_option maxHeartbeats 1600000 in
set_option maxRecDepth 100000 in
theorem insert_grow {w : World} {g n : Nat} {l : List Ln} (hn : l.length = n) (hown : w.ownsRow 0 33 5 (.slice (some ⟨g, 0, none⟩) n n) n (encL l)) (hl : n < 1048576) {x : Ln} {vb : Nat} (hx : w.heap[vb]? = some (.cells #[.string x.str, .int .u64 (x.id : Nat), .int .u64 (x.ver : Nat), .int .i64 x.line, .int .i64 x.cl] 33 (0, 0)))
    (i : Nat) (hi : i < n) :
    Calls Try.prog 24 #[.slice (some ⟨g, 0, none⟩) n n, .int .i64 (i : Int), .slice (some ⟨vb, 0, none⟩) 1 1] w (InsTo (l.take i ++ x :: l.drop i) (.slice (some ⟨g, 0, none⟩) n n) w) := by
  obtain ⟨inf, hinf, hz, hs5, hby⟩ := link_info'
  obtain ⟨cur, hb1, hb2, hb3, hb4, hb5⟩ := own_block hown
  have hcell : ∀ j u, (encL l)[j]? = some u → w.cell? ⟨g, j, none⟩ = some u := fun j u hu => by
    have := hown.cells (g := g) rfl j u hu
    rwa [add_plain, Nat.zero_add] at this
  have hdl : (encL (l.drop i)).length = (n - i) * 5 := by rw [encL_len, List.length_drop, hn]
  have htl : (encL (l.take i)).length = i * 5 := by rw [encL_len, List.length_take, hn]; omega
  have hik : i + (n + 1 - i) = n + 1 := by omega
  have hkk : (n : Int) + 1 - (i : Int) = ((n + 1 - i : Nat) : Int) := by omega
  obtain ⟨N, hN⟩ : ∃ N, w.heap.size = N := ⟨_, rfl⟩
  obtain ⟨G, hG⟩ : ∃ G, grownCap w (n + 1) n 33 = G := ⟨_, rfl⟩
  have hGn : n + 1 ≤ G := by rw [← hG]; exact grownCap_ge w _ _ _
  have hGm : G ≤ maxLen := by rw [← hG]; exact grownCap_le_maxLen w (n + 1) n _ (by unfold maxLen; omega)
  have hold : (Builtin.firstCells inf.size i (.slice (some ⟨g, 0, none⟩) i n)).run Try.prog w.drew = .ok (encL (l.take i)).toArray w.drew := by
    rw [hs5]
    exact run_firstCells_some w.drew 5 i ⟨g, 0, none⟩ i n (encL (l.take i)) htl (fun j u hj => by
      rw [add_plain, Nat.zero_add]
      have hj5 : j < i * 5 := by rw [← htl]; exact (List.getElem?_eq_some_iff.1 hj).1
      rw [← encL_take, List.getElem?_take_of_lt hj5] at hj
      exact hcell j u hj)
  obtain ⟨ROW, hROW⟩ : ∃ ROW : Array Value, (encL (l.take i)).toArray ++ Builtin.zeroCells (Value.agg #[.string ⟨#[]⟩, .int .u64 0, .int .u64 0, .int .i64 0, .int .i64 0]).cells (n + 1 - i) ++ Builtin.zeroCells (Value.agg #[.string ⟨#[]⟩, .int .u64 0, .int .u64 0, .int .i64 0, .int .i64 0]).cells (G - (n + 1)) = ROW := ⟨_, rfl⟩
  have hRs : ROW.size = G * 5 := by
    have h5 : (Value.agg #[.string ⟨#[]⟩, .int .u64 0, .int .u64 0, .int .i64 0, .int .i64 0]).cells.size = 5 := by kernel_rfl
    rw [← hROW, Array.size_append, Array.size_append, size_zeroCells, size_zeroCells, h5]
    simp only [List.size_toArray, htl]
    omega
  have hRt : ROW.toList.take (i * 5) = encL (l.take i) := by
    rw [← hROW, Array.toList_append, Array.toList_append, List.append_assoc, ← htl]
    exact List.take_left
  obtain ⟨W0, hW0⟩ : ∃ W0, w.drew.alloc (.cells ROW 33) = W0 := ⟨_, rfl⟩
  have hrz : ∀ ty, (Builtin.append_ #[28, 3] ty #[.slice (some ⟨g, 0, none⟩) i n, .int .i64 ((n : Int) + 1 - (i : Int))]).run Try.prog w = .ok (.slice (some ⟨N, 0, none⟩) (n + 1) G) W0 := fun ty => by
    have h := Lib.run_append_grow_zeros w 28 3 ty 33 inf _ .i64 .i64 Try.underlying28 Try.underlying3 hinf hz (some ⟨g, 0, none⟩) i n (encL (l.take i)) hold (n + 1 - i) (by omega) (by omega) (by omega) (by omega) (by rw [hby]; omega) (by rw [hby, hik]; exact growslice_fits (by omega) (by omega))
    rw [hik, hG, hROW, hW0, hN] at h
    rw [hkk]
    exact h
  have hb0 : W0.heap[N]? = some (.cells ROW 33 (0, 0)) := by rw [← hW0, ← hN]; exact heap_alloc_new w.drew _
  have hold0 : ∀ k, k < N → W0.heap[k]? = w.heap[k]? := fun k hk => by rw [← hW0]; exact Below.heap_alloc w.drew _ k (by show k < w.heap.size; omega)
  have hW0g : Below N w W0 := by rw [← hW0, ← hN]; exact (Below.refl _ _).drew.alloc (Nat.le_refl _) _
  have hxl : x.cells.length = 5 := rfl
  obtain ⟨W1, hW1⟩ : ∃ W1, W0.setCells N (i * 5) x.cells = W1 := ⟨_, rfl⟩
  obtain ⟨cur1, q1, q2, q3⟩ := heap_setCells 33 N x.cells (i * 5) W0 ROW hb0 (by rw [hRs]; show i * 5 + 5 ≤ _; omega)
  have hgN : g < N := hN ▸ lt_of_heap hb1
  have hvN : vb < N := hN ▸ lt_of_heap hx
  have hx0 : W0.heap[vb]? = some (.cells #[.string x.str, .int .u64 (x.id : Nat), .int .u64 (x.ver : Nat), .int .i64 x.line, .int .i64 x.cl] 33 (0, 0)) := (hold0 vb hvN).trans hx
  have hcpA : ∀ ty dc, (Builtin.copy_ #[28, 28] ty #[.slice (some ⟨N, i * 5, none⟩) (n + 1 - i) dc, .slice (some ⟨vb, 0, none⟩) 1 1]).run Try.prog W0 = .ok (goInt (Nat.min 1 (n + 1 - i) : Nat)) W1 := fun ty dc => by
    rw [← hW1]
    exact run_copyL W0 ty N (i * 5) (n + 1 - i) dc ⟨vb, 0, none⟩ 1 1 x.cells ROW hb0 (by rw [hxl]; simp only [Nat.min_def]; split <;> omega)
      (fun j u hu => by
        rw [add_plain]
        have hj : j < 5 := (List.getElem?_eq_some_iff.1 hu).1
        have := RowL.cells_at (w := W0) (b := vb) (off := 0) (l := [x]) (row_oneL hx0) j u (by rw [encL_cons]; rw [List.getElem?_append_left (by omega)]; exact hu)
        exact (by rw [Nat.zero_add] at this ⊢; exact this)) (by rw [hRs]; show i * 5 + 5 ≤ _; omega) (cells_one x)
  rw [hW1] at q1
  have hW1k : ∀ k, k < N → W1.heap[k]? = w.heap[k]? := fun k hk => by rw [← hW1, setCells_other N _ _ _ k (by omega)]; exact hold0 k hk
  have hcell1 : ∀ j u, (encL l)[j]? = some u → W1.drew.cell? ⟨g, j, none⟩ = some u := fun j u hu => by
    have h1 := hcell j u hu
    rw [← h1]
    exact World.cell?_of_block (w := w) (a := ⟨g, j, none⟩) (hW1k g hgN)
  have hcpB : ∀ ty dc sc, (Builtin.copy_ #[28, 28] ty #[.slice (some ⟨N, (i + 1) * 5, none⟩) (n - i) dc, .slice (some ⟨g, i * 5, none⟩) (n - i) sc]).run Try.prog W1.drew = .ok (goInt (Nat.min (n - i) (n - i) : Nat)) (W1.drew.setCells N ((i + 1) * 5) (encL (l.drop i))) := fun ty dc sc =>
    run_copyL W1.drew ty N ((i + 1) * 5) (n - i) dc ⟨g, i * 5, none⟩ (n - i) sc (encL (l.drop i)) cur1 q1 (by rw [hdl]; simp only [Nat.min_def]; split <;> omega)
      (fun j u hu => by
        rw [add_plain]
        rw [← encL_drop, List.getElem?_drop] at hu
        exact hcell1 _ u hu) (by rw [q3, hRs]; omega) encL_one
  obtain ⟨cur2, r1, r2, r3⟩ := heap_setCells 33 N (encL (l.drop i)) ((i + 1) * 5) W1.drew cur1 q1 (by rw [q3, hRs]; omega)
  have hlen : (l.take i ++ x :: l.drop i).length = n + 1 := by simp; omega
  have hFIN : InsTo (l.take i ++ x :: l.drop i) (.slice (some ⟨g, 0, none⟩) n n) w (.returned (.slice (some ⟨N, 0, none⟩) (n + 1) G)) (W1.drew.setCells N ((i + 1) * 5) (encL (l.drop i))) := by
    refine ⟨_, rfl, ?_, ?_, fun k hk => .inr (by cases hk; exact Nat.le_of_eq hN)⟩
    · rw [hlen]
      refine block_own r1 hGn hGm (by rw [r3, q3, hRs]) ?_
      have hcl1 : cur1.toList.length = G * 5 := by rw [Array.length_toList, q3, hRs]
      have hRl : ROW.toList.length = G * 5 := by rw [Array.length_toList, hRs]
      have ht2 : cur1.toList.take ((i + 1) * 5) = encL (l.take i) ++ x.cells := by
        rw [q2, hRt]
        have : (encL (l.take i) ++ x.cells).length = (i + 1) * 5 := by rw [List.length_append, htl, hxl]; omega
        rw [← this]
        exact List.take_left
      rw [r2, ht2]
      have : encL (l.take i) ++ x.cells ++ encL (l.drop i) = encL (l.take i ++ x :: l.drop i) := by
        rw [← encL_append, encL_cons]
        simp
      rw [this, ← hlen]
      exact take_encL _ _
    · have h1 := setCells_rest N x.cells (i * 5) W0
      rw [hW1] at h1
      have h2 := setCells_rest N (encL (l.drop i)) ((i + 1) * 5) W1.drew
      refine ⟨h2.1.trans (h1.1.trans hW0g.os), h2.2.1.trans (h1.2.1.trans hW0g.tape), h2.2.2.1.trans (h1.2.2.1.trans hW0g.output), ?_, fun k hk hne => ?_⟩
      · rw [h2.2.2.2]; show _ ≤ W1.heap.size; rw [h1.2.2.2]; exact hW0g.size
      · rw [setCells_other N _ _ _ k (by omega)]
        exact hW1k k (by omega)
  obtain ⟨R, hR⟩ : ∃ R, InsTo (l.take i ++ x :: l.drop i) (.slice (some ⟨g, 0, none⟩) n n) w = R := ⟨_, rfl⟩
  rw [hR] at hFIN ⊢
  have HFIN := Lib.hid hFIN
  have HRZ := Lib.hid hrz
  have HCA := Lib.hid hcpA
  have HCB := Lib.hid hcpB
  have hmx : n ≤ 9223372036854775807 := hb3
  have hGx : G ≤ 9223372036854775807 := hGm
  have hne1 : ((i : Int) == (n : Int)) = false := by simp; omega
  have hw1 : IntKind.i64.wrap ((i : Int) + 1) = (i : Int) + 1 := by rw [IntKind.wrap_i64]; omega
  have hw2 : IntKind.i64.wrap ((n : Int) + 1) = (n : Int) + 1 := by rw [IntKind.wrap_i64]; omega
  have hw3 : IntKind.i64.wrap ((n : Int) + 1 - (i : Int)) = (n : Int) + 1 - (i : Int) := by rw [IntKind.wrap_i64]; omega
  have ht1 : ((i : Int) + 1).toNat = i + 1 := by omega
  have ht2 : ((n : Int) + 1).toNat = n + 1 := by omega
  have hp0 : (0 : Int) ≤ (i : Int) + 1 := by omega
  have hcc : (n : Int) < (n : Int) + 1 := by omega
  have hin : (i : Int) ≤ (n : Int) := by omega
  have hin1 : (i : Int) + 1 ≤ (n : Int) + 1 := by omega
  have hin2 : (i : Int) ≤ (n : Int) + 1 := by omega
  have hni : ¬ n = i := by omega
  have hGi : ¬ G = i := by omega
  have hGi1 : ¬ G = i + 1 := by omega
  clear hFIN hrz hcpA hcpB hW0 hW1 q1 q2 q3 r1 r2 r3 hx hx0 hown hb1 hb2 hb3 hb4 hb5 hcell hdl hxl hlen hR hold hRs hRt hROW hb0 hold0 hW0g hW1k hcell1 htl hik hkk hG hGm hGn
  go_enter Try.func24, Try.ntmps24
  go_wp2_with (at_builtin; refine Lib.wpList_append_run _ rfl _ _ _ _ rfl _ _ rfl rfl _ _ (HRZ.out _) ?_)
  rw [HCA.out]
  simp only [Result.andThen]
  rw [Oper.upon_value]
  go_wp2
  go_region_law (refine step_copyL rfl (.tmp 50) (.tmp 53) 28 rfl (by simp [Act.eval, Act.put]) (by simp [Act.eval, Act.put]) (HCB.out 3 (G - (i + 1)) (n - i)) ?_)
  go_wp2
  exact HFIN.out

end Go.Proofs.Ytfdifimakaiccaa
