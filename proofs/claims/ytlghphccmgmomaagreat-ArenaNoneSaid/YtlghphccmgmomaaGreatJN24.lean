/-
  Proved here, joined: InsRoom13, InsGrow13, OrdMath
  Conditions: as each part says.
-/
import Derived.Test.YtlghphccmgmomaaGreatJN23
import Derived.Lib.Overlaps
import Derived.Lib.AppendZerosOnto
import Derived.Laws.NewBlocks
import Derived.Test.YtlghphccmgmomaaGreatJN19
import Derived.Test.YtlghphccmgmomaaGreatJN5
import Derived.Test.YtlghphccmgmomaaGreatJN20

/-
  Proved here: what slices.Insert leaves of a row of links that has room, where the link goes ahead of others.
  Conditions: less than 2^20 links.
-/
namespace Go.Proofs.YtlghphccmgmomaaGreat
open Go Go.RowKit
set_option maxRecDepth 100000

theorem encL_cons (x : Ln) (l : List Ln) : encL (x :: l) = x.cells ++ encL l := rfl
theorem take_encL (l : List Ln) (r : List Value) : (encL l ++ r).take (l.length * 5) = encL l := by
  rw [← encL_len]
  exact List.take_left
theorem cells_one (x : Ln) : ∀ u ∈ x.cells, u.oneCell' = true := fun u hu => by
  simp only [Ln.cells, List.mem_cons, List.not_mem_nil, or_false] at hu
  rcases hu with rfl | rfl | rfl | rfl | rfl <;> rfl
set_option maxHeartbeats 1600000 in
set_option maxRecDepth 100000 in
theorem insert_room {w : World} {g n cap : Nat} {l : List Ln} (hn : l.length = n) (hown : w.ownsRow 0 29 5 (.slice (some ⟨g, 0, none⟩) n cap) n (encL l)) (hl : n < 1048576) {x : Ln} {vb : Nat} (hx : w.heap[vb]? = some (.cells #[.string x.str, .int .u64 (x.id : Nat), .int .u64 (x.ver : Nat), .int .i64 x.line, .int .i64 x.cl] 29 (0, 0)))
    (hne : vb ≠ g) (i : Nat) (hi : i < n) (hroom : n + 1 ≤ cap) :
    Calls Tryz.prog 154 #[.slice (some ⟨g, 0, none⟩) n cap, .int .i64 (i : Int), .slice (some ⟨vb, 0, none⟩) 1 1] w (InsTo (l.take i ++ x :: l.drop i) (.slice (some ⟨g, 0, none⟩) n cap) w) := by
  obtain ⟨cur, hb1, hb2, hb3, hb4, hb5⟩ := own_block hown
  have hcell : ∀ j u, (encL l)[j]? = some u → w.cell? ⟨g, j, none⟩ = some u := fun j u hu => by
    have := hown.cells (g := g) rfl j u hu
    rwa [add_plain, Nat.zero_add] at this
  have hdl : (encL (l.drop i)).length = (n - i) * 5 := by rw [encL_len, List.length_drop, hn]
  obtain ⟨W1, hW1⟩ : ∃ W1, w.drew.setCells g ((i + 1) * 5) (encL (l.drop i)) = W1 := ⟨_, rfl⟩
  obtain ⟨cur1, q1, q2, q3⟩ := heap_setCells 29 g (encL (l.drop i)) ((i + 1) * 5) w.drew cur hb1 (by omega)
  have hcp1 : ∀ ty dc sc, (Builtin.copy_ #[104, 104] ty #[.slice (some ⟨g, (i + 1) * 5, none⟩) (n - i) dc, .slice (some ⟨g, i * 5, none⟩) (n + 1 - i) sc]).run Tryz.prog w.drew = .ok (goInt (Nat.min (n + 1 - i) (n - i) : Nat)) W1 := fun ty dc sc => by
    rw [← hW1]
    exact run_copyL w.drew ty g ((i + 1) * 5) (n - i) dc ⟨g, i * 5, none⟩ (n + 1 - i) sc (encL (l.drop i)) cur hb1 (by rw [hdl]; simp only [Nat.min_def]; split <;> omega)
      (fun j u hu => by
        rw [add_plain]
        rw [← encL_drop, List.getElem?_drop] at hu
        exact hcell _ u hu) (by omega) encL_one
  rw [hW1] at q1
  obtain ⟨cur2, r1, r2, r3⟩ := heap_setCells 29 g x.cells (i * 5) W1 cur1 q1 (by rw [q3]; show i * 5 + 5 ≤ _; omega)
  have hxl : x.cells.length = 5 := rfl
  have hW1g : w.grownBy W1 (some g) := by
    have := grown_setCells g (encL (l.drop i)) ((i + 1) * 5) w.drew
    rw [hW1] at this
    exact ⟨this.os, this.tape, this.output, this.size, this.block⟩
  have hx1 : W1.heap[vb]? = some (.cells #[.string x.str, .int .u64 (x.id : Nat), .int .u64 (x.ver : Nat), .int .i64 x.line, .int .i64 x.cl] 29 (0, 0)) := (hW1g.block vb (lt_of_heap hx) (fun e => hne (by cases e; rfl))).trans hx
  have hcp2 : ∀ ty dc, (Builtin.copy_ #[104, 104] ty #[.slice (some ⟨g, i * 5, none⟩) (n + 1 - i) dc, .slice (some ⟨vb, 0, none⟩) 1 1]).run Tryz.prog W1 = .ok (goInt (Nat.min 1 (n + 1 - i) : Nat)) (W1.setCells g (i * 5) x.cells) := fun ty dc =>
    run_copyL W1 ty g (i * 5) (n + 1 - i) dc ⟨vb, 0, none⟩ 1 1 x.cells cur1 q1 (by rw [hxl]; simp only [Nat.min_def]; split <;> omega)
      (fun j u hu => by
        rw [add_plain]
        have hj : j < 5 := (List.getElem?_eq_some_iff.1 hu).1
        have := RowL.cells_at (w := W1) (b := vb) (off := 0) (l := [x]) (row_oneL hx1) j u (by rw [encL_cons]; rw [List.getElem?_append_left (by omega)]; exact hu)
        exact (by rw [Nat.zero_add] at this ⊢; exact this)) (by rw [q3]; show i * 5 + 5 ≤ _; omega) (cells_one x)
  have hlen : (l.take i ++ x :: l.drop i).length = n + 1 := by simp; omega
  have hFIN : InsTo (l.take i ++ x :: l.drop i) (.slice (some ⟨g, 0, none⟩) n cap) w (.returned (.slice (some ⟨g, 0, none⟩) (n + 1) cap)) (W1.setCells g (i * 5) x.cells) := by
    refine ⟨_, rfl, ?_, ?_, fun k hk => .inl hk⟩
    · rw [hlen]
      refine block_own r1 hroom hb3 (by omega) ?_
      have ht1 : cur.toList.take (i * 5) = encL (l.take i) := by rw [← encL_take, ← hb5, List.take_take, Nat.min_eq_left (by omega)]
      have hcl : cur.toList.length = cap * 5 := by rw [Array.length_toList]; exact hb4
      have ht2 : cur1.toList.take (i * 5) = encL (l.take i) := by
        rw [q2, List.append_assoc, List.take_append_of_le_length (by rw [List.length_take, hcl]; omega), List.take_take, Nat.min_eq_left (by omega), ht1]
      have ht3 : ∃ r, cur1.toList.drop (i * 5 + 5) = encL (l.drop i) ++ r := by
        refine ⟨cur.toList.drop ((i + 1) * 5 + (encL (l.drop i)).length), ?_⟩
        rw [q2, List.append_assoc]
        have : (cur.toList.take ((i + 1) * 5)).length = i * 5 + 5 := by rw [List.length_take, hcl]; omega
        rw [← this]
        exact List.drop_left
      obtain ⟨r, ht3⟩ := ht3
      rw [r2, ht2, hxl, ht3]
      have : encL (l.take i) ++ x.cells ++ (encL (l.drop i) ++ r) = encL (l.take i ++ x :: l.drop i) ++ r := by
        rw [← encL_append, encL_cons]
        simp
      rw [this, ← hlen]
      exact take_encL _ _
    · have h2 := grown_setCells g x.cells (i * 5) W1
      exact ⟨h2.os.trans hW1g.os, h2.tape.trans hW1g.tape, h2.output.trans hW1g.output, Nat.le_trans hW1g.size h2.size, fun k hk hne => (h2.block k (Nat.lt_of_lt_of_le hk hW1g.size) hne).trans (hW1g.block k hk hne)⟩
  obtain ⟨R, hR⟩ : ∃ R, InsTo (l.take i ++ x :: l.drop i) (.slice (some ⟨g, 0, none⟩) n cap) w = R := ⟨_, rfl⟩
  rw [hR] at hFIN ⊢
  have hov : ∀ c, (callFunc 191 #[.slice (some ⟨vb, 0, none⟩) 1 1, .slice (some ⟨g, (i + 1) * 5, none⟩) (n - i) c]).run Tryz.prog w = .ok (.value (.bool false)) w := fun c => by
    rw [run_callFunc_extern Tryz.func191 (by kernel_rfl) (by kernel_rfl) (by kernel_rfl) (e := Extern.SlicesOverlaps.overlaps #[104, 104] #[4]) (by kernel_rfl),
      Lib.run_overlaps_apart w 104 4 29 Tryz.underlying104 5 Tryz.sizeOf29 ⟨vb, 0, none⟩ ⟨g, (i + 1) * 5, none⟩ 1 1 _ _ hne 29 29 5 cur.size (by simp [World.shape?, hx]) (by simp [World.shape?, hb1]) (by omega) (by simp [World.frozen?, hx]) (by simp [World.frozen?, hx])]
    rfl
  have HOV := Lib.hid hov
  have HFIN := Lib.hid hFIN
  have HC1 := Lib.hid hcp1
  have HC2 := Lib.hid hcp2
  have hmx : cap ≤ 9223372036854775807 := hb3
  have hne1 : ((i : Int) == (n : Int)) = false := by simp; omega
  have hw1 : IntKind.i64.wrap ((i : Int) + 1) = (i : Int) + 1 := by rw [IntKind.wrap_i64]; omega
  have hw2 : IntKind.i64.wrap ((n : Int) + 1) = (n : Int) + 1 := by rw [IntKind.wrap_i64]; omega
  have ht1 : ((i : Int) + 1).toNat = i + 1 := by omega
  have ht2 : ((n : Int) + 1).toNat = n + 1 := by omega
  have hb0 : (0 : Int) ≤ (i : Int) + 1 := by omega
  have hbn : (0 : Int) ≤ (n : Int) + 1 := by omega
  have hcc : ¬ (cap : Int) < (n : Int) + 1 := by omega
  have hcc2 : (n : Int) + 1 ≤ (cap : Int) := by omega
  have hin : (i : Int) ≤ (n : Int) := by omega
  have hin1 : (i : Int) + 1 ≤ (n : Int) + 1 := by omega
  have hin2 : (i : Int) ≤ (n : Int) + 1 := by omega
  have hci : ¬ cap = i := by omega
  have hci1 : ¬ cap = i + 1 := by omega
  have hnc : (n : Int) ≤ (cap : Int) := by omega
  clear hov hFIN hcp1 hcp2 hW1 q1 q2 q3 r1 r2 r3 hx hx1 hown hb1 hb2 hb3 hb4 hb5 hcell hdl hxl hW1g hlen hR
  go_enter Tryz.func154, Tryz.ntmps154
  go_wp2
  rw [HOV.out]
  rw [Oper.upon_value]
  go_wp2
  go_region_law (refine step_copyL rfl (.tmp 73) (.tmp 76) 104 rfl (by simp [Act.eval, Act.put]) (by simp [Act.eval, Act.put]) (HC1.out 3 (cap - (i + 1)) (cap - i)) ?_)
  go_wp2
  rw [HC2.out]
  simp only [Result.andThen]
  rw [Oper.upon_value]
  go_wp2
  exact HFIN.out

end Go.Proofs.YtlghphccmgmomaaGreat

/-
  Proved here: what slices.Insert leaves of a row of links that has no room, where the link goes ahead of others.
  Conditions: less than 2^20 links.
-/
namespace Go.Proofs.YtlghphccmgmomaaGreat
open Go Go.RowKit
set_option maxRecDepth 100000

set_option maxHeartbeats 1600000 in
set_option maxRecDepth 100000 in
theorem insert_grow {w : World} {g n : Nat} {l : List Ln} (hn : l.length = n) (hown : w.ownsRow 0 29 5 (.slice (some ⟨g, 0, none⟩) n n) n (encL l)) (hl : n < 1048576) {x : Ln} {vb : Nat} (hx : w.heap[vb]? = some (.cells #[.string x.str, .int .u64 (x.id : Nat), .int .u64 (x.ver : Nat), .int .i64 x.line, .int .i64 x.cl] 29 (0, 0)))
    (i : Nat) (hi : i < n) :
    Calls Tryz.prog 154 #[.slice (some ⟨g, 0, none⟩) n n, .int .i64 (i : Int), .slice (some ⟨vb, 0, none⟩) 1 1] w (InsTo (l.take i ++ x :: l.drop i) (.slice (some ⟨g, 0, none⟩) n n) w) := by
  obtain ⟨inf, hinf, hz, hs5, hby⟩ := link_info'
  obtain ⟨cur, hb1, hb2, hb3, hb4, hb5⟩ := own_block hown
  have hcell : ∀ j u, (encL l)[j]? = some u → w.cell? ⟨g, j, none⟩ = some u := fun j u hu => by
    have := hown.cells (g := g) rfl j u hu
    rwa [add_plain, Nat.zero_add] at this
  have hdl : (encL (l.drop i)).length = (n - i) * 5 := by rw [encL_len, List.length_drop, hn]
  have htl : (encL (l.take i)).length = i * 5 := by rw [encL_len, List.length_take, hn]; omega
  have hik : i + (n + 1 - i) = n + 1 := by omega
  have hkk : (n : Int) + 1 - (i : Int) = ((n + 1 - i : Nat) : Int) := by omega
  obtain ⟨N, hN⟩ : ∃ N, w.heap.size = N := ⟨_, rfl⟩
  obtain ⟨G, hG⟩ : ∃ G, grownCap w (n + 1) n 29 = G := ⟨_, rfl⟩
  have hGn : n + 1 ≤ G := by rw [← hG]; exact grownCap_ge w _ _ _
  have hGm : G ≤ maxLen := by rw [← hG]; exact grownCap_le_maxLen w (n + 1) n _ (by unfold maxLen; omega)
  have hold : (Builtin.firstCells inf.size i (.slice (some ⟨g, 0, none⟩) i n)).run Tryz.prog w.drew = .ok (encL (l.take i)).toArray w.drew := by
    rw [hs5]
    exact run_firstCells_some w.drew 5 i ⟨g, 0, none⟩ i n (encL (l.take i)) htl (fun j u hj => by
      rw [add_plain, Nat.zero_add]
      have hj5 : j < i * 5 := by rw [← htl]; exact (List.getElem?_eq_some_iff.1 hj).1
      rw [← encL_take, List.getElem?_take_of_lt hj5] at hj
      exact hcell j u hj)
  obtain ⟨ROW, hROW⟩ : ∃ ROW : Array Value, (encL (l.take i)).toArray ++ Builtin.zeroCells (Value.agg #[.string ⟨#[]⟩, .int .u64 0, .int .u64 0, .int .i64 0, .int .i64 0]).cells (n + 1 - i) ++ Builtin.zeroCells (Value.agg #[.string ⟨#[]⟩, .int .u64 0, .int .u64 0, .int .i64 0, .int .i64 0]).cells (G - (n + 1)) = ROW := ⟨_, rfl⟩
  have hRs : ROW.size = G * 5 := by
    have h5 : (Value.agg #[.string ⟨#[]⟩, .int .u64 0, .int .u64 0, .int .i64 0, .int .i64 0]).cells.size = 5 := by kernel_rfl
    rw [← hROW, Array.size_append, Array.size_append, size_zeroCells, size_zeroCells, h5]
    simp only [List.size_toArray, htl]
    omega
  have hRt : ROW.toList.take (i * 5) = encL (l.take i) := by
    rw [← hROW, Array.toList_append, Array.toList_append, List.append_assoc, ← htl]
    exact List.take_left
  obtain ⟨W0, hW0⟩ : ∃ W0, w.drew.alloc (.cells ROW 29) = W0 := ⟨_, rfl⟩
  have hrz : ∀ ty, (Builtin.append_ #[104, 3] ty #[.slice (some ⟨g, 0, none⟩) i n, .int .i64 ((n : Int) + 1 - (i : Int))]).run Tryz.prog w = .ok (.slice (some ⟨N, 0, none⟩) (n + 1) G) W0 := fun ty => by
    have h := Lib.run_append_grow_zeros w 104 3 ty 29 inf _ .i64 .i64 Tryz.underlying104 Tryz.underlying3 hinf hz (some ⟨g, 0, none⟩) i n (encL (l.take i)) hold (n + 1 - i) (by omega) (by omega) (by omega) (by omega) (by rw [hby]; omega) (by rw [hby, hik]; exact growslice_fits (by omega) (by omega))
    rw [hik, hG, hROW, hW0, hN] at h
    rw [hkk]
    exact h
  have hb0 : W0.heap[N]? = some (.cells ROW 29 (0, 0)) := by rw [← hW0, ← hN]; exact heap_alloc_new w.drew _
  have hold0 : ∀ k, k < N → W0.heap[k]? = w.heap[k]? := fun k hk => by rw [← hW0]; exact Below.heap_alloc w.drew _ k (by show k < w.heap.size; omega)
  have hW0g : Below N w W0 := by rw [← hW0, ← hN]; exact (Below.refl _ _).drew.alloc (Nat.le_refl _) _
  have hxl : x.cells.length = 5 := rfl
  obtain ⟨W1, hW1⟩ : ∃ W1, W0.setCells N (i * 5) x.cells = W1 := ⟨_, rfl⟩
  obtain ⟨cur1, q1, q2, q3⟩ := heap_setCells 29 N x.cells (i * 5) W0 ROW hb0 (by rw [hRs]; show i * 5 + 5 ≤ _; omega)
  have hgN : g < N := hN ▸ lt_of_heap hb1
  have hvN : vb < N := hN ▸ lt_of_heap hx
  have hx0 : W0.heap[vb]? = some (.cells #[.string x.str, .int .u64 (x.id : Nat), .int .u64 (x.ver : Nat), .int .i64 x.line, .int .i64 x.cl] 29 (0, 0)) := (hold0 vb hvN).trans hx
  have hcpA : ∀ ty dc, (Builtin.copy_ #[104, 104] ty #[.slice (some ⟨N, i * 5, none⟩) (n + 1 - i) dc, .slice (some ⟨vb, 0, none⟩) 1 1]).run Tryz.prog W0 = .ok (goInt (Nat.min 1 (n + 1 - i) : Nat)) W1 := fun ty dc => by
    rw [← hW1]
    exact run_copyL W0 ty N (i * 5) (n + 1 - i) dc ⟨vb, 0, none⟩ 1 1 x.cells ROW hb0 (by rw [hxl]; simp only [Nat.min_def]; split <;> omega)
      (fun j u hu => by
        rw [add_plain]
        have hj : j < 5 := (List.getElem?_eq_some_iff.1 hu).1
        have := RowL.cells_at (w := W0) (b := vb) (off := 0) (l := [x]) (row_oneL hx0) j u (by rw [encL_cons]; rw [List.getElem?_append_left (by omega)]; exact hu)
        exact (by rw [Nat.zero_add] at this ⊢; exact this)) (by rw [hRs]; show i * 5 + 5 ≤ _; omega) (cells_one x)
  rw [hW1] at q1
  have hW1k : ∀ k, k < N → W1.heap[k]? = w.heap[k]? := fun k hk => by rw [← hW1, setCells_other N _ _ _ k (by omega)]; exact hold0 k hk
  have hcell1 : ∀ j u, (encL l)[j]? = some u → W1.drew.cell? ⟨g, j, none⟩ = some u := fun j u hu => by
    have h1 := hcell j u hu
    rw [← h1]
    exact World.cell?_of_block (w := w) (a := ⟨g, j, none⟩) (hW1k g hgN)
  have hcpB : ∀ ty dc sc, (Builtin.copy_ #[104, 104] ty #[.slice (some ⟨N, (i + 1) * 5, none⟩) (n - i) dc, .slice (some ⟨g, i * 5, none⟩) (n - i) sc]).run Tryz.prog W1.drew = .ok (goInt (Nat.min (n - i) (n - i) : Nat)) (W1.drew.setCells N ((i + 1) * 5) (encL (l.drop i))) := fun ty dc sc =>
    run_copyL W1.drew ty N ((i + 1) * 5) (n - i) dc ⟨g, i * 5, none⟩ (n - i) sc (encL (l.drop i)) cur1 q1 (by rw [hdl]; simp only [Nat.min_def]; split <;> omega)
      (fun j u hu => by
        rw [add_plain]
        rw [← encL_drop, List.getElem?_drop] at hu
        exact hcell1 _ u hu) (by rw [q3, hRs]; omega) encL_one
  obtain ⟨cur2, r1, r2, r3⟩ := heap_setCells 29 N (encL (l.drop i)) ((i + 1) * 5) W1.drew cur1 q1 (by rw [q3, hRs]; omega)
  have hlen : (l.take i ++ x :: l.drop i).length = n + 1 := by simp; omega
  have hFIN : InsTo (l.take i ++ x :: l.drop i) (.slice (some ⟨g, 0, none⟩) n n) w (.returned (.slice (some ⟨N, 0, none⟩) (n + 1) G)) (W1.drew.setCells N ((i + 1) * 5) (encL (l.drop i))) := by
    refine ⟨_, rfl, ?_, ?_, fun k hk => .inr (by cases hk; exact Nat.le_of_eq hN)⟩
    · rw [hlen]
      refine block_own r1 hGn hGm (by rw [r3, q3, hRs]) ?_
      have hcl1 : cur1.toList.length = G * 5 := by rw [Array.length_toList, q3, hRs]
      have hRl : ROW.toList.length = G * 5 := by rw [Array.length_toList, hRs]
      have ht2 : cur1.toList.take ((i + 1) * 5) = encL (l.take i) ++ x.cells := by
        rw [q2, hRt]
        have : (encL (l.take i) ++ x.cells).length = (i + 1) * 5 := by rw [List.length_append, htl, hxl]; omega
        rw [← this]
        exact List.take_left
      rw [r2, ht2]
      have : encL (l.take i) ++ x.cells ++ encL (l.drop i) = encL (l.take i ++ x :: l.drop i) := by
        rw [← encL_append, encL_cons]
        simp
      rw [this, ← hlen]
      exact take_encL _ _
    · have h1 := setCells_rest N x.cells (i * 5) W0
      rw [hW1] at h1
      have h2 := setCells_rest N (encL (l.drop i)) ((i + 1) * 5) W1.drew
      refine ⟨h2.1.trans (h1.1.trans hW0g.os), h2.2.1.trans (h1.2.1.trans hW0g.tape), h2.2.2.1.trans (h1.2.2.1.trans hW0g.output), ?_, fun k hk hne => ?_⟩
      · rw [h2.2.2.2]; show _ ≤ W1.heap.size; rw [h1.2.2.2]; exact hW0g.size
      · rw [setCells_other N _ _ _ k (by omega)]
        exact hW1k k (by omega)
  obtain ⟨R, hR⟩ : ∃ R, InsTo (l.take i ++ x :: l.drop i) (.slice (some ⟨g, 0, none⟩) n n) w = R := ⟨_, rfl⟩
  rw [hR] at hFIN ⊢
  have HFIN := Lib.hid hFIN
  have HRZ := Lib.hid hrz
  have HCA := Lib.hid hcpA
  have HCB := Lib.hid hcpB
  have hmx : n ≤ 9223372036854775807 := hb3
  have hGx : G ≤ 9223372036854775807 := hGm
  have hne1 : ((i : Int) == (n : Int)) = false := by simp; omega
  have hw1 : IntKind.i64.wrap ((i : Int) + 1) = (i : Int) + 1 := by rw [IntKind.wrap_i64]; omega
  have hw2 : IntKind.i64.wrap ((n : Int) + 1) = (n : Int) + 1 := by rw [IntKind.wrap_i64]; omega
  have hw3 : IntKind.i64.wrap ((n : Int) + 1 - (i : Int)) = (n : Int) + 1 - (i : Int) := by rw [IntKind.wrap_i64]; omega
  have ht1 : ((i : Int) + 1).toNat = i + 1 := by omega
  have ht2 : ((n : Int) + 1).toNat = n + 1 := by omega
  have hp0 : (0 : Int) ≤ (i : Int) + 1 := by omega
  have hcc : (n : Int) < (n : Int) + 1 := by omega
  have hin : (i : Int) ≤ (n : Int) := by omega
  have hin1 : (i : Int) + 1 ≤ (n : Int) + 1 := by omega
  have hin2 : (i : Int) ≤ (n : Int) + 1 := by omega
  have hni : ¬ n = i := by omega
  have hGi : ¬ G = i := by omega
  have hGi1 : ¬ G = i + 1 := by omega
  clear hFIN hrz hcpA hcpB hW0 hW1 q1 q2 q3 r1 r2 r3 hx hx0 hown hb1 hb2 hb3 hb4 hb5 hcell hdl hxl hlen hR hold hRs hRt hROW hb0 hold0 hW0g hW1k hcell1 htl hik hkk hG hGm hGn
  go_enter Tryz.func154, Tryz.ntmps154
  go_wp2_with (at_builtin; refine Lib.wpList_append_run _ rfl _ _ _ _ rfl _ _ rfl rfl _ _ (HRZ.out _) ?_)
  rw [HCA.out]
  simp only [Result.andThen]
  rw [Oper.upon_value]
  go_wp2
  go_region_law (refine step_copyL rfl (.tmp 50) (.tmp 53) 104 rfl (by simp [Act.eval, Act.put]) (by simp [Act.eval, Act.put]) (HCB.out 3 (G - (i + 1)) (n - i)) ?_)
  go_wp2
  exact HFIN.out

end Go.Proofs.YtlghphccmgmomaaGreat

/-
  Proved here: where a key is among links by rising keys; the levels.
  Conditions: none.
-/
namespace Go.Proofs.YtlghphccmgmomaaGreat
open Go Go.RowKit
set_option maxRecDepth 100000

/-! ### Links kept by their keys -/
def keepT (q : Ky → Bool) (L : List Ln) : List Ln := L.filter fun x => q x.k
theorem mem_keepT {q : Ky → Bool} {L : List Ln} {x : Ln} : x ∈ keepT q L ↔ x ∈ L ∧ q x.k = true := by simp [keepT]
theorem risesK_keep {L : List Ln} (h : RisesK L) (q : Ky → Bool) : RisesK (keepT q L) := List.Pairwise.filter _ h
theorem keepT_set {L : List Ln} (h : RisesK L) (q : Ky → Bool) (x : Ln) : keepT q (setT L x) = if q x.k = true then setT (keepT q L) x else keepT q L := by
  split
  · rename_i e
    refine risesK_ext (risesK_keep (risesK_set h x) q) (risesK_set (risesK_keep h q) x) fun y => ?_
    rw [mem_keepT, mem_setT, mem_setT, mem_keepT]
    constructor
    · rintro ⟨rfl | ⟨h1, h2⟩, h3⟩
      · exact .inl rfl
      · exact .inr ⟨⟨h1, h3⟩, h2⟩
    · rintro (rfl | ⟨⟨h1, h3⟩, h2⟩)
      · exact ⟨.inl rfl, e⟩
      · exact ⟨.inr ⟨h1, h2⟩, h3⟩
  · rename_i e
    refine risesK_ext (risesK_keep (risesK_set h x) q) (risesK_keep h q) fun y => ?_
    rw [mem_keepT, mem_setT, mem_keepT]
    constructor
    · rintro ⟨rfl | ⟨h1, _⟩, h3⟩
      · exact absurd h3 e
      · exact ⟨h1, h3⟩
    · rintro ⟨h1, h3⟩
      exact ⟨.inr ⟨h1, fun e2 => e (by rw [← e2]; exact h3)⟩, h3⟩
theorem keepT_drop {L : List Ln} (h : RisesK L) (q : Ky → Bool) (k : Ky) : keepT q (dropT L k) = if q k = true then dropT (keepT q L) k else keepT q L := by
  split
  · refine risesK_ext (risesK_keep (risesK_drop h k) q) (risesK_drop (risesK_keep h q) k) fun y => ?_
    rw [mem_keepT, mem_dropT, mem_dropT, mem_keepT]
    exact ⟨fun ⟨⟨a, b⟩, c⟩ => ⟨⟨a, c⟩, b⟩, fun ⟨⟨a, c⟩, b⟩ => ⟨⟨a, b⟩, c⟩⟩
  · rename_i e
    refine risesK_ext (risesK_keep (risesK_drop h k) q) (risesK_keep h q) fun y => ?_
    rw [mem_keepT, mem_dropT, mem_keepT]
    exact ⟨fun ⟨⟨a, _⟩, c⟩ => ⟨a, c⟩, fun ⟨a, c⟩ => ⟨⟨a, fun e2 => e (by rw [← e2]; exact c)⟩, c⟩⟩
theorem keepT_get {L : List Ln} (h : RisesK L) (q : Ky → Bool) {k : Ky} (hk : q k = true) : getT (keepT q L) k = getT L k := by
  cases e : getT L k with
  | none => exact getT_none.2 fun y hy => getT_none.1 e y (mem_keepT.1 hy).1
  | some y =>
    obtain ⟨h1, h2⟩ := (getT_some h).1 e
    exact (getT_some (risesK_keep h q)).2 ⟨mem_keepT.2 ⟨h1, by rw [h2]; exact hk⟩, h2⟩
theorem keepT_has {L : List Ln} (h : RisesK L) (q : Ky → Bool) {k : Ky} (hk : q k = true) : hasT (keepT q L) k = hasT L k := by rw [hasT, keepT_get h q hk]; rfl
theorem keepT_len (q : Ky → Bool) (L : List Ln) : (keepT q L).length ≤ L.length := List.length_filter_le _ _
/-! ### Where a key is -/
def posT (M : List Ln) (k : Ky) : Nat := M.countP fun x => Op.bytesLess x.k k
theorem posT_le (M : List Ln) (k : Ky) : posT M k ≤ M.length := List.countP_le_length
theorem posT_cons {a : Ln} {M : List Ln} (k : Ky) : posT (a :: M) k = if Op.bytesLess a.k k = true then posT M k + 1 else posT M k := by
  unfold posT
  rw [List.countP_cons]
  split <;> rfl
/-- Behind a key that is no less there is none less. -/
theorem posT_zero {a : Ln} {M : List Ln} (h : RisesK (a :: M)) {k : Ky} (hk : Op.bytesLess a.k k = false) : posT M k = 0 := by
  obtain ⟨h1, _⟩ := List.pairwise_cons.1 h
  unfold posT
  rw [List.countP_eq_zero]
  intro x hx e
  have := lessK_trans (h1 x hx) e
  rw [hk] at this
  cases this
theorem pos_yes {M : List Ln} (h : RisesK M) {k : Ky} (hk : hasT M k = true) : ∃ y, M[posT M k]? = some y ∧ y.k = k := by
  induction M with
  | nil => cases hk
  | cons a M ih =>
    obtain ⟨h1, h2⟩ := List.pairwise_cons.1 h
    rw [posT_cons]
    rcases Classical.em (a.k = k) with e | e
    · have hl : Op.bytesLess a.k k = false := by rw [e]; exact lessK_irrefl _
      rw [hl, posT_zero h hl]
      exact ⟨a, rfl, e⟩
    · have hh : hasT M k = true := by simpa [hasT, getT, e] using hk
      obtain ⟨y, hy, hyk⟩ := ih h2 hh
      have hl : Op.bytesLess a.k k = true := by rw [← hyk]; exact h1 y (List.mem_of_getElem? hy)
      rw [hl]
      exact ⟨y, by simpa using hy, hyk⟩
theorem pos_no {M : List Ln} (h : RisesK M) {k : Ky} (hk : hasT M k = false) {y : Ln} (hy : M[posT M k]? = some y) : Op.bytesLess k y.k = true := by
  induction M with
  | nil => cases hy
  | cons a M ih =>
    obtain ⟨h1, h2⟩ := List.pairwise_cons.1 h
    have hne : a.k ≠ k := fun e => by simp [hasT, getT, e] at hk
    have hh : hasT M k = false := by
      have : (a.k == k) = false := by simpa using hne
      simpa [hasT, getT, this] using hk
    rw [posT_cons] at hy
    rcases lessK_tri a.k k with hl | hl | hl
    · rw [hl] at hy
      exact ih h2 hh (by simpa using hy)
    · exact absurd hl hne
    · rw [lessK_asym hl, posT_zero h (lessK_asym hl)] at hy
      simp at hy
      rw [← hy]
      exact hl
theorem drop_pos {M : List Ln} (h : RisesK M) {k : Ky} (hk : hasT M k = true) : M.take (posT M k) ++ M.drop (posT M k + 1) = dropT M k := by
  induction M with
  | nil => cases hk
  | cons a M ih =>
    obtain ⟨h1, h2⟩ := List.pairwise_cons.1 h
    rw [posT_cons]
    rcases Classical.em (a.k = k) with e | e
    · have hl : Op.bytesLess a.k k = false := by rw [e]; exact lessK_irrefl _
      rw [hl, posT_zero h hl]
      have hn : dropT M k = M := dropT_none fun x hx => by rw [← e]; exact fun e2 => lessK_ne (h1 x hx) e2.symm
      have : dropT (a :: M) k = dropT M k := by simp [dropT, e]
      rw [this, hn]
      rfl
    · have hh : hasT M k = true := by simpa [hasT, getT, e] using hk
      obtain ⟨y, hy, hyk⟩ := pos_yes h2 hh
      have hl : Op.bytesLess a.k k = true := by rw [← hyk]; exact h1 y (List.mem_of_getElem? hy)
      have : dropT (a :: M) k = a :: dropT M k := by simp [dropT, e]
      rw [hl, this, ← ih h2 hh]
      rfl
theorem put_pos {M : List Ln} (h : RisesK M) (x : Ln) (hx : ∀ a ∈ M, a.k ≠ x.k) : putT M x = M.take (posT M x.k) ++ x :: M.drop (posT M x.k) := by
  induction M with
  | nil => rfl
  | cons a M ih =>
    obtain ⟨h1, h2⟩ := List.pairwise_cons.1 h
    rw [posT_cons]
    unfold putT
    rcases lessK_tri a.k x.k with hl | hl | hl
    · rw [hl, lessK_asym hl, ih h2 fun b hb => hx b (List.mem_cons_of_mem _ hb)]
      rfl
    · exact absurd hl (hx a (by simp))
    · rw [hl, lessK_asym hl, posT_zero h (lessK_asym hl)]
      rfl
theorem hasT_no {M : List Ln} {k : Ky} (hk : hasT M k = false) : ∀ a ∈ M, a.k ≠ k := getT_none.1 (by
  cases e : getT M k with
  | none => rfl
  | some y => rw [hasT, e] at hk; cases hk)
theorem set_pos_no {M : List Ln} (h : RisesK M) (x : Ln) (hk : hasT M x.k = false) : setT M x = M.take (posT M x.k) ++ x :: M.drop (posT M x.k) := by
  have hx := hasT_no hk
  unfold setT
  rw [dropT_none hx, put_pos h x hx]
theorem set_pos_yes {M : List Ln} (h : RisesK M) (x : Ln) (hk : hasT M x.k = true) : setT M x = M.set (posT M x.k) x := by
  induction M with
  | nil => cases hk
  | cons a M ih =>
    obtain ⟨h1, h2⟩ := List.pairwise_cons.1 h
    rw [posT_cons]
    rcases Classical.em (a.k = x.k) with e | e
    · have hl : Op.bytesLess a.k x.k = false := by rw [e]; exact lessK_irrefl _
      rw [hl, posT_zero h hl]
      have hne : ∀ b ∈ M, b.k ≠ x.k := fun b hb => by rw [← e]; exact fun e2 => lessK_ne (h1 b hb) e2.symm
      have : setT (a :: M) x = putT M x := by
        unfold setT
        rw [show dropT (a :: M) x.k = dropT M x.k by simp [dropT, e], dropT_none hne]
      rw [this]
      cases M with
      | nil => rfl
      | cons b M =>
        have := h1 b (by simp)
        rw [e] at this
        simp [putT, this]
    · have hh : hasT M x.k = true := by simpa [hasT, getT, e] using hk
      obtain ⟨y, hy, hyk⟩ := pos_yes h2 hh
      have hl : Op.bytesLess a.k x.k = true := by rw [← hyk]; exact h1 y (List.mem_of_getElem? hy)
      have : setT (a :: M) x = a :: setT M x := by
        unfold setT
        rw [show dropT (a :: M) x.k = a :: dropT M x.k by simp [dropT, e]]
        simp [putT, lessK_asym hl]
      rw [hl, this, ih h2 hh]
      rfl
/-! ### The levels -/
def hgt (k : Ky) : Nat := lvl (addS 0 k)
theorem hgt_bounds (k : Ky) : 1 ≤ hgt k ∧ hgt k ≤ 4 := lvl_bounds _
def lev (i : Nat) (L : List Ln) : List Ln := keepT (fun k => decide (i < hgt k)) L
theorem lev_rises {L : List Ln} (h : RisesK L) (i : Nat) : RisesK (lev i L) := risesK_keep h _
theorem lev_len (i : Nat) (L : List Ln) : (lev i L).length ≤ L.length := keepT_len _ _
theorem lev_set {L : List Ln} (h : RisesK L) (x : Ln) {i : Nat} (hi : i < hgt x.k) : lev i (setT L x) = setT (lev i L) x := by rw [lev, keepT_set h, if_pos (by simpa using hi)]; rfl
theorem lev_set_no {L : List Ln} (h : RisesK L) (x : Ln) {i : Nat} (hi : hgt x.k ≤ i) : lev i (setT L x) = lev i L := by rw [lev, keepT_set h, if_neg (by simpa using hi)]; rfl
theorem lev_drop {L : List Ln} (h : RisesK L) (k : Ky) {i : Nat} (hi : i < hgt k) : lev i (dropT L k) = dropT (lev i L) k := by rw [lev, keepT_drop h, if_pos (by simpa using hi)]; rfl
theorem lev_drop_no {L : List Ln} (h : RisesK L) (k : Ky) {i : Nat} (hi : hgt k ≤ i) : lev i (dropT L k) = lev i L := by rw [lev, keepT_drop h, if_neg (by simpa using hi)]; rfl
theorem lev_has {L : List Ln} (h : RisesK L) (k : Ky) {i : Nat} (hi : i < hgt k) : hasT (lev i L) k = hasT L k := keepT_has h _ (by simpa using hi)
end Go.Proofs.YtlghphccmgmomaaGreat
