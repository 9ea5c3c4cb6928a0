/-
  Proved here: what slices.Insert leaves of a row of links that has room, where the link goes ahead of others.
  Conditions: less than 2^20 links.
-/
import Derived.Test.YtfdifimakaiccaaInsert13
import Derived.Lib.Overlaps
namespace Go.Proofs.Ytfdifimakaiccaa
open Go Go.RowKit
set_option maxRecDepth 100000

theorem step_copyL {P : Program} {ops : Array Oper} {o : Oper} {a : Act} {K : Act → World → Prop} {Q : Exit → Act → World → Prop} {E : Prop} (hgd : o.guard = none) (s x : Operand) (t : TypeId)
    (ho : o.op = .call { callee := .builtin .copy, args := #[s, x], argTypes := #[t, t] }) {w w' : World} {v V v' : Value} (hs : a.eval s = v) (hx : a.eval x = V)
    (hrun : (Builtin.copy_ #[t, t] o.type #[v, V]).run P w = .ok v' w') (h : K (a.put o.dst v') w') : if Region.wanted o (yielded ops a.tmps) = true then Oper.wp P o a w K Q else E := by
  have hw : Region.wanted o (yielded ops a.tmps) = true := by simp [Region.wanted, hgd]
  rw [if_pos hw]
  unfold Oper.wp execOp
  simp only [ho, resolve, invoke, builtin, Sem.run_bind, Sem.run_pure, Result.andThen_ok, List.map_toArray, List.map_cons, List.map_nil, hs, hx, hrun]
  exact h
theorem x_cells (x : Ln) : x.cells = [.string x.str, .int .u64 (x.id : Nat), .int .u64 (x.ver : Nat), .int .i64 x.line, .int .i64 x.cl] := rfl
theorem encL_cons (x : Ln) (l : List Ln) : encL (x :: l) = x.cells ++ encL l := rfl
theorem take_encL (l : List Ln) (r : List Value) : (encL l ++ r).take (l.length * 5) = encL l := by
  rw [← encL_len]
  exact List.take_left
theorem cells_one (x : Ln) : ∀ u ∈ x.cells, u.oneCell' = true := fun u hu => by
  simp only [Ln.cells, List.mem_cons, List.not_mem_nil, or_false] at hu
  rcases hu with rfl | rfl | rfl | rfl | rfl <;> rfl
set_option maxHeartbeats 1600000 in
set_option maxRecDepth 100000 in
theorem insert_room {w : World} {g n cap : Nat} {l : List Ln} (hn : l.length = n) (hown : w.ownsRow 0 33 5 (.slice (some ⟨g, 0, none⟩) n cap) n (encL l)) (hl : n < 1048576) {x : Ln} {vb : Nat} (hx : w.heap[vb]? = some (.cells #[.string x.str, .int .u64 (x.id : Nat), .int .u64 (x.ver : Nat), .int .i64 x.line, .int .i64 x.cl] 33 (0, 0)))
    (hne : vb ≠ g) (i : Nat) (hi : i < n) (hroom : n + 1 ≤ cap) :
    Calls Try.prog 24 #[.slice (some ⟨g, 0, none⟩) n cap, .int .i64 (i : Int), .slice (some ⟨vb, 0, none⟩) 1 1] w (InsTo (l.take i ++ x :: l.drop i) (.slice (some ⟨g, 0, none⟩) n cap) w) := by
  obtain ⟨cur, hb1, hb2, hb3, hb4, hb5⟩ := own_block hown
  have hcell : ∀ j u, (encL l)[j]? = some u → w.cell? ⟨g, j, none⟩ = some u := fun j u hu => by
    have := hown.cells (g := g) rfl j u hu
    rwa [add_plain, Nat.zero_add] at this
  have hdl : (encL (l.drop i)).length = (n - i) * 5 := by rw [encL_len, List.length_drop, hn]
  obtain ⟨W1, hW1⟩ : ∃ W1, w.drew.setCells g ((i + 1) * 5) (encL (l.drop i)) = W1 := ⟨_, rfl⟩
  obtain ⟨cur1, q1, q2, q3⟩ := heap_setCells 33 g (encL (l.drop i)) ((i + 1) * 5) w.drew cur hb1 (by omega)
  have hcp1 : ∀ ty dc sc, (Builtin.copy_ #[28, 28] ty #[.slice (some ⟨g, (i + 1) * 5, none⟩) (n - i) dc, .slice (some ⟨g, i * 5, none⟩) (n + 1 - i) sc]).run Try.prog w.drew = .ok (goInt (Nat.min (n + 1 - i) (n - i) : Nat)) W1 := fun ty dc sc => by
    rw [← hW1]
    exact run_copyL w.drew ty g ((i + 1) * 5) (n - i) dc ⟨g, i * 5, none⟩ (n + 1 - i) sc (encL (l.drop i)) cur hb1 (by rw [hdl]; simp only [Nat.min_def]; split <;> omega)
      (fun j u hu => by
        rw [add_plain]
        rw [← encL_drop, List.getElem?_drop] at hu
        exact hcell _ u hu) (by omega) encL_one
  rw [hW1] at q1
  obtain ⟨cur2, r1, r2, r3⟩ := heap_setCells 33 g x.cells (i * 5) W1 cur1 q1 (by rw [q3]; show i * 5 + 5 ≤ _; omega)
  have hxl : x.cells.length = 5 := rfl
  have hW1g : w.grownBy W1 (some g) := by
    have := grown_setCells g (encL (l.drop i)) ((i + 1) * 5) w.drew
    rw [hW1] at this
    exact ⟨this.os, this.tape, this.output, this.size, this.block⟩
  have hx1 : W1.heap[vb]? = some (.cells #[.string x.str, .int .u64 (x.id : Nat), .int .u64 (x.ver : Nat), .int .i64 x.line, .int .i64 x.cl] 33 (0, 0)) := (hW1g.block vb (lt_of_heap hx) (fun e => hne (by cases e; rfl))).trans hx
  have hcp2 : ∀ ty dc, (Builtin.copy_ #[28, 28] ty #[.slice (some ⟨g, i * 5, none⟩) (n + 1 - i) dc, .slice (some ⟨vb, 0, none⟩) 1 1]).run Try.prog W1 = .ok (goInt (Nat.min 1 (n + 1 - i) : Nat)) (W1.setCells g (i * 5) x.cells) := fun ty dc =>
    run_copyL W1 ty g (i * 5) (n + 1 - i) dc ⟨vb, 0, none⟩ 1 1 x.cells cur1 q1 (by rw [hxl]; simp only [Nat.min_def]; split <;> omega)
      (fun j u hu => by
        rw [add_plain]
        have hj : j < 5 := (List.getElem?_eq_some_iff.1 hu).1
        have := RowL.cells_at (w := W1) (b := vb) (off := 0) (l := [x]) (row_oneL hx1) j u (by rw [encL_cons]; rw [List.getElem?_append_left (by omega)]; exact hu)
        exact (by rw [Nat.zero_add] at this ⊢; exact this)) (by rw [q3]; show i * 5 + 5 ≤ _; omega) (cells_one x)
  have hlen : (l.take i ++ x :: l.drop i).length = n + 1 := by simp; omega
  have hFIN : InsTo (l.take i ++ x :: l.drop i) (.slice (some ⟨g, 0, none⟩) n cap) w (.returned (.slice (some ⟨g, 0, none⟩) (n + 1) cap)) (W1.setCells g (i * 5) x.cells) := by
    refine ⟨_, rfl, ?_, ?_, fun k hk => .inl hk⟩
    · rw [hlen]
      refine block_own r1 hroom hb3 (by omega) ?_
      have ht1 : cur.toList.take (i * 5) = encL (l.take i) := by rw [← encL_take, ← hb5, List.take_take, Nat.min_eq_left (by omega)]
      have hcl : cur.toList.length = cap * 5 := by rw [Array.length_toList]; exact hb4
      have ht2 : cur1.toList.take (i * 5) = encL (l.take i) := by
        rw [q2, List.append_assoc, List.take_append_of_le_length (by rw [List.length_take, hcl]; omega), List.take_take, Nat.min_eq_left (by omega), ht1]
      have ht3 : ∃ r, cur1.toList.drop (i * 5 + 5) = encL (l.drop i) ++ r := by
        refine ⟨cur.toList.drop ((i + 1) * 5 + (encL (l.drop i)).length), ?_⟩
        rw [q2, List.append_assoc]
        have : (cur.toList.take ((i + 1) * 5)).length = i * 5 + 5 := by rw [List.length_take, hcl]; omega
        rw [← this]
        exact List.drop_left
      obtain ⟨r, ht3⟩ := ht3
      rw [r2, ht2, hxl, ht3]
      have : encL (l.take i) ++ x.cells ++ (encL (l.drop i) ++ r) = encL (l.take i ++ x :: l.drop i) ++ r := by
        rw [← encL_append, encL_cons]
        simp
      rw [this, ← hlen]
      exact take_encL _ _
    · have h2 := grown_setCells g x.cells (i * 5) W1
      exact ⟨h2.os.trans hW1g.os, h2.tape.trans hW1g.tape, h2.output.trans hW1g.output, Nat.le_trans hW1g.size h2.size, fun k hk hne => (h2.block k (Nat.lt_of_lt_of_le hk hW1g.size) hne).trans (hW1g.block k hk hne)⟩
  obtain ⟨R, hR⟩ : ∃ R, InsTo (l.take i ++ x :: l.drop i) (.slice (some ⟨g, 0, none⟩) n cap) w = R := ⟨_, rfl⟩
  rw [hR] at hFIN ⊢
  have hov : ∀ c, (callFunc 35 #[.slice (some ⟨vb, 0, none⟩) 1 1, .slice (some ⟨g, (i + 1) * 5, none⟩) (n - i) c]).run Try.prog w = .ok (.value (.bool false)) w := fun c => by
    rw [run_callFunc_extern Try.func35 (by kernel_rfl) (by kernel_rfl) (by kernel_rfl) (e := Extern.SlicesOverlaps.overlaps #[28, 28] #[4]) (by kernel_rfl),
      Lib.run_overlaps_apart w 28 4 33 Try.underlying28 5 Try.sizeOf33 ⟨vb, 0, none⟩ ⟨g, (i + 1) * 5, none⟩ 1 1 _ _ hne 33 33 5 cur.size (by simp [World.shape?, hx]) (by simp [World.shape?, hb1]) (by omega) (by simp [World.frozen?, hx]) (by simp [World.frozen?, hx])]
    rfl
  have HOV := Lib.hid hov
  have HFIN := Lib.hid hFIN
  have HC1 := Lib.hid hcp1
  have HC2 := Lib.hid hcp2
  have hmx : cap ≤ 9223372036854775807 := hb3
  have hne1 : ((i : Int) == (n : Int)) = false := by simp; omega
  have hw1 : IntKind.i64.wrap ((i : Int) + 1) = (i : Int) + 1 := by rw [IntKind.wrap_i64]; omega
  have hw2 : IntKind.i64.wrap ((n : Int) + 1) = (n : Int) + 1 := by rw [IntKind.wrap_i64]; omega
  have ht1 : ((i : Int) + 1).toNat = i + 1 := by omega
  have ht2 : ((n : Int) + 1).toNat = n + 1 := by omega
  have hb0 : (0 : Int) ≤ (i : Int) + 1 := by omega
  have hbn : (0 : Int) ≤ (n : Int) + 1 := by omega
  have hcc : ¬ (cap : Int) < (n : Int) + 1 := by omega
  have hcc2 : (n : Int) + 1 ≤ (cap : Int) := by omega
  have hin : (i : Int) ≤ (n : Int) := by omega
  have hin1 : (i : Int) + 1 ≤ (n : Int) + 1 := by omega
  have hin2 : (i : Int) ≤ (n : Int) + 1 := by omega
  have hci : ¬ cap = i := by omega
  have hci1 : ¬ cap = i + 1 := by omega
  have hnc : (n : Int) ≤ (cap : Int) := by omega
  clear hov hFIN hcp1 hcp2 hW1 q1 q2 q3 r1 r2 r3 hx hx1 hown hb1 hb2 hb3 hb4 hb5 hcell hdl hxl hW1g hlen hR
  go_enter Try.func24, Try.ntmps24
  go_wp2
  rw [HOV.out]
  rw [Oper.upon_value]
  go_wp2
  go_region_law (refine step_copyL rfl (.tmp 73) (.tmp 76) 28 rfl (by simp [Act.eval, Act.put]) (by simp [Act.eval, Act.put]) (HC1.out 3 (cap - (i + 1)) (cap - i)) ?_)
  go_wp2
  rw [HC2.out]
  simp only [Result.andThen]
  rw [Oper.upon_value]
  go_wp2
  exact HFIN.out

end Go.Proofs.Ytfdifimakaiccaa
