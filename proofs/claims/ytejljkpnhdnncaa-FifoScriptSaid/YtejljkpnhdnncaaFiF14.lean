/-
  Proved here: what a pop leaves of an empty list.
  Conditions: at most 2,040 links, 4,095 places.
-/
import Derived.Test.YtejljkpnhdnncaaFiE14
namespace Go.Proofs.Ytejljkpnhdnncaa
open Go Go.RowKit
set_option maxRecDepth 100000

/-- At a step of a region that draws its order: a clear whose run is known. -/
theorem step_clearR {P : Program} {ops : Array Oper} {o : Oper} {a : Act} {K : Act → World → Prop} {Q : Exit → Act → World → Prop} {E : Prop} (hgd : o.guard = none) (s : Operand) (t : TypeId)
    (ho : o.op = .call { callee := .builtin .clear, args := #[s], argTypes := #[t] }) {w w' : World} {v v' : Value} (hs : a.eval s = v)
    (hrun : (Builtin.clear_ #[t] o.type #[v]).run P w = .ok v' w') (h : K (a.put o.dst v') w') : if Region.wanted o (yielded ops a.tmps) = true then Oper.wp P o a w K Q else E := by
  have hw : Region.wanted o (yielded ops a.tmps) = true := by simp [Region.wanted, hgd]
  rw [if_pos hw]
  unfold Oper.wp execOp
  simp only [ho, resolve, invoke, builtin, Sem.run_bind, Sem.run_pure, Result.andThen_ok, List.map_toArray, List.map_cons, List.map_nil, hs, hrun]
  exact h
theorem rhead_any {w : World} {p f : Nat} {v : Value} {P L : List Ln} (h : Fi w p v f P L) : Calls Try.prog 16 #[.pointer (some ⟨p, 0, none⟩)] w fun e w' => e = .returned (hdV L) ∧ Below w.heap.size w w' := by
  cases L with
  | nil => exact rhead_no h
  | cons x L => exact rhead_yes h
theorem grown_below {w w1 w2 : World} {b : Option Nat} (h : w.grownBy w1 b) (hb : Below w1.heap.size w1 w2) : w.grownBy w2 b :=
  ⟨hb.os.trans h.os, hb.tape.trans h.tape, hb.output.trans h.output, Nat.le_trans h.size hb.size, fun k hk hne => (hb.block k (Nat.lt_of_lt_of_le hk h.size)).trans (h.block k hk hne)⟩
/-- Behind a pop: the place is cleared (w1); more has been made (w2). -/
theorem Fi.popped {w w1 w2 : World} {p f b m cap n r : Nat} {P L : List Ln} {x : Ln} (h : Fi w p (.slice (some ⟨b, 0, none⟩) m cap) f P (x :: L)) (hm : P.length = m) (hn : L.length = n) (hr : (f + 1) % m = r) (h1 : w.setCells b (f * 5) Ln.zero.cells = w1) (hb : Below w1.heap.size w1 w2) :
    Fi ((w2.setCell ⟨p, 1, none⟩ (.int .i64 (r : Nat))).setCell ⟨p, 2, none⟩ (.int .i64 (n : Nat))) p (.slice (some ⟨b, 0, none⟩) m cap) r (P.set f Ln.zero) L ∧
      Stay (fiOwn p (.slice (some ⟨b, 0, none⟩) m cap)) w ((w2.setCell ⟨p, 1, none⟩ (.int .i64 (r : Nat))).setCell ⟨p, 2, none⟩ (.int .i64 (n : Nat))) ∧
      w2.cell? ⟨p, 0, none⟩ = some (.slice (some ⟨b, 0, none⟩) m cap) ∧ w2.cell? ⟨p, 1, none⟩ = some (.int .i64 (f : Nat)) ∧ w2.cell? ⟨p, 2, none⟩ = some (.int .i64 ((n : Int) + 1)) ∧ ∀ j, w2.frozen? ⟨p, j, none⟩ = false := by
  subst hn
  have hro := h.row
  rw [hm] at hro
  obtain ⟨hf, -⟩ := h.ring.head
  obtain ⟨k1, k2⟩ := own_set5 hro Ln.zero hf
  have he : ∀ w : World, w.setCells b (f * 5) Ln.zero.cells = ((((w.setCell ⟨b, f * 5, none⟩ (.string Ln.zero.str)).setCell ⟨b, f * 5 + 1, none⟩ (.int .u64 (Ln.zero.id : Nat))).setCell ⟨b, f * 5 + 2, none⟩ (.int .u64 (Ln.zero.ver : Nat))).setCell ⟨b, f * 5 + 3, none⟩ (.int .i64 Ln.zero.line)).setCell ⟨b, f * 5 + 4, none⟩ (.int .i64 Ln.zero.cl) := fun w => rfl
  rw [← he, h1] at k1 k2
  have k3 := own_keep k1 hb
  have k4 := grown_below k2 hb
  have hpb : p ≠ b := fun e => h.self (by rw [e]; rfl)
  have hmem := (k4.block p (lt_of_heap h.mem) (by simp; omega)).trans h.mem
  have h2 := heap_setCell_same _ p 1 _ _ (.int .i64 (r : Nat)) hmem
  have h3 := heap_setCell_same _ p 2 _ _ (.int .i64 (L.length : Nat)) h2
  have hrg := h.ring.pop Ln.zero
  rw [hm, hr] at hrg
  obtain ⟨f1, f2⟩ := h.wrote (w1 := w2) (P' := P.set f Ln.zero) (by rw [List.length_set, hm]; exact k3) k4 (by simp) hrg (by rw [h3]; simp) ((Stay.setCell (S := fun k => k = p) _ p 1 _ rfl).trans (Stay.setCell (S := fun k => k = p) _ p 2 _ rfl))
  refine ⟨f1, f2, ?_, ?_, ?_, fun j => ?_⟩
  · simp [World.cell?, hmem]
  · simp [World.cell?, hmem]
  · simp [World.cell?, hmem]
  · simp [World.frozen?, hmem]
set_option maxHeartbeats 1600000 in
set_option maxRecDepth 100000 in
theorem rpop_no {w : World} {p f : Nat} {v : Value} {P : List Ln} (h : Fi w p v f P []) : Calls Try.prog 17 #[.pointer (some ⟨p, 0, none⟩)] w fun e w' => e = .returned (hdV []) ∧ Below w.heap.size w w' := by
  obtain ⟨g, hg⟩ : ∃ g, w.heap.size = g := ⟨_, rfl⟩
  have HG := Lib.hid hg
  have HZ := Lib.hid zero_link
  have HEZ : Hid (∀ (w' : World) (g : Nat), w'.heap[g]? = some (.cells #[.string ⟨#[]⟩, .int .u64 0, .int .u64 0, .int .i64 0, .int .i64 0] 29 (0, 0)) → LBox w' g Ln.zero) := fun w' g h => h
  have HH : Hid (∀ w2, Below g w w2 → Calls Try.prog 16 #[.pointer (some ⟨p, 0, none⟩)] w2 fun e w' => e = .returned (.tuple #[.agg #[.string ⟨#[]⟩, .int .u64 0, .int .u64 0, .int .i64 0, .int .i64 0], .bool false]) ∧ Below w2.heap.size w2 w') := fun w2 hb => rhead_no (h.below (hg.symm ▸ hb))
  rw [hg]
  clear h
  go_enter Try.func17, Try.ntmps17
  go_wp2_with (first
    | ((with_reducible show wpList _ _ _ (⟨some 2, .alloc _, _, _, _, _⟩ :: _) _ _); refine wpList_alloc_var (o := ⟨some 2, _, _, _, _, _⟩) rfl 29 rfl g HG.out _ HZ.out ?_; intro w2 H2 B2)
    | fail)
  refine (HH.out w2 B2.out).mono ?_
  rintro e w3 ⟨rfl, hb3⟩
  have H3 := Lib.hid ((hb3.block g (lt_of_heap H2.out)).trans H2.out)
  have B3 : Hid (Below g w w3) := B2.out.trans (hb3.mono (Nat.le_of_lt (lt_of_heap H2.out)))
  obtain ⟨g3, hg3⟩ : ∃ g3, w3.heap.size = g3 := ⟨_, rfl⟩
  have HG3 := Lib.hid hg3
  have HL3 : Hid (g < g3) := hg3 ▸ lt_of_heap H3.out
  clear hb3 hg3
  go_wp2_with (first
    | ((with_reducible show wpList _ _ _ (⟨some 4, .alloc _, _, _, _, _⟩ :: _) _ _); refine wpList_alloc_var (o := ⟨some 4, _, _, _, _, _⟩) rfl 29 rfl g3 HG3.out _ HZ.out ?_; intro w4 H4 B4)
    | ((with_reducible show wpList _ _ _ (⟨none, .store _ (.tmp 4) _, _, _, _, _⟩ :: _) _ _); refine wpList_store_whole (o := ⟨none, .store 29 (.tmp 4) (.tmp 9), _, _, _, _⟩) rfl _ _ _ rfl rfl g3 #[.string ⟨#[]⟩, .int .u64 0, .int .u64 0, .int .i64 0, .int .i64 0] rfl rfl 29 _ H4.out size_link rfl (onesL _ _ _ _ _) ?_; intro w5 H5 B5; have H25 := Lib.hid (((B4.out.trans B5.out).block g HL3.out).trans H3.out); obtain ⟨q0, q1, q2, q3, q4⟩ := cellsL H5.out)
    | ((with_reducible show wpList _ _ _ (⟨none, .store _ (.tmp 2) _, _, _, _, _⟩ :: _) _ _); refine wpList_store_whole (o := ⟨none, .store 29 (.tmp 2) (.tmp 38), _, _, _, _⟩) rfl _ _ _ rfl rfl g #[.string ⟨#[]⟩, .int .u64 0, .int .u64 0, .int .i64 0, .int .i64 0] rfl rfl 29 _ H25.out size_link rfl (onesL _ _ _ _ _) ?_; intro w6 H6 B6)
    | fail)
  refine bodyPost_ret (results_l2 rfl rfl rfl (HEZ.out _ _ H6.out)) rfl ?_
  exact ⟨rfl, B3.out.trans (((B4.out.trans B5.out).mono (Nat.le_of_lt HL3.out)).trans B6.out)⟩

end Go.Proofs.Ytejljkpnhdnncaa
