/-
  Proved here: what the list's Push, Head, Pop and All answer and leave.
  Conditions: at most 2,040 links, 4,095 places.
-/
import Derived.Test.YtejljkpnhdnncaaFiG14
import Derived.Test.YtejljkpnhdnncaaStoreOnly
namespace Go.Proofs.Ytejljkpnhdnncaa
open Go Go.RowKit
set_option maxRecDepth 100000

theorem rpop_any {w : World} {p f : Nat} {v : Value} {P L : List Ln} (h : Fi w p v f P L) : Calls Try.prog 17 #[.pointer (some ⟨p, 0, none⟩)] w fun e w' => e = .returned (hdV L) ∧ FiTo w p v L.tail w' := by
  cases L with
  | nil => exact (rpop_no h).mono fun e w' ⟨h1, h2⟩ => ⟨h1, _, _, _, h.below h2, Stay.of_below h2, fun k hk => .inl hk⟩
  | cons x L => exact rpop_yes h
set_option maxHeartbeats 1600000 in
theorem fipush_any {w : World} {p f : Nat} {v : Value} {P L : List Ln} (h : Fi w p v f P L) (hl : L.length ≤ 2040) (x : Ln) :
    Calls Try.prog 10 #[.pointer (some ⟨p, 0, none⟩), .agg #[.string x.str, .int .u64 (x.id : Nat), .int .u64 (x.ver : Nat), .int .i64 x.line, .int .i64 x.cl]] w fun e w' => e = .returned (.tuple #[]) ∧ FiTo w p v (L ++ [x]) w' := by
  obtain ⟨R, hR⟩ : ∃ R : Ending → World → Prop, (fun e w' => e = .returned (.tuple #[]) ∧ FiTo w p v (L ++ [x]) w') = R := ⟨_, rfl⟩
  rw [hR]
  obtain ⟨g, hg⟩ : ∃ g, w.heap.size = g := ⟨_, rfl⟩
  obtain ⟨v0, hv0⟩ : ∃ v0, w.alloc (.cells #[.string x.str, .int .u64 (x.id : Nat), .int .u64 (x.ver : Nat), .int .i64 x.line, .int .i64 x.cl] 29) = v0 := ⟨_, rfl⟩
  have hb0 : Below g w v0 := by rw [← hv0, ← hg]; exact (Below.refl _ _).alloc (Nat.le_refl _) _
  have hx0 : v0.heap[g]? = some (.cells #[.string x.str, .int .u64 (x.id : Nat), .int .u64 (x.ver : Nat), .int .i64 x.line, .int .i64 x.cl] 29 (0, 0)) := by rw [← hv0, ← hg]; exact heap_alloc_new w _
  obtain ⟨q0, q1, q2, q3, q4⟩ := cellsL hx0
  have HC : Hid (Calls Try.prog 18 #[.pointer (some ⟨p, 0, none⟩), .agg #[.string x.str, .int .u64 (x.id : Nat), .int .u64 (x.ver : Nat), .int .i64 x.line, .int .i64 x.cl]] v0.drew R) := by
    refine (rpush_any (w := v0.drew) (h.below (hg.symm ▸ hb0.drew)) hl x).mono fun e w' ⟨h1, v', f', P', h2, h3, h4⟩ => ?_
    rw [← hR]
    exact ⟨h1, v', f', P', h2, (Stay.of_below (hg.symm ▸ hb0.drew)).trans h3, fun k hk => (h4 k hk).imp id fun h => by have := hb0.size; show w.heap.size ≤ k; exact Nat.le_trans hb0.size h⟩
  have HRE : Hid (∀ e w', R e w' → e = .returned (.tuple #[])) := fun e w' h => by rw [← hR] at h; exact h.1
  have HS0 : Hid (g < v0.heap.size) := lt_of_heap hx0
  clear h hR hx0 hb0
  generalize x.str = x0 at *
  generalize (x.id : Int) = x1 at *
  generalize (x.ver : Int) = x2 at *
  generalize x.line = x3 at *
  generalize x.cl = x4 at *
  go_enter Try.func10, Try.ntmps10
  go_wp2
  go_region_with (first
    | (go_at_call 18; refine HC.out.mono ?_; intro e w' hh; obtain rfl := HRE.out _ _ hh))
  refine bodyPost_end (results_none rfl _ _ _) rfl ?_
  exact hh
/-- The list as it was serves as what a step leaves. -/
theorem Fi.to {w w' : World} {p f : Nat} {v : Value} {P L : List Ln} (h : Fi w p v f P L) (hb : Below w.heap.size w w') : FiTo w p v L w' := ⟨v, f, P, h.below hb, Stay.of_below hb, fun _ hk => .inl hk⟩
set_option maxHeartbeats 1600000 in
theorem fihead_any {w : World} {p f : Nat} {v : Value} {P L : List Ln} (h : Fi w p v f P L) :
    Calls Try.prog 8 #[.pointer (some ⟨p, 0, none⟩)] w fun e w' => e = .returned (hdV L) ∧ FiTo w p v (L) w' := by
  obtain ⟨g, hg⟩ : ∃ g, w.heap.size = g := ⟨_, rfl⟩
  have HG := Lib.hid hg
  have HZ := Lib.hid zero_link
  obtain ⟨y, b, hyb⟩ : ∃ (y : Ln) (b : Bool), hdV L = .tuple #[y.agg, .bool b] := ⟨_, _, rfl⟩
  have HYB := Lib.hid hyb
  have HEB : Hid (∀ (w' : World) (g : Nat), w'.heap[g]? = some (.cells #[.string y.str, .int .u64 (y.id : Nat), .int .u64 (y.ver : Nat), .int .i64 y.line, .int .i64 y.cl] 29 (0, 0)) → LBox w' g y) := fun w' g h => h
  have HH : Hid (∀ w2, Below g w w2 → Calls Try.prog 16 #[.pointer (some ⟨p, 0, none⟩)] w2 fun e w' => e = .returned (.tuple #[.agg #[.string y.str, .int .u64 (y.id : Nat), .int .u64 (y.ver : Nat), .int .i64 y.line, .int .i64 y.cl], .bool b]) ∧ FiTo w2 p v (L) w') := fun w2 hb => by
    have h2 := h.below (hg.symm ▸ hb)
    refine (rhead_any h2).mono ?_
    rintro e w' ⟨rfl, hb⟩
    exact ⟨by rw [hyb]; rfl, h2.to hb⟩
  have HNG : Hid (¬ fiOwn p v g) := fun e => by have := h.lt e; omega
  have HEND : Hid (∀ w2 w3 w5, Below g w w2 → g < w2.heap.size → FiTo w2 p v (L) w3 → Stay (fun k => k = g) w3 w5 → FiTo w p v (L) w5) := fun w2 w3 w5 k1 kl k2 k3 => by
    obtain ⟨v', f', P', a1, a2, a3⟩ := k2
    refine ⟨v', f', P', a1.stay k3 (fun k hk e => ?_), ⟨k3.os.trans (a2.os.trans k1.os), k3.tape.trans (a2.tape.trans k1.tape), k3.output.trans (a2.output.trans k1.output), Nat.le_trans k1.size (Nat.le_trans a2.size k3.size), fun k hk hl => ?_⟩, fun k hk => (a3 k hk).imp id fun e => by have := k1.size; omega⟩
    · subst e
      rcases a3 _ hk with e | e
      · exact HNG.out e
      · omega
    · exact (k3.block k (by omega) (by have h1 := k1.size; have h2 := a2.size; omega)).trans ((a2.block k hk (by have := k1.size; omega)).trans (k1.block k (by omega)))
  clear h hyb
  generalize L.head?.getD Ln.zero = l0 at *
  go_enter Try.func8, Try.ntmps8
  go_wp2_with (first
    | ((with_reducible show wpList _ _ _ (⟨some 2, .alloc _, _, _, _, _⟩ :: _) _ _); refine wpList_alloc_var (o := ⟨some 2, _, _, _, _, _⟩) rfl 29 rfl g HG.out _ HZ.out ?_; intro w2 H2 B2)
    | fail)
  refine (HH.out w2 B2.out).mono ?_
  rintro e w3 ⟨rfl, hb3⟩
  have HFT := Lib.hid hb3
  obtain ⟨v', f', P', a1, a2, a3⟩ := hb3
  have H3 := Lib.hid ((a2.block g HNG.out (lt_of_heap H2.out)).trans H2.out)
  clear a1 a2 a3
  go_wp2_with (first
    | ((with_reducible show wpList _ _ _ (⟨none, .store _ (.tmp 2) _, _, _, _, _⟩ :: _) _ _); refine wpList_store_only (o := ⟨none, .store 29 (.tmp 2) (.tmp 11), _, _, _, _⟩) rfl _ _ _ rfl rfl g #[.string y.str, .int .u64 (y.id : Nat), .int .u64 (y.ver : Nat), .int .i64 y.line, .int .i64 y.cl] rfl rfl 29 _ H3.out size_link rfl (onesL _ _ _ _ _) ?_; intro w5 H5 B5)
    | fail)
  refine bodyPost_ret (results_l2 rfl rfl rfl (HEB.out _ _ H5.out)) rfl ?_
  rw [HYB.out]
  exact ⟨rfl, HEND.out _ _ _ B2.out (lt_of_heap H2.out) HFT.out ⟨B5.out.os, B5.out.tape, B5.out.output, B5.out.size, fun k hk hl => B5.out.block k hk hk hl⟩⟩
set_option maxHeartbeats 1600000 in
theorem fipop_any {w : World} {p f : Nat} {v : Value} {P L : List Ln} (h : Fi w p v f P L) :
    Calls Try.prog 9 #[.pointer (some ⟨p, 0, none⟩)] w fun e w' => e = .returned (hdV L) ∧ FiTo w p v (L.tail) w' := by
  obtain ⟨g, hg⟩ : ∃ g, w.heap.size = g := ⟨_, rfl⟩
  have HG := Lib.hid hg
  have HZ := Lib.hid zero_link
  obtain ⟨y, b, hyb⟩ : ∃ (y : Ln) (b : Bool), hdV L = .tuple #[y.agg, .bool b] := ⟨_, _, rfl⟩
  have HYB := Lib.hid hyb
  have HEB : Hid (∀ (w' : World) (g : Nat), w'.heap[g]? = some (.cells #[.string y.str, .int .u64 (y.id : Nat), .int .u64 (y.ver : Nat), .int .i64 y.line, .int .i64 y.cl] 29 (0, 0)) → LBox w' g y) := fun w' g h => h
  have HH : Hid (∀ w2, Below g w w2 → Calls Try.prog 17 #[.pointer (some ⟨p, 0, none⟩)] w2 fun e w' => e = .returned (.tuple #[.agg #[.string y.str, .int .u64 (y.id : Nat), .int .u64 (y.ver : Nat), .int .i64 y.line, .int .i64 y.cl], .bool b]) ∧ FiTo w2 p v (L.tail) w') := fun w2 hb => by
    have h2 := h.below (hg.symm ▸ hb)
    refine (rpop_any h2).mono ?_
    rintro e w' ⟨rfl, hb⟩
    exact ⟨by rw [hyb]; rfl, hb⟩
  have HNG : Hid (¬ fiOwn p v g) := fun e => by have := h.lt e; omega
  have HEND : Hid (∀ w2 w3 w5, Below g w w2 → g < w2.heap.size → FiTo w2 p v (L.tail) w3 → Stay (fun k => k = g) w3 w5 → FiTo w p v (L.tail) w5) := fun w2 w3 w5 k1 kl k2 k3 => by
    obtain ⟨v', f', P', a1, a2, a3⟩ := k2
    refine ⟨v', f', P', a1.stay k3 (fun k hk e => ?_), ⟨k3.os.trans (a2.os.trans k1.os), k3.tape.trans (a2.tape.trans k1.tape), k3.output.trans (a2.output.trans k1.output), Nat.le_trans k1.size (Nat.le_trans a2.size k3.size), fun k hk hl => ?_⟩, fun k hk => (a3 k hk).imp id fun e => by have := k1.size; omega⟩
    · subst e
      rcases a3 _ hk with e | e
      · exact HNG.out e
      · omega
    · exact (k3.block k (by omega) (by have h1 := k1.size; have h2 := a2.size; omega)).trans ((a2.block k hk (by have := k1.size; omega)).trans (k1.block k (by omega)))
  clear h hyb
  generalize L.head?.getD Ln.zero = l0 at *
  go_enter Try.func9, Try.ntmps9
  go_wp2_with (first
    | ((with_reducible show wpList _ _ _ (⟨some 2, .alloc _, _, _, _, _⟩ :: _) _ _); refine wpList_alloc_var (o := ⟨some 2, _, _, _, _, _⟩) rfl 29 rfl g HG.out _ HZ.out ?_; intro w2 H2 B2)
    | fail)
  refine (HH.out w2 B2.out).mono ?_
  rintro e w3 ⟨rfl, hb3⟩
  have HFT := Lib.hid hb3
  obtain ⟨v', f', P', a1, a2, a3⟩ := hb3
  have H3 := Lib.hid ((a2.block g HNG.out (lt_of_heap H2.out)).trans H2.out)
  clear a1 a2 a3
  go_wp2_with (first
    | ((with_reducible show wpList _ _ _ (⟨none, .store _ (.tmp 2) _, _, _, _, _⟩ :: _) _ _); refine wpList_store_only (o := ⟨none, .store 29 (.tmp 2) (.tmp 11), _, _, _, _⟩) rfl _ _ _ rfl rfl g #[.string y.str, .int .u64 (y.id : Nat), .int .u64 (y.ver : Nat), .int .i64 y.line, .int .i64 y.cl] rfl rfl 29 _ H3.out size_link rfl (onesL _ _ _ _ _) ?_; intro w5 H5 B5)
    | fail)
  refine bodyPost_ret (results_l2 rfl rfl rfl (HEB.out _ _ H5.out)) rfl ?_
  rw [HYB.out]
  exact ⟨rfl, HEND.out _ _ _ B2.out (lt_of_heap H2.out) HFT.out ⟨B5.out.os, B5.out.tape, B5.out.output, B5.out.size, fun k hk hl => B5.out.block k hk hk hl⟩⟩
set_option maxHeartbeats 400000 in
theorem fiall_any {w : World} {p f : Nat} {v : Value} {P L : List Ln} (h : Fi w p v f P L) : Calls Try.prog 12 #[.pointer (some ⟨p, 0, none⟩)] w (AllN L w) := by
  have H := Lib.hid (rall_any h)
  obtain ⟨R, hR⟩ : ∃ R, AllN L w = R := ⟨_, rfl⟩
  rw [hR] at H ⊢
  have HRE : Hid (∀ e w', R e w' → ∃ V, e = .returned V) := fun e w' h => by rw [← hR] at h; obtain ⟨g, h1, _⟩ := h; exact ⟨_, h1⟩
  clear h hR
  go_enter Try.func12, Try.ntmps12
  go_wp2_with (go_at_call 19; refine H.out.mono ?_; intro e w' hh; obtain ⟨V, rfl⟩ := HRE.out _ _ hh)
  exact hh

end Go.Proofs.Ytejljkpnhdnncaa
