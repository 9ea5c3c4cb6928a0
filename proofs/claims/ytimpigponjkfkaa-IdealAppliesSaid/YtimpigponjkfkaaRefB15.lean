/-
  Proved here: the chapter's own Apply, kind by kind.
  Conditions: rows of at most 400,000.
-/
import Derived.Test.YtimpigponjkfkaaRefA15
import Derived.Test.YtimpigponjkfkaaAwake15
namespace Go.Proofs.Ytimpigponjkfkaa
open Go Go.RowKit
set_option maxRecDepth 100000

/-- A row that lies apart from the blocks from lo to below hi. -/
def Apt (A : Option Addr) (n lo hi : Nat) : Prop := 0 < n → ∀ x, A = some x → x.block < lo ∨ hi ≤ x.block
theorem Rec.Row.keep {α : Type} {R : Rec α} {w w' : World} {A : Option Addr} {l : List α} {n lo hi : Nat} (h : R.Row w A l) (hn : l.length = n) (ha : Apt A n lo hi) (hs : Stay (fun k => lo ≤ k ∧ k < hi) w w') : R.Row w' A l := by
  rcases Nat.eq_zero_or_pos n with h0 | h0
  · obtain rfl : l = [] := List.eq_nil_of_length_eq_zero (by omega)
    exact R.row_nil _ _
  · exact h.same hs.size (fun x hx hb => hs.block _ (fun e => by rcases ha h0 x hx with h1 | h1 <;> omega) hb)
theorem Apt.own {w : World} {B size n c k : Nat} {e : TypeId} {A : Option Addr} {xs : List Value} (h : w.ownsRow B e size (.slice A n c) k xs) {lo hi : Nat} (hb : hi ≤ B) : Apt A n lo hi := fun hp x hx => by
  rcases h.2 with ⟨e, _⟩ | ⟨g, cap, cur, e, h2, _⟩
  · cases e; cases hx
  · cases e; cases hx; exact .inr (Nat.le_trans hb h2)
theorem Apt.old {α : Type} {R : Rec α} {w : World} {A : Option Addr} {l : List α} {n hi : Nat} (h : R.Row w A l) (hn : l.length = n) : Apt A n w.heap.size hi := fun hp x hx => by
  obtain ⟨b, off, e, hlt, _⟩ := h.2 (by omega)
  rw [hx] at e
  cases e
  exact .inl hlt
theorem Apt.nil (A : Option Addr) (lo hi : Nat) : Apt A 0 lo hi := fun h => absurd h (Nat.lt_irrefl _)
/-- What the chapter's own Apply gives. -/
def RApTo (w : World) (A : Option Addr) (n : Nat) (B : Option Addr) (m : Nat) (L' : List Kv) (Q' : List ByteArray) (cd : Int) (f : Bool) (v : ByteArray) (M : List Kv) (H : List Bool) (e : Ending) (w' : World) : Prop :=
  ∃ A' n' c' B' m' d' A2 n2 c2 B2 m2 d2, e = .returned (.tuple #[.agg #[.slice A' n' c', .slice B' m' d'], .agg #[.int .i64 cd, .bool f, .string v, .slice A2 n2 c2, .slice B2 m2 d2, .int .u64 0]]) ∧ Shv w' A' n' c' B' m' d' L' Q' ∧
    (∀ lo hi, hi ≤ w.heap.size → Apt A n lo hi → Apt A' n' lo hi) ∧ (∀ lo hi, hi ≤ w.heap.size → Apt B m lo hi → Apt B' m' lo hi) ∧ RP.Row w' A2 M ∧ M.length = n2 ∧ RB.Row w' B2 H ∧ H.length = m2 ∧ Below w.heap.size w w'
/-- The frame of the chapter's own Apply in memory. -/
structure RW (g g3 g4 g5 g6 : Nat) (w : World) (c : Cal) (A : Option Addr) (n cc : Nat) (B : Option Addr) (m d : Nat) (L : List Kv) (Q : List ByteArray) (a0 a1 a2 a3 a4 a5 : Value) (x : World) : Prop where
  o1 : g < g3
  o2 : g3 < g4
  o3 : g4 < g5
  o4 : g5 < g6
  h2 : x.heap[g]? = some (.cells #[.slice A n cc, .slice B m d] 29 (0, 0))
  h3 : x.heap[g3]? = some (.cells #[.int .i64 c.kd, .string c.key, .string c.val, .string c.to_, .slice c.ga c.gn c.gc] 24 (0, 0))
  h4 : x.heap[g4]? = some (.cells #[.slice none 0 0, .slice none 0 0] 29 (0, 0))
  h5 : x.heap[g5]? = some (.cells #[.int .i64 0, .bool false, .string ⟨#[]⟩, .slice none 0 0, .slice none 0 0, .int .u64 0] 40 (0, 0))
  h6 : x.heap[g6]? = some (.cells #[a0, a1, a2, a3, a4, a5] 40 (0, 0))
  sh : Shv x A n cc B m d L Q
  ap : Apt A n g (g6 + 1)
  aq : Apt B m g (g6 + 1)
  bel : Below g w x
section
variable {g g3 g4 g5 g6 : Nat} {w x y : World} {c : Cal} {A : Option Addr} {n cc : Nat} {B : Option Addr} {m d : Nat} {L : List Kv} {Q : List ByteArray} {a0 a1 a2 a3 a4 a5 : Value}
theorem RW.lt (h : RW g g3 g4 g5 g6 w c A n cc B m d L Q a0 a1 a2 a3 a4 a5 x) : g6 < x.heap.size := lt_of_heap h.h6
theorem RW.below (h : RW g g3 g4 g5 g6 w c A n cc B m d L Q a0 a1 a2 a3 a4 a5 x) (hb : Below x.heap.size x y) : RW g g3 g4 g5 g6 w c A n cc B m d L Q a0 a1 a2 a3 a4 a5 y :=
  ⟨h.o1, h.o2, h.o3, h.o4, (hb.block _ (lt_of_heap h.h2)).trans h.h2, (hb.block _ (lt_of_heap h.h3)).trans h.h3, (hb.block _ (lt_of_heap h.h4)).trans h.h4, (hb.block _ (lt_of_heap h.h5)).trans h.h5, (hb.block _ (lt_of_heap h.h6)).trans h.h6, h.sh.below hb, h.ap, h.aq, h.bel.trans (hb.mono (Nat.le_of_lt (lt_of_heap h.h2)))⟩
theorem Shv.keep {lo hi : Nat} (h : Shv x A n cc B m d L Q) (ha : Apt A n lo hi) (hb : Apt B m lo hi) (hs : Stay (fun k => lo ≤ k ∧ k < hi) x y) : Shv y A n cc B m d L Q := ⟨h.r1.keep h.n1 ha hs, h.r2.keep h.n2 hb hs, h.n1, h.n2, h.z1, h.z2⟩
/-- The answer's variable written. -/
theorem RW.ans (h : RW g g3 g4 g5 g6 w c A n cc B m d L Q a0 a1 a2 a3 a4 a5 x) (hs : Stay (fun k => k = g6) x y) {b0 b1 b2 b3 b4 b5 : Value} (hy : y.heap[g6]? = some (.cells #[b0, b1, b2, b3, b4, b5] 40 (0, 0))) : RW g g3 g4 g5 g6 w c A n cc B m d L Q b0 b1 b2 b3 b4 b5 y := by
  have h1 := h.o1; have h2 := h.o2; have h3 := h.o3; have h4 := h.o4
  have hk : ∀ k, k ≠ g6 → k < x.heap.size → y.heap[k]? = x.heap[k]? := fun k e hl => hs.block k e hl
  have hr := hs.mono (S' := fun k => g ≤ k ∧ k < g6 + 1) (fun k _ e => by rw [show k = g6 from e]; omega)
  exact ⟨h1, h2, h3, h4, (hk g (by omega) (lt_of_heap h.h2)).trans h.h2, (hk g3 (by omega) (lt_of_heap h.h3)).trans h.h3, (hk g4 (by omega) (lt_of_heap h.h4)).trans h.h4, (hk g5 (by omega) (lt_of_heap h.h5)).trans h.h5, hy, h.sh.keep h.ap h.aq hr, h.ap, h.aq, h.bel.trans (hs.below (fun k e => by rw [show k = g6 from e]; omega) (by have := lt_of_heap h.h2; omega))⟩
/-- The store's variable written. -/
theorem RW.put (h : RW g g3 g4 g5 g6 w c A n cc B m d L Q a0 a1 a2 a3 a4 a5 x) (hs : Stay (fun k => k = g) x y) {A' B' : Option Addr} {n' c' m' d' : Nat} {L' : List Kv} {Q' : List ByteArray} (hv : Shv x A' n' c' B' m' d' L' Q') (ha : Apt A' n' g (g6 + 1)) (hb : Apt B' m' g (g6 + 1)) (hy : y.heap[g]? = some (.cells #[.slice A' n' c', .slice B' m' d'] 29 (0, 0))) : RW g g3 g4 g5 g6 w c A' n' c' B' m' d' L' Q' a0 a1 a2 a3 a4 a5 y := by
  have h1 := h.o1; have h2 := h.o2; have h3 := h.o3; have h4 := h.o4
  have hk : ∀ k, k ≠ g → k < x.heap.size → y.heap[k]? = x.heap[k]? := fun k e hl => hs.block k e hl
  have hr := hs.mono (S' := fun k => g ≤ k ∧ k < g6 + 1) (fun k _ e => by rw [show k = g from e]; omega)
  exact ⟨h1, h2, h3, h4, hy, (hk g3 (by omega) (lt_of_heap h.h3)).trans h.h3, (hk g4 (by omega) (lt_of_heap h.h4)).trans h.h4, (hk g5 (by omega) (lt_of_heap h.h5)).trans h.h5, (hk g6 (by omega) (lt_of_heap h.h6)).trans h.h6, hv.keep ha hb hr, ha, hb, h.bel.trans (hs.below (fun k e => by rw [show k = g from e]; exact Nat.le_refl _) (by have := lt_of_heap h.h2; omega))⟩
theorem rap_end (h : RW g g3 g4 g5 g6 w c A n cc B m d L Q a0 a1 a2 a3 a4 a5 x) (hw : w.heap.size = g) {A0 B0 : Option Addr} {n0 m0 : Nat} {cd : Int} {f : Bool} {v : ByteArray} {A2 B2 : Option Addr} {n2 c2 m2 d2 : Nat} {M : List Kv} {H : List Bool} {W : World}
    (hA : ∀ lo hi, hi ≤ g → Apt A0 n0 lo hi → Apt A n lo hi) (hB : ∀ lo hi, hi ≤ g → Apt B0 m0 lo hi → Apt B m lo hi) (hM : RP.Row x A2 M) (hMn : M.length = n2) (hMa : Apt A2 n2 g (g6 + 1)) (hH : RB.Row x B2 H) (hHn : H.length = m2) (hHa : Apt B2 m2 g (g6 + 1)) (hs : Stay (fun k => k = g4 ∨ k = g5) x W) :
    RApTo w A0 n0 B0 m0 L Q cd f v M H (.returned (.tuple #[.agg #[.slice A n cc, .slice B m d], .agg #[.int .i64 cd, .bool f, .string v, .slice A2 n2 c2, .slice B2 m2 d2, .int .u64 0]])) W := by
  have h1 := h.o1; have h2 := h.o2; have h3 := h.o3; have h4 := h.o4
  have hr := hs.mono (S' := fun k => g ≤ k ∧ k < g6 + 1) (fun k _ e => by rcases e with e | e <;> omega)
  refine ⟨A, n, cc, B, m, d, A2, n2, c2, B2, m2, d2, rfl, h.sh.keep h.ap h.aq hr, by rw [hw]; exact hA, by rw [hw]; exact hB, hM.keep hMn hMa hr, hMn, hH.keep hHn hHa hr, hHn, ?_⟩
  rw [hw]
  exact h.bel.trans (hs.below (fun k e => by rcases e with e | e <;> omega) (by have := lt_of_heap h.h2; omega))
end
theorem rw_start {g g3 g4 g5 g6 : Nat} {w w1 w2 v4 v5 v6 : World} {c : Cal} {A : Option Addr} {n cc : Nat} {B : Option Addr} {m d : Nat} {L : List Kv} {Q : List ByteArray} (o1 : g < g3) (o2 : g3 < g4) (o3 : g4 < g5) (o4 : g5 < g6)
    (hx : w1.heap[g]? = some (.cells #[.slice A n cc, .slice B m d] 29 (0, 0))) (hb1 : Below g w w1) (h3 : w2.heap[g3]? = some (.cells #[.int .i64 c.kd, .string c.key, .string c.val, .string c.to_, .slice c.ga c.gn c.gc] 24 (0, 0))) (hb2 : Below g3 w1 w2)
    (h4 : v4.heap[g4]? = some (.cells #[.slice none 0 0, .slice none 0 0] 29 (0, 0))) (hb4 : Below g4 w2 v4) (h5 : v5.heap[g5]? = some (.cells #[.int .i64 0, .bool false, .string ⟨#[]⟩, .slice none 0 0, .slice none 0 0, .int .u64 0] 40 (0, 0))) (hb5 : Below g5 v4 v5) (h6 : v6.heap[g6]? = some (.cells #[.int .i64 0, .bool false, .string ⟨#[]⟩, .slice none 0 0, .slice none 0 0, .int .u64 0] 40 (0, 0))) (hb6 : Below g6 v5 v6)
    (hs : ∀ v, Below g w v → Shv v A n cc B m d L Q) (ha : Apt A n g (g6 + 1)) (hb : Apt B m g (g6 + 1)) :
    RW g g3 g4 g5 g6 w c A n cc B m d L Q (.int .i64 0) (.bool false) (.string ⟨#[]⟩) (.slice none 0 0) (.slice none 0 0) (.int .u64 0) v6 := by
  have hbel : Below g w v6 := (((hb1.trans (hb2.mono (by omega))).trans (hb4.mono (by omega))).trans (hb5.mono (by omega))).trans (hb6.mono (by omega))
  have e56 : v6.heap[g5]? = v5.heap[g5]? := hb6.block g5 o4
  have e45 : v6.heap[g4]? = v4.heap[g4]? := (hb6.block g4 (by omega)).trans (hb5.block g4 o3)
  have e3 : v6.heap[g3]? = w2.heap[g3]? := ((hb6.block g3 (by omega)).trans (hb5.block g3 (by omega))).trans (hb4.block g3 o2)
  have e2 : v6.heap[g]? = w1.heap[g]? := (((hb6.block g (by omega)).trans (hb5.block g (by omega))).trans (hb4.block g (by omega))).trans (hb2.block g o1)
  exact ⟨o1, o2, o3, o4, e2.trans hx, e3.trans h3, e45.trans h4, e56.trans h5, h6, hs v6 hbel, ha, hb, hbel⟩
section
variable {g g3 g4 g5 g6 : Nat} {w x y : World} {c : Cal} {A : Option Addr} {n cc : Nat} {B : Option Addr} {m d : Nat} {L : List Kv} {Q : List ByteArray} {a0 a1 a2 a3 a4 a5 : Value}
/-- What lies behind the frame alone has turned. -/
theorem RW.far (h : RW g g3 g4 g5 g6 w c A n cc B m d L Q a0 a1 a2 a3 a4 a5 x) (hs : Stay (fun k => g6 + 1 ≤ k) x y) (hsv : ∀ v, Below g w v → Shv v A n cc B m d L Q) : RW g g3 g4 g5 g6 w c A n cc B m d L Q a0 a1 a2 a3 a4 a5 y := by
  have h1 := h.o1; have h2 := h.o2; have h3 := h.o3; have h4 := h.o4
  have hb : Below g w y := h.bel.trans (hs.below (fun k e => by have : g6 + 1 ≤ k := e; omega) (Nat.le_of_lt (lt_of_heap h.h2)))
  exact ⟨h1, h2, h3, h4, (hs.block _ (by show ¬ g6 + 1 ≤ g; omega) (lt_of_heap h.h2)).trans h.h2, (hs.block _ (by show ¬ g6 + 1 ≤ g3; omega) (lt_of_heap h.h3)).trans h.h3, (hs.block _ (by show ¬ g6 + 1 ≤ g4; omega) (lt_of_heap h.h4)).trans h.h4, (hs.block _ (by show ¬ g6 + 1 ≤ g5; omega) (lt_of_heap h.h5)).trans h.h5, (hs.block _ (by show ¬ g6 + 1 ≤ g6; omega) (lt_of_heap h.h6)).trans h.h6, hsv y hb, h.ap, h.aq, hb⟩
/-- One pair more of a scan's answer. -/
theorem RW.scan {A9 : Option Addr} {k9 c9 : Nat} {M : List Kv} (h : RW g g3 g4 g5 g6 w c A n cc B m d L Q a0 a1 a2 (.slice A9 k9 c9) a4 a5 x) (hsv : ∀ v, Below g w v → Shv v A n cc B m d L Q) (ho : x.ownsRow (g6 + 1) RP.tE RP.k (.slice A9 k9 c9) k9 (RP.enc M)) (hm : M.length = k9) (hl : k9 < 1000000) (p : Kv) :
    ∃ A' c' W, (Builtin.append_ #[26, 26] 26 #[.slice A9 k9 c9, .slice (some ⟨x.heap.size, 0, none⟩) 1 1]).run Try.prog (x.alloc (.cells #[.string p.k, .string p.v] 58)) = .ok (.slice A' (k9 + 1) c') W ∧ W.cell? ⟨g6, 3, none⟩ = some (.slice A9 k9 c9) ∧ W.frozen? ⟨g6, 3, none⟩ = false ∧
      RW g g3 g4 g5 g6 w c A n cc B m d L Q a0 a1 a2 (.slice A' (k9 + 1) c') a4 a5 (W.setCell ⟨g6, 3, none⟩ (.slice A' (k9 + 1) c')) ∧ (W.setCell ⟨g6, 3, none⟩ (.slice A' (k9 + 1) c')).ownsRow (g6 + 1) RP.tE RP.k (.slice A' (k9 + 1) c') (k9 + 1) (RP.enc (M ++ [p])) := by
  obtain ⟨u, W, e1, e2, e3, e4, _⟩ := RP.run_app_one x (g6 + 1) k9 _ M p ho (by omega) h.lt 26
  obtain ⟨_, A', c', rfl, _⟩ := Rec.row_of_own e2 (by rw [List.length_append, hm]; show k9 + 1 ≤ _; omega)
  have hst : Stay (fun k => g6 + 1 ≤ k) x W := (Stay.of_grown e3).mono (fun k _ e => own_ge ho k e)
  have h1 := h.far hst hsv
  have hh := h1.h6
  refine ⟨A', c', W, e1, by simp [World.cell?, hh], by simp [World.frozen?, hh], h1.ans (Stay.setCell (S := fun k => k = g6) _ g6 3 _ rfl) (heap_setCell_same _ g6 3 _ _ _ h1.h6), own_same e2 (fun k hk => Below.heap_setCell _ _ _ _ (by have := own_ge e2 k hk; show k ≠ g6; omega))⟩
end
set_option maxHeartbeats 6400000 in
theorem rap_bad {w : World} {A B : Option Addr} {n cc m d : Nat} {L : List Kv} {Q : List ByteArray} (h : Shv w A n cc B m d L Q) (kd : Int) (key val to_ : ByteArray) (ga : Option Addr) (gn gc : Nat) (G : List Cal) (hG : Grp w ⟨kd, key, val, to_, ga, gn, gc⟩ G) (hgd : ¬ goodN ⟨kd, key, val, to_, ga, gn, gc⟩ G = 0) : Calls Try.prog 20 #[.agg #[.slice A n cc, .slice B m d], .agg #[.int .i64 kd, .string key, .string val, .string to_, .slice ga gn gc]] w (RApTo w A n B m L Q (goodN ⟨kd, key, val, to_, ga, gn, gc⟩ G) false ⟨#[]⟩ [] []) := by
  obtain ⟨g, hg⟩ : ∃ g, w.heap.size = g := ⟨_, rfl⟩
  obtain ⟨w1, hw1⟩ : ∃ w1, w.alloc (.cells #[.slice A n cc, .slice B m d] 29) = w1 := ⟨_, rfl⟩
  have HX : Hid (w1.heap[g]? = some (.cells #[.slice A n cc, .slice B m d] 29 (0, 0))) := by rw [← hw1, ← hg]; exact heap_alloc_new w _
  have HB1 : Hid (Below g w w1) := by rw [← hw1, ← hg]; exact (Below.refl _ _).alloc (Nat.le_refl _) _
  obtain ⟨g3, hg3⟩ : ∃ z, w1.heap.size = z := ⟨_, rfl⟩
  obtain ⟨w2, hw2⟩ : ∃ w2, w1.alloc (.cells #[.int .i64 kd, .string key, .string val, .string to_, .slice ga gn gc] 24) = w2 := ⟨_, rfl⟩
  have HX3 : Hid (w2.heap[g3]? = some (.cells #[.int .i64 kd, .string key, .string val, .string to_, .slice ga gn gc] 24 (0, 0))) := by rw [← hw2, ← hg3]; exact heap_alloc_new w1 _
  have HB2 : Hid (Below g3 w1 w2) := by rw [← hw2, ← hg3]; exact (Below.refl _ _).alloc (Nat.le_refl _) _
  have HL3 : Hid (g < g3) := hg3 ▸ lt_of_heap HX.out
  obtain ⟨g4, hg4⟩ : ∃ z, w2.heap.size = z := ⟨_, rfl⟩
  have HG4 := Lib.hid hg4
  have HL4 : Hid (g3 < g4) := hg4 ▸ lt_of_heap HX3.out
  have HZS := Lib.hid zero_shelf
  have HZA := Lib.hid zero_answer
  have HSV : Hid (∀ v, Below g w v → Shv v A n cc B m d L Q) := fun v hv => h.below (hg.symm ▸ hv)
  have HGR : Hid (∀ v, Below g w v → Grp v ⟨kd, key, val, to_, ga, gn, gc⟩ G) := fun v hv => hG.below (hg.symm ▸ hv)
  have HGO : Hid (∀ v, Below g w v → Calls Try.prog 16 #[.agg #[.int .i64 kd, .string key, .string val, .string to_, .slice ga gn gc]] v fun e w' => e = .returned (.int .i64 (goodN ⟨kd, key, val, to_, ga, gn, gc⟩ G)) ∧ Below v.heap.size v w') := fun v hv => rgood_any ⟨kd, key, val, to_, ga, gn, gc⟩ G v (HGR.out v hv)
  have HAO : Hid (∀ hi, Apt A n g hi ∧ Apt B m g hi) := fun hi => hg ▸ ⟨Apt.old h.r1 h.n1, Apt.old h.r2 h.n2⟩
  have HG0 := Lib.hid hg
  obtain ⟨R, hR⟩ : ∃ R, RApTo w A n B m L Q (goodN ⟨kd, key, val, to_, ga, gn, gc⟩ G) false ⟨#[]⟩ [] [] = R := ⟨_, rfl⟩
  have HFIN : Hid (∀ g3 g4 g5 g6 A1 n1 c1 B1 m1 d1 a0 a1 a2 a3 a4 a5 A2 n2 c2 B2 m2 d2 x W, RW g g3 g4 g5 g6 w ⟨kd, key, val, to_, ga, gn, gc⟩ A1 n1 c1 B1 m1 d1 L Q a0 a1 a2 a3 a4 a5 x → (∀ lo hi, hi ≤ g → Apt A n lo hi → Apt A1 n1 lo hi) → (∀ lo hi, hi ≤ g → Apt B m lo hi → Apt B1 m1 lo hi) → RP.Row x A2 [] → List.length [] = n2 → Apt A2 n2 g (g6 + 1) → RB.Row x B2 [] → List.length [] = m2 → Apt B2 m2 g (g6 + 1) → Stay (fun k => k = g4 ∨ k = g5) x W → R (.returned (.tuple #[.agg #[.slice A1 n1 c1, .slice B1 m1 d1], .agg #[.int .i64 (goodN ⟨kd, key, val, to_, ga, gn, gc⟩ G), .bool false, .string ⟨#[]⟩, .slice A2 n2 c2, .slice B2 m2 d2, .int .u64 0]])) W) := fun g3 g4 g5 g6 A1 n1 c1 B1 m1 d1 a0 a1 a2 a3 a4 a5 A2 n2 c2 B2 m2 d2 x W k1 k2 k3 k4 k5 k6 k7 k8 k9 k10 => by
    rw [← hR]
    exact rap_end k1 HG0.out k2 k3 k4 k5 k6 k7 k8 k9 k10
  have HAI : Hid (∀ lo hi, hi ≤ g → Apt A n lo hi → Apt A n lo hi) := fun _ _ _ h => h
  have HBI : Hid (∀ lo hi, hi ≤ g → Apt B m lo hi → Apt B m lo hi) := fun _ _ _ h => h
  have HGD := Lib.hid hgd
  rw [hR]
  obtain ⟨b0, b1⟩ := cells2 HX.out
  clear h hR hG hgd hg4
  go_enter Try.func20, Try.ntmps20
  go_wp2_with (first
    | ((with_reducible show wpList _ _ _ (⟨some 4, .alloc _, _, _, _, _⟩ :: _) _ _); refine wpList_alloc_var (o := ⟨some 4, _, _, _, _, _⟩) rfl 29 rfl g4 HG4.out _ HZS.out ?_; intro v4 X4 B4; obtain ⟨g5, hg5⟩ : ∃ z, v4.heap.size = z := ⟨_, rfl⟩; have HG5 := Lib.hid hg5; have HL5 : Hid (g4 < g5) := hg5 ▸ lt_of_heap X4.out; clear hg5)
    | ((with_reducible show wpList _ _ _ (⟨some 5, .alloc _, _, _, _, _⟩ :: _) _ _); refine wpList_alloc_var (o := ⟨some 5, _, _, _, _, _⟩) rfl 40 rfl g5 HG5.out _ HZA.out ?_; intro v5 X5 B5; obtain ⟨g6, hg6⟩ : ∃ z, v5.heap.size = z := ⟨_, rfl⟩; have HG6 := Lib.hid hg6; have HL6 : Hid (g5 < g6) := hg6 ▸ lt_of_heap X5.out; clear hg6)
    | ((with_reducible show wpList _ _ _ (⟨some 6, .alloc _, _, _, _, _⟩ :: _) _ _); refine wpList_alloc_var (o := ⟨some 6, _, _, _, _, _⟩) rfl 40 rfl g6 HG6.out _ HZA.out ?_; intro v6 X6 B6; have HR6 : Hid (RW g g3 g4 g5 g6 w ⟨kd, key, val, to_, ga, gn, gc⟩ A n cc B m d L Q _ _ _ _ _ _ v6) := rw_start HL3.out HL4.out HL5.out HL6.out HX.out HB1.out HX3.out HB2.out X4.out B4.out X5.out B5.out X6.out B6.out HSV.out (HAO.out _).1 (HAO.out _).2; clear b0 b1; obtain ⟨c0, c1, c2, c3, c4⟩ := cells5 HR6.out.h3)
    | fail)
  refine (HGO.out v6 HR6.out.bel).mono ?_
  clear hg hw1 hg3 hw2
  rintro e v7 ⟨rfl, hb⟩
  have HR7 := Lib.hid (HR6.out.below hb)
  clear hb c0 c1 c2 c3 c4
  have HFE : Hid (∀ e, goodN ⟨kd, key, val, to_, ga, gn, gc⟩ G = e → (e != 0) = true) := fun e he => by have := HGD.out; rw [he] at this; simpa using this
  obtain ⟨ec, hec⟩ : ∃ ec, goodN ⟨kd, key, val, to_, ga, gn, gc⟩ G = ec := ⟨_, rfl⟩
  have hne := HFE.out ec hec
  rw [hec] at HFIN ⊢
  clear hec
  obtain ⟨q0, q1, q2, q3, q4, q5⟩ := cells6 HR7.out.h6
  have fzq0 : v7.frozen? ⟨g6, 0, none⟩ = false := (by { have hh := HR7.out.h6; simp [World.frozen?, hh] })
  go_upto_region 5 with fail
  obtain ⟨x, hx⟩ : ∃ x, v7.setCell ⟨g6, 0, none⟩ (.int .i64 ec) = x := ⟨_, rfl⟩
  have HRx : Hid (RW g g3 g4 g5 g6 w ⟨kd, key, val, to_, ga, gn, gc⟩ A n cc B m d L Q (.int .i64 ec) (.bool false) (.string ⟨#[]⟩) (.slice none 0 0) (.slice none 0 0) (.int .u64 0) x) := by rw [← hx]; exact HR7.out.ans (Stay.setCell (S := fun k => k = g6) _ g6 0 _ rfl) (heap_setCell_same _ g6 0 _ _ _ HR7.out.h6)
  rw [hx]
  clear hx hne q0 q1 q2 q3 q4 q5 fzq0
  obtain ⟨p0, p1⟩ := cells2 HRx.out.h2
  obtain ⟨z0, z1⟩ := cells2 HRx.out.h4
  obtain ⟨y0, y1, y2, y3, y4, y5⟩ := cells6 HRx.out.h5
  obtain ⟨q0, q1, q2, q3, q4, q5⟩ := cells6 HRx.out.h6
  have fzz0 : x.frozen? ⟨g4, 0, none⟩ = false := (by { have hh := HRx.out.h4; simp [World.frozen?, hh] })
  have fzz1 : x.frozen? ⟨g4, 1, none⟩ = false := (by { have hh := HRx.out.h4; simp [World.frozen?, hh] })
  have fzy0 : x.frozen? ⟨g5, 0, none⟩ = false := (by { have hh := HRx.out.h5; simp [World.frozen?, hh] })
  have fzy1 : x.frozen? ⟨g5, 1, none⟩ = false := (by { have hh := HRx.out.h5; simp [World.frozen?, hh] })
  have fzy2 : x.frozen? ⟨g5, 2, none⟩ = false := (by { have hh := HRx.out.h5; simp [World.frozen?, hh] })
  have fzy3 : x.frozen? ⟨g5, 3, none⟩ = false := (by { have hh := HRx.out.h5; simp [World.frozen?, hh] })
  have fzy4 : x.frozen? ⟨g5, 4, none⟩ = false := (by { have hh := HRx.out.h5; simp [World.frozen?, hh] })
  have fzy5 : x.frozen? ⟨g5, 5, none⟩ = false := (by { have hh := HRx.out.h5; simp [World.frozen?, hh] })
  have d45 : ¬ g5 = g4 := Nat.ne_of_gt HL5.out
  have d54 : ¬ g4 = g5 := Nat.ne_of_lt HL5.out
  have d46 : ¬ g4 = g6 := Nat.ne_of_lt (Nat.lt_trans HL5.out HL6.out)
  have d64 : ¬ g6 = g4 := fun e => d46 e.symm
  have d56 : ¬ g5 = g6 := Nat.ne_of_lt HL6.out
  have d65 : ¬ g6 = g5 := fun e => d56 e.symm
  have dg4 : ¬ g = g4 := Nat.ne_of_lt (Nat.lt_trans HL3.out HL4.out)
  have d4g : ¬ g4 = g := fun e => dg4 e.symm
  have dg5 : ¬ g = g5 := Nat.ne_of_lt (Nat.lt_trans HL3.out (Nat.lt_trans HL4.out HL5.out))
  have d5g : ¬ g5 = g := fun e => dg5 e.symm
  go_upto_region 5 with fail
  go_region
  all_goals
    go_wp2
    obtain ⟨t4, t5, tst⟩ := out8 (s0 := .slice A n cc) (s1 := .slice B m d) (a := .int .i64 ec) (b := .bool false) (c := .string ⟨#[]⟩) (d := .slice none 0 0) (e := .slice none 0 0) (f := .int .u64 0) HRx.out.h4 HRx.out.h5 d54
    refine bodyPost_ret (results_v2 rfl Try.underlying29 Try.underlying40 rfl rfl t4 size_shelf t5 size_answer) rfl ?_
    exact HFIN.out _ _ _ _ _ _ _ _ _ _ _ _ _ _ _ _ _ _ _ _ _ _ _ _ HRx.out HAI.out HBI.out (RP.row_nil _ _) rfl (Apt.nil _ _ _) (RB.row_nil _ _) rfl (Apt.nil _ _ _) tst
set_option maxHeartbeats 6400000 in
theorem rap_1 {w : World} {A B : Option Addr} {n cc m d : Nat} {L : List Kv} {Q : List ByteArray} (h : Shv w A n cc B m d L Q) (key val to_ : ByteArray) (ga : Option Addr) (gn gc : Nat) (G : List Cal) (hG : Grp w ⟨1, key, val, to_, ga, gn, gc⟩ G) (hgd : goodN ⟨1, key, val, to_, ga, gn, gc⟩ G = 0) : Calls Try.prog 20 #[.agg #[.slice A n cc, .slice B m d], .agg #[.int .i64 1, .string key, .string val, .string to_, .slice ga gn gc]] w (RApTo w A n B m L Q 0 (hasK L key) (valK L key) [] []) := by
  obtain ⟨g, hg⟩ : ∃ g, w.heap.size = g := ⟨_, rfl⟩
  obtain ⟨w1, hw1⟩ : ∃ w1, w.alloc (.cells #[.slice A n cc, .slice B m d] 29) = w1 := ⟨_, rfl⟩
  have HX : Hid (w1.heap[g]? = some (.cells #[.slice A n cc, .slice B m d] 29 (0, 0))) := by rw [← hw1, ← hg]; exact heap_alloc_new w _
  have HB1 : Hid (Below g w w1) := by rw [← hw1, ← hg]; exact (Below.refl _ _).alloc (Nat.le_refl _) _
  obtain ⟨g3, hg3⟩ : ∃ z, w1.heap.size = z := ⟨_, rfl⟩
  obtain ⟨w2, hw2⟩ : ∃ w2, w1.alloc (.cells #[.int .i64 1, .string key, .string val, .string to_, .slice ga gn gc] 24) = w2 := ⟨_, rfl⟩
  have HX3 : Hid (w2.heap[g3]? = some (.cells #[.int .i64 1, .string key, .string val, .string to_, .slice ga gn gc] 24 (0, 0))) := by rw [← hw2, ← hg3]; exact heap_alloc_new w1 _
  have HB2 : Hid (Below g3 w1 w2) := by rw [← hw2, ← hg3]; exact (Below.refl _ _).alloc (Nat.le_refl _) _
  have HL3 : Hid (g < g3) := hg3 ▸ lt_of_heap HX.out
  obtain ⟨g4, hg4⟩ : ∃ z, w2.heap.size = z := ⟨_, rfl⟩
  have HG4 := Lib.hid hg4
  have HL4 : Hid (g3 < g4) := hg4 ▸ lt_of_heap HX3.out
  have HZS := Lib.hid zero_shelf
  have HZA := Lib.hid zero_answer
  have HSV : Hid (∀ v, Below g w v → Shv v A n cc B m d L Q) := fun v hv => h.below (hg.symm ▸ hv)
  have HGR : Hid (∀ v, Below g w v → Grp v ⟨1, key, val, to_, ga, gn, gc⟩ G) := fun v hv => hG.below (hg.symm ▸ hv)
  have HGO : Hid (∀ v, Below g w v → Calls Try.prog 16 #[.agg #[.int .i64 1, .string key, .string val, .string to_, .slice ga gn gc]] v fun e w' => e = .returned (.int .i64 (goodN ⟨1, key, val, to_, ga, gn, gc⟩ G)) ∧ Below v.heap.size v w') := fun v hv => rgood_any ⟨1, key, val, to_, ga, gn, gc⟩ G v (HGR.out v hv)
  have HAO : Hid (∀ hi, Apt A n g hi ∧ Apt B m g hi) := fun hi => hg ▸ ⟨Apt.old h.r1 h.n1, Apt.old h.r2 h.n2⟩
  have HG0 := Lib.hid hg
  obtain ⟨R, hR⟩ : ∃ R, RApTo w A n B m L Q 0 (hasK L key) (valK L key) [] [] = R := ⟨_, rfl⟩
  have HFIN : Hid (∀ g3 g4 g5 g6 A1 n1 c1 B1 m1 d1 a0 a1 a2 a3 a4 a5 A2 n2 c2 B2 m2 d2 x W, RW g g3 g4 g5 g6 w ⟨1, key, val, to_, ga, gn, gc⟩ A1 n1 c1 B1 m1 d1 L Q a0 a1 a2 a3 a4 a5 x → (∀ lo hi, hi ≤ g → Apt A n lo hi → Apt A1 n1 lo hi) → (∀ lo hi, hi ≤ g → Apt B m lo hi → Apt B1 m1 lo hi) → RP.Row x A2 [] → List.length [] = n2 → Apt A2 n2 g (g6 + 1) → RB.Row x B2 [] → List.length [] = m2 → Apt B2 m2 g (g6 + 1) → Stay (fun k => k = g4 ∨ k = g5) x W → R (.returned (.tuple #[.agg #[.slice A1 n1 c1, .slice B1 m1 d1], .agg #[.int .i64 0, .bool (hasK L key), .string (valK L key), .slice A2 n2 c2, .slice B2 m2 d2, .int .u64 0]])) W) := fun g3 g4 g5 g6 A1 n1 c1 B1 m1 d1 a0 a1 a2 a3 a4 a5 A2 n2 c2 B2 m2 d2 x W k1 k2 k3 k4 k5 k6 k7 k8 k9 k10 => by
    rw [← hR]
    exact rap_end k1 HG0.out k2 k3 k4 k5 k6 k7 k8 k9 k10
  have HAI : Hid (∀ lo hi, hi ≤ g → Apt A n lo hi → Apt A n lo hi) := fun _ _ _ h => h
  have HBI : Hid (∀ lo hi, hi ≤ g → Apt B m lo hi → Apt B m lo hi) := fun _ _ _ h => h
  have HGE : Hid (∀ v, Shv v A n cc B m d L Q → Calls Try.prog 22 #[.agg #[.slice A n cc, .slice B m d], .string key] v fun e w' => e = .returned (.tuple #[.string (valK L key), .bool (hasK L key)]) ∧ Below v.heap.size v w') := fun v hv => rget15_any hv key
  have HGD := Lib.hid hgd
  rw [hR]
  obtain ⟨b0, b1⟩ := cells2 HX.out
  clear h hR hG hgd hg4
  go_enter Try.func20, Try.ntmps20
  go_wp2_with (first
    | ((with_reducible show wpList _ _ _ (⟨some 4, .alloc _, _, _, _, _⟩ :: _) _ _); refine wpList_alloc_var (o := ⟨some 4, _, _, _, _, _⟩) rfl 29 rfl g4 HG4.out _ HZS.out ?_; intro v4 X4 B4; obtain ⟨g5, hg5⟩ : ∃ z, v4.heap.size = z := ⟨_, rfl⟩; have HG5 := Lib.hid hg5; have HL5 : Hid (g4 < g5) := hg5 ▸ lt_of_heap X4.out; clear hg5)
    | ((with_reducible show wpList _ _ _ (⟨some 5, .alloc _, _, _, _, _⟩ :: _) _ _); refine wpList_alloc_var (o := ⟨some 5, _, _, _, _, _⟩) rfl 40 rfl g5 HG5.out _ HZA.out ?_; intro v5 X5 B5; obtain ⟨g6, hg6⟩ : ∃ z, v5.heap.size = z := ⟨_, rfl⟩; have HG6 := Lib.hid hg6; have HL6 : Hid (g5 < g6) := hg6 ▸ lt_of_heap X5.out; clear hg6)
    | ((with_reducible show wpList _ _ _ (⟨some 6, .alloc _, _, _, _, _⟩ :: _) _ _); refine wpList_alloc_var (o := ⟨some 6, _, _, _, _, _⟩) rfl 40 rfl g6 HG6.out _ HZA.out ?_; intro v6 X6 B6; have HR6 : Hid (RW g g3 g4 g5 g6 w ⟨1, key, val, to_, ga, gn, gc⟩ A n cc B m d L Q _ _ _ _ _ _ v6) := rw_start HL3.out HL4.out HL5.out HL6.out HX.out HB1.out HX3.out HB2.out X4.out B4.out X5.out B5.out X6.out B6.out HSV.out (HAO.out _).1 (HAO.out _).2; clear b0 b1; obtain ⟨c0, c1, c2, c3, c4⟩ := cells5 HR6.out.h3)
    | fail)
  refine (HGO.out v6 HR6.out.bel).mono ?_
  clear hg hw1 hg3 hw2
  rintro e v7 ⟨rfl, hb⟩
  have HR7 := Lib.hid (HR6.out.below hb)
  clear hb c0 c1 c2 c3 c4
  rw [HGD.out]
  obtain ⟨p0, p1⟩ := cells2 HR7.out.h2
  obtain ⟨c0, c1, c2, c3, c4⟩ := cells5 HR7.out.h3
  generalize valK L key = vl at *
  generalize hasK L key = hs at *
  go_wp2_with fail
  refine (HGE.out v7 HR7.out.sh).mono ?_
  clear p0 p1 c0 c1 c2 c3 c4
  rintro e v8 ⟨rfl, hb⟩
  have HR8 := Lib.hid (HR7.out.below hb)
  clear hb
  obtain ⟨q0, q1, q2, q3, q4, q5⟩ := cells6 HR8.out.h6
  have fzq1 : v8.frozen? ⟨g6, 1, none⟩ = false := (by { have hh := HR8.out.h6; simp [World.frozen?, hh] })
  have fzq2 : v8.frozen? ⟨g6, 2, none⟩ = false := (by { have hh := HR8.out.h6; simp [World.frozen?, hh] })
  go_upto_region 35 with fail
  obtain ⟨x, hx⟩ : ∃ x, (v8.setCell ⟨g6, 2, none⟩ (.string vl)).setCell ⟨g6, 1, none⟩ (.bool hs) = x := ⟨_, rfl⟩
  have HRx : Hid (RW g g3 g4 g5 g6 w ⟨1, key, val, to_, ga, gn, gc⟩ A n cc B m d L Q (.int .i64 0) (.bool hs) (.string vl) (.slice none 0 0) (.slice none 0 0) (.int .u64 0) x) := by rw [← hx]; exact HR8.out.ans ((Stay.setCell (S := fun k => k = g6) _ g6 2 _ rfl).trans (Stay.setCell (S := fun k => k = g6) _ g6 1 _ rfl)) (heap_setCell_same _ g6 1 _ _ _ (heap_setCell_same _ g6 2 _ _ _ HR8.out.h6))
  rw [hx]
  clear hx q0 q1 q2 q3 q4 q5 fzq1 fzq2
  obtain ⟨p0, p1⟩ := cells2 HRx.out.h2
  obtain ⟨z0, z1⟩ := cells2 HRx.out.h4
  obtain ⟨y0, y1, y2, y3, y4, y5⟩ := cells6 HRx.out.h5
  obtain ⟨q0, q1, q2, q3, q4, q5⟩ := cells6 HRx.out.h6
  have fzz0 : x.frozen? ⟨g4, 0, none⟩ = false := (by { have hh := HRx.out.h4; simp [World.frozen?, hh] })
  have fzz1 : x.frozen? ⟨g4, 1, none⟩ = false := (by { have hh := HRx.out.h4; simp [World.frozen?, hh] })
  have fzy0 : x.frozen? ⟨g5, 0, none⟩ = false := (by { have hh := HRx.out.h5; simp [World.frozen?, hh] })
  have fzy1 : x.frozen? ⟨g5, 1, none⟩ = false := (by { have hh := HRx.out.h5; simp [World.frozen?, hh] })
  have fzy2 : x.frozen? ⟨g5, 2, none⟩ = false := (by { have hh := HRx.out.h5; simp [World.frozen?, hh] })
  have fzy3 : x.frozen? ⟨g5, 3, none⟩ = false := (by { have hh := HRx.out.h5; simp [World.frozen?, hh] })
  have fzy4 : x.frozen? ⟨g5, 4, none⟩ = false := (by { have hh := HRx.out.h5; simp [World.frozen?, hh] })
  have fzy5 : x.frozen? ⟨g5, 5, none⟩ = false := (by { have hh := HRx.out.h5; simp [World.frozen?, hh] })
  have d45 : ¬ g5 = g4 := Nat.ne_of_gt HL5.out
  have d54 : ¬ g4 = g5 := Nat.ne_of_lt HL5.out
  have d46 : ¬ g4 = g6 := Nat.ne_of_lt (Nat.lt_trans HL5.out HL6.out)
  have d64 : ¬ g6 = g4 := fun e => d46 e.symm
  have d56 : ¬ g5 = g6 := Nat.ne_of_lt HL6.out
  have d65 : ¬ g6 = g5 := fun e => d56 e.symm
  have dg4 : ¬ g = g4 := Nat.ne_of_lt (Nat.lt_trans HL3.out HL4.out)
  have d4g : ¬ g4 = g := fun e => dg4 e.symm
  have dg5 : ¬ g = g5 := Nat.ne_of_lt (Nat.lt_trans HL3.out (Nat.lt_trans HL4.out HL5.out))
  have d5g : ¬ g5 = g := fun e => dg5 e.symm
  go_upto_region 35 with fail
  go_region
  all_goals
    go_wp2
    obtain ⟨t4, t5, tst⟩ := out8 (s0 := .slice A n cc) (s1 := .slice B m d) (a := .int .i64 0) (b := .bool hs) (c := .string vl) (d := .slice none 0 0) (e := .slice none 0 0) (f := .int .u64 0) HRx.out.h4 HRx.out.h5 d54
    refine bodyPost_ret (results_v2 rfl Try.underlying29 Try.underlying40 rfl rfl t4 size_shelf t5 size_answer) rfl ?_
    exact HFIN.out _ _ _ _ _ _ _ _ _ _ _ _ _ _ _ _ _ _ _ _ _ _ _ _ HRx.out HAI.out HBI.out (RP.row_nil _ _) rfl (Apt.nil _ _ _) (RB.row_nil _ _) rfl (Apt.nil _ _ _) tst
set_option maxHeartbeats 6400000 in
theorem rap_8 {w : World} {A B : Option Addr} {n cc m d : Nat} {L : List Kv} {Q : List ByteArray} (h : Shv w A n cc B m d L Q) (key val to_ : ByteArray) (ga : Option Addr) (gn gc : Nat) (G : List Cal) (hG : Grp w ⟨8, key, val, to_, ga, gn, gc⟩ G) (hgd : goodN ⟨8, key, val, to_, ga, gn, gc⟩ G = 0) : Calls Try.prog 20 #[.agg #[.slice A n cc, .slice B m d], .agg #[.int .i64 8, .string key, .string val, .string to_, .slice ga gn gc]] w (RApTo w A n B m L Q 0 false ⟨#[]⟩ [] []) := by
  obtain ⟨g, hg⟩ : ∃ g, w.heap.size = g := ⟨_, rfl⟩
  obtain ⟨w1, hw1⟩ : ∃ w1, w.alloc (.cells #[.slice A n cc, .slice B m d] 29) = w1 := ⟨_, rfl⟩
  have HX : Hid (w1.heap[g]? = some (.cells #[.slice A n cc, .slice B m d] 29 (0, 0))) := by rw [← hw1, ← hg]; exact heap_alloc_new w _
  have HB1 : Hid (Below g w w1) := by rw [← hw1, ← hg]; exact (Below.refl _ _).alloc (Nat.le_refl _) _
  obtain ⟨g3, hg3⟩ : ∃ z, w1.heap.size = z := ⟨_, rfl⟩
  obtain ⟨w2, hw2⟩ : ∃ w2, w1.alloc (.cells #[.int .i64 8, .string key, .string val, .string to_, .slice ga gn gc] 24) = w2 := ⟨_, rfl⟩
  have HX3 : Hid (w2.heap[g3]? = some (.cells #[.int .i64 8, .string key, .string val, .string to_, .slice ga gn gc] 24 (0, 0))) := by rw [← hw2, ← hg3]; exact heap_alloc_new w1 _
  have HB2 : Hid (Below g3 w1 w2) := by rw [← hw2, ← hg3]; exact (Below.refl _ _).alloc (Nat.le_refl _) _
  have HL3 : Hid (g < g3) := hg3 ▸ lt_of_heap HX.out
  obtain ⟨g4, hg4⟩ : ∃ z, w2.heap.size = z := ⟨_, rfl⟩
  have HG4 := Lib.hid hg4
  have HL4 : Hid (g3 < g4) := hg4 ▸ lt_of_heap HX3.out
  have HZS := Lib.hid zero_shelf
  have HZA := Lib.hid zero_answer
  have HSV : Hid (∀ v, Below g w v → Shv v A n cc B m d L Q) := fun v hv => h.below (hg.symm ▸ hv)
  have HGR : Hid (∀ v, Below g w v → Grp v ⟨8, key, val, to_, ga, gn, gc⟩ G) := fun v hv => hG.below (hg.symm ▸ hv)
  have HGO : Hid (∀ v, Below g w v → Calls Try.prog 16 #[.agg #[.int .i64 8, .string key, .string val, .string to_, .slice ga gn gc]] v fun e w' => e = .returned (.int .i64 (goodN ⟨8, key, val, to_, ga, gn, gc⟩ G)) ∧ Below v.heap.size v w') := fun v hv => rgood_any ⟨8, key, val, to_, ga, gn, gc⟩ G v (HGR.out v hv)
  have HAO : Hid (∀ hi, Apt A n g hi ∧ Apt B m g hi) := fun hi => hg ▸ ⟨Apt.old h.r1 h.n1, Apt.old h.r2 h.n2⟩
  have HG0 := Lib.hid hg
  obtain ⟨R, hR⟩ : ∃ R, RApTo w A n B m L Q 0 false ⟨#[]⟩ [] [] = R := ⟨_, rfl⟩
  have HFIN : Hid (∀ g3 g4 g5 g6 A1 n1 c1 B1 m1 d1 a0 a1 a2 a3 a4 a5 A2 n2 c2 B2 m2 d2 x W, RW g g3 g4 g5 g6 w ⟨8, key, val, to_, ga, gn, gc⟩ A1 n1 c1 B1 m1 d1 L Q a0 a1 a2 a3 a4 a5 x → (∀ lo hi, hi ≤ g → Apt A n lo hi → Apt A1 n1 lo hi) → (∀ lo hi, hi ≤ g → Apt B m lo hi → Apt B1 m1 lo hi) → RP.Row x A2 [] → List.length [] = n2 → Apt A2 n2 g (g6 + 1) → RB.Row x B2 [] → List.length [] = m2 → Apt B2 m2 g (g6 + 1) → Stay (fun k => k = g4 ∨ k = g5) x W → R (.returned (.tuple #[.agg #[.slice A1 n1 c1, .slice B1 m1 d1], .agg #[.int .i64 0, .bool false, .string ⟨#[]⟩, .slice A2 n2 c2, .slice B2 m2 d2, .int .u64 0]])) W) := fun g3 g4 g5 g6 A1 n1 c1 B1 m1 d1 a0 a1 a2 a3 a4 a5 A2 n2 c2 B2 m2 d2 x W k1 k2 k3 k4 k5 k6 k7 k8 k9 k10 => by
    rw [← hR]
    exact rap_end k1 HG0.out k2 k3 k4 k5 k6 k7 k8 k9 k10
  have HAI : Hid (∀ lo hi, hi ≤ g → Apt A n lo hi → Apt A n lo hi) := fun _ _ _ h => h
  have HBI : Hid (∀ lo hi, hi ≤ g → Apt B m lo hi → Apt B m lo hi) := fun _ _ _ h => h
  have HGD := Lib.hid hgd
  rw [hR]
  obtain ⟨b0, b1⟩ := cells2 HX.out
  clear h hR hG hgd hg4
  go_enter Try.func20, Try.ntmps20
  go_wp2_with (first
    | ((with_reducible show wpList _ _ _ (⟨some 4, .alloc _, _, _, _, _⟩ :: _) _ _); refine wpList_alloc_var (o := ⟨some 4, _, _, _, _, _⟩) rfl 29 rfl g4 HG4.out _ HZS.out ?_; intro v4 X4 B4; obtain ⟨g5, hg5⟩ : ∃ z, v4.heap.size = z := ⟨_, rfl⟩; have HG5 := Lib.hid hg5; have HL5 : Hid (g4 < g5) := hg5 ▸ lt_of_heap X4.out; clear hg5)
    | ((with_reducible show wpList _ _ _ (⟨some 5, .alloc _, _, _, _, _⟩ :: _) _ _); refine wpList_alloc_var (o := ⟨some 5, _, _, _, _, _⟩) rfl 40 rfl g5 HG5.out _ HZA.out ?_; intro v5 X5 B5; obtain ⟨g6, hg6⟩ : ∃ z, v5.heap.size = z := ⟨_, rfl⟩; have HG6 := Lib.hid hg6; have HL6 : Hid (g5 < g6) := hg6 ▸ lt_of_heap X5.out; clear hg6)
    | ((with_reducible show wpList _ _ _ (⟨some 6, .alloc _, _, _, _, _⟩ :: _) _ _); refine wpList_alloc_var (o := ⟨some 6, _, _, _, _, _⟩) rfl 40 rfl g6 HG6.out _ HZA.out ?_; intro v6 X6 B6; have HR6 : Hid (RW g g3 g4 g5 g6 w ⟨8, key, val, to_, ga, gn, gc⟩ A n cc B m d L Q _ _ _ _ _ _ v6) := rw_start HL3.out HL4.out HL5.out HL6.out HX.out HB1.out HX3.out HB2.out X4.out B4.out X5.out B5.out X6.out B6.out HSV.out (HAO.out _).1 (HAO.out _).2; clear b0 b1; obtain ⟨c0, c1, c2, c3, c4⟩ := cells5 HR6.out.h3)
    | fail)
  refine (HGO.out v6 HR6.out.bel).mono ?_
  clear hg hw1 hg3 hw2
  rintro e v7 ⟨rfl, hb⟩
  have HR7 := Lib.hid (HR6.out.below hb)
  clear hb c0 c1 c2 c3 c4
  rw [HGD.out]
  obtain ⟨p0, p1⟩ := cells2 HR7.out.h2
  obtain ⟨c0, c1, c2, c3, c4⟩ := cells5 HR7.out.h3
  clear p0 p1
  obtain ⟨p0, p1⟩ := cells2 HR7.out.h2
  obtain ⟨z0, z1⟩ := cells2 HR7.out.h4
  obtain ⟨y0, y1, y2, y3, y4, y5⟩ := cells6 HR7.out.h5
  obtain ⟨q0, q1, q2, q3, q4, q5⟩ := cells6 HR7.out.h6
  have fzz0 : v7.frozen? ⟨g4, 0, none⟩ = false := (by { have hh := HR7.out.h4; simp [World.frozen?, hh] })
  have fzz1 : v7.frozen? ⟨g4, 1, none⟩ = false := (by { have hh := HR7.out.h4; simp [World.frozen?, hh] })
  have fzy0 : v7.frozen? ⟨g5, 0, none⟩ = false := (by { have hh := HR7.out.h5; simp [World.frozen?, hh] })
  have fzy1 : v7.frozen? ⟨g5, 1, none⟩ = false := (by { have hh := HR7.out.h5; simp [World.frozen?, hh] })
  have fzy2 : v7.frozen? ⟨g5, 2, none⟩ = false := (by { have hh := HR7.out.h5; simp [World.frozen?, hh] })
  have fzy3 : v7.frozen? ⟨g5, 3, none⟩ = false := (by { have hh := HR7.out.h5; simp [World.frozen?, hh] })
  have fzy4 : v7.frozen? ⟨g5, 4, none⟩ = false := (by { have hh := HR7.out.h5; simp [World.frozen?, hh] })
  have fzy5 : v7.frozen? ⟨g5, 5, none⟩ = false := (by { have hh := HR7.out.h5; simp [World.frozen?, hh] })
  have d45 : ¬ g5 = g4 := Nat.ne_of_gt HL5.out
  have d54 : ¬ g4 = g5 := Nat.ne_of_lt HL5.out
  have d46 : ¬ g4 = g6 := Nat.ne_of_lt (Nat.lt_trans HL5.out HL6.out)
  have d64 : ¬ g6 = g4 := fun e => d46 e.symm
  have d56 : ¬ g5 = g6 := Nat.ne_of_lt HL6.out
  have d65 : ¬ g6 = g5 := fun e => d56 e.symm
  have dg4 : ¬ g = g4 := Nat.ne_of_lt (Nat.lt_trans HL3.out HL4.out)
  have d4g : ¬ g4 = g := fun e => dg4 e.symm
  have dg5 : ¬ g = g5 := Nat.ne_of_lt (Nat.lt_trans HL3.out (Nat.lt_trans HL4.out HL5.out))
  have d5g : ¬ g5 = g := fun e => dg5 e.symm
  go_upto_region 35 with fail
  go_region
  all_goals
    go_wp2
    obtain ⟨t4, t5, tst⟩ := out8 (s0 := .slice A n cc) (s1 := .slice B m d) (a := .int .i64 0) (b := .bool false) (c := .string ⟨#[]⟩) (d := .slice none 0 0) (e := .slice none 0 0) (f := .int .u64 0) HR7.out.h4 HR7.out.h5 d54
    refine bodyPost_ret (results_v2 rfl Try.underlying29 Try.underlying40 rfl rfl t4 size_shelf t5 size_answer) rfl ?_
    exact HFIN.out _ _ _ _ _ _ _ _ _ _ _ _ _ _ _ _ _ _ _ _ _ _ _ _ HR7.out HAI.out HBI.out (RP.row_nil _ _) rfl (Apt.nil _ _ _) (RB.row_nil _ _) rfl (Apt.nil _ _ _) tst
set_option maxHeartbeats 6400000 in
theorem rap_2 {w : World} {A B : Option Addr} {n cc m d : Nat} {L : List Kv} {Q : List ByteArray} (h : Shv w A n cc B m d L Q) (hl : L.length < 400000) (hq : Q.length < 900000) (key val to_ : ByteArray) (ga : Option Addr) (gn gc : Nat) (G : List Cal) (hG : Grp w ⟨2, key, val, to_, ga, gn, gc⟩ G) (hgd : goodN ⟨2, key, val, to_, ga, gn, gc⟩ G = 0) : Calls Try.prog 20 #[.agg #[.slice A n cc, .slice B m d], .agg #[.int .i64 2, .string key, .string val, .string to_, .slice ga gn gc]] w (RApTo w A n B m (setK L key val) Q 0 (hasK L key) ⟨#[]⟩ [] []) := by
  obtain ⟨g, hg⟩ : ∃ g, w.heap.size = g := ⟨_, rfl⟩
  obtain ⟨w1, hw1⟩ : ∃ w1, w.alloc (.cells #[.slice A n cc, .slice B m d] 29) = w1 := ⟨_, rfl⟩
  have HX : Hid (w1.heap[g]? = some (.cells #[.slice A n cc, .slice B m d] 29 (0, 0))) := by rw [← hw1, ← hg]; exact heap_alloc_new w _
  have HB1 : Hid (Below g w w1) := by rw [← hw1, ← hg]; exact (Below.refl _ _).alloc (Nat.le_refl _) _
  obtain ⟨g3, hg3⟩ : ∃ z, w1.heap.size = z := ⟨_, rfl⟩
  obtain ⟨w2, hw2⟩ : ∃ w2, w1.alloc (.cells #[.int .i64 2, .string key, .string val, .string to_, .slice ga gn gc] 24) = w2 := ⟨_, rfl⟩
  have HX3 : Hid (w2.heap[g3]? = some (.cells #[.int .i64 2, .string key, .string val, .string to_, .slice ga gn gc] 24 (0, 0))) := by rw [← hw2, ← hg3]; exact heap_alloc_new w1 _
  have HB2 : Hid (Below g3 w1 w2) := by rw [← hw2, ← hg3]; exact (Below.refl _ _).alloc (Nat.le_refl _) _
  have HL3 : Hid (g < g3) := hg3 ▸ lt_of_heap HX.out
  obtain ⟨g4, hg4⟩ : ∃ z, w2.heap.size = z := ⟨_, rfl⟩
  have HG4 := Lib.hid hg4
  have HL4 : Hid (g3 < g4) := hg4 ▸ lt_of_heap HX3.out
  have HZS := Lib.hid zero_shelf
  have HZA := Lib.hid zero_answer
  have HSV : Hid (∀ v, Below g w v → Shv v A n cc B m d L Q) := fun v hv => h.below (hg.symm ▸ hv)
  have HGR : Hid (∀ v, Below g w v → Grp v ⟨2, key, val, to_, ga, gn, gc⟩ G) := fun v hv => hG.below (hg.symm ▸ hv)
  have HGO : Hid (∀ v, Below g w v → Calls Try.prog 16 #[.agg #[.int .i64 2, .string key, .string val, .string to_, .slice ga gn gc]] v fun e w' => e = .returned (.int .i64 (goodN ⟨2, key, val, to_, ga, gn, gc⟩ G)) ∧ Below v.heap.size v w') := fun v hv => rgood_any ⟨2, key, val, to_, ga, gn, gc⟩ G v (HGR.out v hv)
  have HAO : Hid (∀ hi, Apt A n g hi ∧ Apt B m g hi) := fun hi => hg ▸ ⟨Apt.old h.r1 h.n1, Apt.old h.r2 h.n2⟩
  have HG0 := Lib.hid hg
  obtain ⟨R, hR⟩ : ∃ R, RApTo w A n B m (setK L key val) Q 0 (hasK L key) ⟨#[]⟩ [] [] = R := ⟨_, rfl⟩
  have HFIN : Hid (∀ g3 g4 g5 g6 A1 n1 c1 B1 m1 d1 a0 a1 a2 a3 a4 a5 A2 n2 c2 B2 m2 d2 x W, RW g g3 g4 g5 g6 w ⟨2, key, val, to_, ga, gn, gc⟩ A1 n1 c1 B1 m1 d1 (setK L key val) Q a0 a1 a2 a3 a4 a5 x → (∀ lo hi, hi ≤ g → Apt A n lo hi → Apt A1 n1 lo hi) → (∀ lo hi, hi ≤ g → Apt B m lo hi → Apt B1 m1 lo hi) → RP.Row x A2 [] → List.length [] = n2 → Apt A2 n2 g (g6 + 1) → RB.Row x B2 [] → List.length [] = m2 → Apt B2 m2 g (g6 + 1) → Stay (fun k => k = g4 ∨ k = g5) x W → R (.returned (.tuple #[.agg #[.slice A1 n1 c1, .slice B1 m1 d1], .agg #[.int .i64 0, .bool (hasK L key), .string ⟨#[]⟩, .slice A2 n2 c2, .slice B2 m2 d2, .int .u64 0]])) W) := fun g3 g4 g5 g6 A1 n1 c1 B1 m1 d1 a0 a1 a2 a3 a4 a5 A2 n2 c2 B2 m2 d2 x W k1 k2 k3 k4 k5 k6 k7 k8 k9 k10 => by
    rw [← hR]
    exact rap_end k1 HG0.out k2 k3 k4 k5 k6 k7 k8 k9 k10
  have HAI : Hid (∀ lo hi, hi ≤ g → Apt A n lo hi → Apt A n lo hi) := fun _ _ _ h => h
  have HBI : Hid (∀ lo hi, hi ≤ g → Apt B m lo hi → Apt B m lo hi) := fun _ _ _ h => h
  have HGE : Hid (∀ v, Shv v A n cc B m d L Q → Calls Try.prog 22 #[.agg #[.slice A n cc, .slice B m d], .string key] v fun e w' => e = .returned (.tuple #[.string (valK L key), .bool (hasK L key)]) ∧ Below v.heap.size v w') := fun v hv => rget15_any hv key
  have HPU : Hid (∀ v, Shv v A n cc B m d L Q → Calls Try.prog 42 #[.agg #[.slice A n cc, .slice B m d], .string key, .string val] v (RefTo v (setK L key val) Q)) := fun v hv => rput15_any hv hl hq key val
  have HLB : Hid ((setK L key val).length ≤ 1048576) := by have := setK_len L key val; show _ ≤ _; omega
  have HQB : Hid (Q.length ≤ 1048576) := by show _ ≤ _; omega
  have HGD := Lib.hid hgd
  rw [hR]
  obtain ⟨b0, b1⟩ := cells2 HX.out
  clear h hR hG hgd hg4 hl hq
  go_enter Try.func20, Try.ntmps20
  go_wp2_with (first
    | ((with_reducible show wpList _ _ _ (⟨some 4, .alloc _, _, _, _, _⟩ :: _) _ _); refine wpList_alloc_var (o := ⟨some 4, _, _, _, _, _⟩) rfl 29 rfl g4 HG4.out _ HZS.out ?_; intro v4 X4 B4; obtain ⟨g5, hg5⟩ : ∃ z, v4.heap.size = z := ⟨_, rfl⟩; have HG5 := Lib.hid hg5; have HL5 : Hid (g4 < g5) := hg5 ▸ lt_of_heap X4.out; clear hg5)
    | ((with_reducible show wpList _ _ _ (⟨some 5, .alloc _, _, _, _, _⟩ :: _) _ _); refine wpList_alloc_var (o := ⟨some 5, _, _, _, _, _⟩) rfl 40 rfl g5 HG5.out _ HZA.out ?_; intro v5 X5 B5; obtain ⟨g6, hg6⟩ : ∃ z, v5.heap.size = z := ⟨_, rfl⟩; have HG6 := Lib.hid hg6; have HL6 : Hid (g5 < g6) := hg6 ▸ lt_of_heap X5.out; clear hg6)
    | ((with_reducible show wpList _ _ _ (⟨some 6, .alloc _, _, _, _, _⟩ :: _) _ _); refine wpList_alloc_var (o := ⟨some 6, _, _, _, _, _⟩) rfl 40 rfl g6 HG6.out _ HZA.out ?_; intro v6 X6 B6; have HR6 : Hid (RW g g3 g4 g5 g6 w ⟨2, key, val, to_, ga, gn, gc⟩ A n cc B m d L Q _ _ _ _ _ _ v6) := rw_start HL3.out HL4.out HL5.out HL6.out HX.out HB1.out HX3.out HB2.out X4.out B4.out X5.out B5.out X6.out B6.out HSV.out (HAO.out _).1 (HAO.out _).2; clear b0 b1; obtain ⟨c0, c1, c2, c3, c4⟩ := cells5 HR6.out.h3)
    | fail)
  refine (HGO.out v6 HR6.out.bel).mono ?_
  clear hg hw1 hg3 hw2
  rintro e v7 ⟨rfl, hb⟩
  have HR7 := Lib.hid (HR6.out.below hb)
  clear hb c0 c1 c2 c3 c4
  rw [HGD.out]
  obtain ⟨p0, p1⟩ := cells2 HR7.out.h2
  obtain ⟨c0, c1, c2, c3, c4⟩ := cells5 HR7.out.h3
  generalize valK L key = vl at *
  generalize hasK L key = hs at *
  go_wp2_with fail
  refine (HGE.out v7 HR7.out.sh).mono ?_
  clear p0 p1 c0 c1 c2 c3 c4
  rintro e v8 ⟨rfl, hb⟩
  have HR8 := Lib.hid (HR7.out.below hb)
  clear hb
  obtain ⟨q0, q1, q2, q3, q4, q5⟩ := cells6 HR8.out.h6
  obtain ⟨p0, p1⟩ := cells2 HR8.out.h2
  obtain ⟨c0, c1, c2, c3, c4⟩ := cells5 HR8.out.h3
  have hg6a : ¬ g6 = g := Nat.ne_of_gt (Nat.lt_trans HL3.out (Nat.lt_trans HL4.out (Nat.lt_trans HL5.out HL6.out)))
  have hg6b : ¬ g = g6 := fun e => hg6a e.symm
  have hg6c : ¬ g6 = g3 := Nat.ne_of_gt (Nat.lt_trans HL4.out (Nat.lt_trans HL5.out HL6.out))
  have hg6d : ¬ g3 = g6 := fun e => hg6c e.symm
  have fzq1 : v8.frozen? ⟨g6, 1, none⟩ = false := (by { have hh := HR8.out.h6; simp [World.frozen?, hh] })
  go_wp2_with fail
  have HR8b : Hid (RW g g3 g4 g5 g6 w ⟨2, key, val, to_, ga, gn, gc⟩ A n cc B m d L Q (.int .i64 0) (.bool hs) (.string ⟨#[]⟩) (.slice none 0 0) (.slice none 0 0) (.int .u64 0) (v8.setCell ⟨g6, 1, none⟩ (.bool hs))) := HR8.out.ans (Stay.setCell (S := fun k => k = g6) _ g6 1 _ rfl) (heap_setCell_same _ g6 1 _ _ _ HR8.out.h6)
  refine (HPU.out _ HR8b.out.sh).mono ?_
  clear p0 p1 c0 c1 c2 c3 c4 q0 q1 q2 q3 q4 q5 fzq1 hg6a hg6b hg6c hg6d
  rintro e v9 ⟨A1, n1, cc1, B1, m1, d1, rfl, ho, hb⟩
  have HR9 := Lib.hid (HR8b.out.below hb)
  have HOW := Lib.hid ho
  have HLE : Hid (g6 + 1 ≤ (v8.setCell ⟨g6, 1, none⟩ (.bool hs)).heap.size) := HR8b.out.lt
  clear ho hb
  go_wp2_with (first
    | ((with_reducible show wpList _ _ _ (⟨none, .store _ (.tmp 2) _, _, _, _, _⟩ :: _) _ _); refine wpList_store_only (o := ⟨none, .store 29 (.tmp 2) (.tmp 48), _, _, _, _⟩) rfl _ _ _ rfl rfl g #[.slice A1 n1 cc1, .slice B1 m1 d1] rfl rfl 29 _ HR9.out.h2 size_shelf rfl (onesV _ _ _ _ _ _) ?_; intro x X T; have HRx := Lib.hid (HR9.out.put (stay_of_turns T.out) (HOW.out.shv (by have := HLB.out; omega) (by have := HQB.out; omega)) (Apt.own HOW.out.o1 HLE.out) (Apt.own HOW.out.o2 HLE.out) X.out); obtain ⟨p0, p1⟩ := cells2 HRx.out.h2; obtain ⟨z0, z1⟩ := cells2 HRx.out.h4; obtain ⟨y0, y1, y2, y3, y4, y5⟩ := cells6 HRx.out.h5; obtain ⟨q0, q1, q2, q3, q4, q5⟩ := cells6 HRx.out.h6; have fzz0 : x.frozen? ⟨g4, 0, none⟩ = false := (by { have hh := HRx.out.h4; simp [World.frozen?, hh] }); have fzz1 : x.frozen? ⟨g4, 1, none⟩ = false := (by { have hh := HRx.out.h4; simp [World.frozen?, hh] }); have fzy0 : x.frozen? ⟨g5, 0, none⟩ = false := (by { have hh := HRx.out.h5; simp [World.frozen?, hh] }); have fzy1 : x.frozen? ⟨g5, 1, none⟩ = false := (by { have hh := HRx.out.h5; simp [World.frozen?, hh] }); have fzy2 : x.frozen? ⟨g5, 2, none⟩ = false := (by { have hh := HRx.out.h5; simp [World.frozen?, hh] }); have fzy3 : x.frozen? ⟨g5, 3, none⟩ = false := (by { have hh := HRx.out.h5; simp [World.frozen?, hh] }); have fzy4 : x.frozen? ⟨g5, 4, none⟩ = false := (by { have hh := HRx.out.h5; simp [World.frozen?, hh] }); have fzy5 : x.frozen? ⟨g5, 5, none⟩ = false := (by { have hh := HRx.out.h5; simp [World.frozen?, hh] }); have d45 : ¬ g5 = g4 := Nat.ne_of_gt HL5.out; have d54 : ¬ g4 = g5 := Nat.ne_of_lt HL5.out; have d46 : ¬ g4 = g6 := Nat.ne_of_lt (Nat.lt_trans HL5.out HL6.out); have d64 : ¬ g6 = g4 := fun e => d46 e.symm; have d56 : ¬ g5 = g6 := Nat.ne_of_lt HL6.out; have d65 : ¬ g6 = g5 := fun e => d56 e.symm; have dg4 : ¬ g = g4 := Nat.ne_of_lt (Nat.lt_trans HL3.out HL4.out); have d4g : ¬ g4 = g := fun e => dg4 e.symm; have dg5 : ¬ g = g5 := Nat.ne_of_lt (Nat.lt_trans HL3.out (Nat.lt_trans HL4.out HL5.out)); have d5g : ¬ g5 = g := fun e => dg5 e.symm)
    | fail)
  go_region
  all_goals
    go_wp2
    obtain ⟨t4, t5, tst⟩ := out8 (s0 := .slice A1 n1 cc1) (s1 := .slice B1 m1 d1) (a := .int .i64 0) (b := .bool hs) (c := .string ⟨#[]⟩) (d := .slice none 0 0) (e := .slice none 0 0) (f := .int .u64 0) HRx.out.h4 HRx.out.h5 d54
    refine bodyPost_ret (results_v2 rfl Try.underlying29 Try.underlying40 rfl rfl t4 size_shelf t5 size_answer) rfl ?_
    exact HFIN.out _ _ _ _ _ _ _ _ _ _ _ _ _ _ _ _ _ _ _ _ _ _ _ _ HRx.out (fun lo hi h _ => Apt.own HOW.out.o1 (by have := HLE.out; have := HR9.out.o1; have := HR9.out.o2; have := HR9.out.o3; have := HR9.out.o4; omega)) (fun lo hi h _ => Apt.own HOW.out.o2 (by have := HLE.out; have := HR9.out.o1; have := HR9.out.o2; have := HR9.out.o3; have := HR9.out.o4; omega)) (RP.row_nil _ _) rfl (Apt.nil _ _ _) (RB.row_nil _ _) rfl (Apt.nil _ _ _) tst
set_option maxHeartbeats 6400000 in
theorem rap_3 {w : World} {A B : Option Addr} {n cc m d : Nat} {L : List Kv} {Q : List ByteArray} (h : Shv w A n cc B m d L Q) (hl : L.length < 900000) (hq : Q.length < 900000) (key val to_ : ByteArray) (ga : Option Addr) (gn gc : Nat) (G : List Cal) (hG : Grp w ⟨3, key, val, to_, ga, gn, gc⟩ G) (hgd : goodN ⟨3, key, val, to_, ga, gn, gc⟩ G = 0) : Calls Try.prog 20 #[.agg #[.slice A n cc, .slice B m d], .agg #[.int .i64 3, .string key, .string val, .string to_, .slice ga gn gc]] w (RApTo w A n B m (delK L key) Q 0 (hasK L key) ⟨#[]⟩ [] []) := by
  obtain ⟨g, hg⟩ : ∃ g, w.heap.size = g := ⟨_, rfl⟩
  obtain ⟨w1, hw1⟩ : ∃ w1, w.alloc (.cells #[.slice A n cc, .slice B m d] 29) = w1 := ⟨_, rfl⟩
  have HX : Hid (w1.heap[g]? = some (.cells #[.slice A n cc, .slice B m d] 29 (0, 0))) := by rw [← hw1, ← hg]; exact heap_alloc_new w _
  have HB1 : Hid (Below g w w1) := by rw [← hw1, ← hg]; exact (Below.refl _ _).alloc (Nat.le_refl _) _
  obtain ⟨g3, hg3⟩ : ∃ z, w1.heap.size = z := ⟨_, rfl⟩
  obtain ⟨w2, hw2⟩ : ∃ w2, w1.alloc (.cells #[.int .i64 3, .string key, .string val, .string to_, .slice ga gn gc] 24) = w2 := ⟨_, rfl⟩
  have HX3 : Hid (w2.heap[g3]? = some (.cells #[.int .i64 3, .string key, .string val, .string to_, .slice ga gn gc] 24 (0, 0))) := by rw [← hw2, ← hg3]; exact heap_alloc_new w1 _
  have HB2 : Hid (Below g3 w1 w2) := by rw [← hw2, ← hg3]; exact (Below.refl _ _).alloc (Nat.le_refl _) _
  have HL3 : Hid (g < g3) := hg3 ▸ lt_of_heap HX.out
  obtain ⟨g4, hg4⟩ : ∃ z, w2.heap.size = z := ⟨_, rfl⟩
  have HG4 := Lib.hid hg4
  have HL4 : Hid (g3 < g4) := hg4 ▸ lt_of_heap HX3.out
  have HZS := Lib.hid zero_shelf
  have HZA := Lib.hid zero_answer
  have HSV : Hid (∀ v, Below g w v → Shv v A n cc B m d L Q) := fun v hv => h.below (hg.symm ▸ hv)
  have HGR : Hid (∀ v, Below g w v → Grp v ⟨3, key, val, to_, ga, gn, gc⟩ G) := fun v hv => hG.below (hg.symm ▸ hv)
  have HGO : Hid (∀ v, Below g w v → Calls Try.prog 16 #[.agg #[.int .i64 3, .string key, .string val, .string to_, .slice ga gn gc]] v fun e w' => e = .returned (.int .i64 (goodN ⟨3, key, val, to_, ga, gn, gc⟩ G)) ∧ Below v.heap.size v w') := fun v hv => rgood_any ⟨3, key, val, to_, ga, gn, gc⟩ G v (HGR.out v hv)
  have HAO : Hid (∀ hi, Apt A n g hi ∧ Apt B m g hi) := fun hi => hg ▸ ⟨Apt.old h.r1 h.n1, Apt.old h.r2 h.n2⟩
  have HG0 := Lib.hid hg
  obtain ⟨R, hR⟩ : ∃ R, RApTo w A n B m (delK L key) Q 0 (hasK L key) ⟨#[]⟩ [] [] = R := ⟨_, rfl⟩
  have HFIN : Hid (∀ g3 g4 g5 g6 A1 n1 c1 B1 m1 d1 a0 a1 a2 a3 a4 a5 A2 n2 c2 B2 m2 d2 x W, RW g g3 g4 g5 g6 w ⟨3, key, val, to_, ga, gn, gc⟩ A1 n1 c1 B1 m1 d1 (delK L key) Q a0 a1 a2 a3 a4 a5 x → (∀ lo hi, hi ≤ g → Apt A n lo hi → Apt A1 n1 lo hi) → (∀ lo hi, hi ≤ g → Apt B m lo hi → Apt B1 m1 lo hi) → RP.Row x A2 [] → List.length [] = n2 → Apt A2 n2 g (g6 + 1) → RB.Row x B2 [] → List.length [] = m2 → Apt B2 m2 g (g6 + 1) → Stay (fun k => k = g4 ∨ k = g5) x W → R (.returned (.tuple #[.agg #[.slice A1 n1 c1, .slice B1 m1 d1], .agg #[.int .i64 0, .bool (hasK L key), .string ⟨#[]⟩, .slice A2 n2 c2, .slice B2 m2 d2, .int .u64 0]])) W) := fun g3 g4 g5 g6 A1 n1 c1 B1 m1 d1 a0 a1 a2 a3 a4 a5 A2 n2 c2 B2 m2 d2 x W k1 k2 k3 k4 k5 k6 k7 k8 k9 k10 => by
    rw [← hR]
    exact rap_end k1 HG0.out k2 k3 k4 k5 k6 k7 k8 k9 k10
  have HAI : Hid (∀ lo hi, hi ≤ g → Apt A n lo hi → Apt A n lo hi) := fun _ _ _ h => h
  have HBI : Hid (∀ lo hi, hi ≤ g → Apt B m lo hi → Apt B m lo hi) := fun _ _ _ h => h
  have HGE : Hid (∀ v, Shv v A n cc B m d L Q → Calls Try.prog 22 #[.agg #[.slice A n cc, .slice B m d], .string key] v fun e w' => e = .returned (.tuple #[.string (valK L key), .bool (hasK L key)]) ∧ Below v.heap.size v w') := fun v hv => rget15_any hv key
  have HPU : Hid (∀ v, Shv v A n cc B m d L Q → Calls Try.prog 43 #[.agg #[.slice A n cc, .slice B m d], .string key] v (RefTo v (delK L key) Q)) := fun v hv => rdel15_any hv hl hq key
  have HLB : Hid ((delK L key).length ≤ 1048576) := by have := List.length_filter_le (fun x => !eqKv key x) L; have e : (delK L key).length ≤ L.length := this; show _ ≤ _; omega
  have HQB : Hid (Q.length ≤ 1048576) := by show _ ≤ _; omega
  have HGD := Lib.hid hgd
  rw [hR]
  obtain ⟨b0, b1⟩ := cells2 HX.out
  clear h hR hG hgd hg4 hl hq
  go_enter Try.func20, Try.ntmps20
  go_wp2_with (first
    | ((with_reducible show wpList _ _ _ (⟨some 4, .alloc _, _, _, _, _⟩ :: _) _ _); refine wpList_alloc_var (o := ⟨some 4, _, _, _, _, _⟩) rfl 29 rfl g4 HG4.out _ HZS.out ?_; intro v4 X4 B4; obtain ⟨g5, hg5⟩ : ∃ z, v4.heap.size = z := ⟨_, rfl⟩; have HG5 := Lib.hid hg5; have HL5 : Hid (g4 < g5) := hg5 ▸ lt_of_heap X4.out; clear hg5)
    | ((with_reducible show wpList _ _ _ (⟨some 5, .alloc _, _, _, _, _⟩ :: _) _ _); refine wpList_alloc_var (o := ⟨some 5, _, _, _, _, _⟩) rfl 40 rfl g5 HG5.out _ HZA.out ?_; intro v5 X5 B5; obtain ⟨g6, hg6⟩ : ∃ z, v5.heap.size = z := ⟨_, rfl⟩; have HG6 := Lib.hid hg6; have HL6 : Hid (g5 < g6) := hg6 ▸ lt_of_heap X5.out; clear hg6)
    | ((with_reducible show wpList _ _ _ (⟨some 6, .alloc _, _, _, _, _⟩ :: _) _ _); refine wpList_alloc_var (o := ⟨some 6, _, _, _, _, _⟩) rfl 40 rfl g6 HG6.out _ HZA.out ?_; intro v6 X6 B6; have HR6 : Hid (RW g g3 g4 g5 g6 w ⟨3, key, val, to_, ga, gn, gc⟩ A n cc B m d L Q _ _ _ _ _ _ v6) := rw_start HL3.out HL4.out HL5.out HL6.out HX.out HB1.out HX3.out HB2.out X4.out B4.out X5.out B5.out X6.out B6.out HSV.out (HAO.out _).1 (HAO.out _).2; clear b0 b1; obtain ⟨c0, c1, c2, c3, c4⟩ := cells5 HR6.out.h3)
    | fail)
  refine (HGO.out v6 HR6.out.bel).mono ?_
  clear hg hw1 hg3 hw2
  rintro e v7 ⟨rfl, hb⟩
  have HR7 := Lib.hid (HR6.out.below hb)
  clear hb c0 c1 c2 c3 c4
  rw [HGD.out]
  obtain ⟨p0, p1⟩ := cells2 HR7.out.h2
  obtain ⟨c0, c1, c2, c3, c4⟩ := cells5 HR7.out.h3
  generalize valK L key = vl at *
  generalize hasK L key = hs at *
  go_wp2_with fail
  refine (HGE.out v7 HR7.out.sh).mono ?_
  clear p0 p1 c0 c1 c2 c3 c4
  rintro e v8 ⟨rfl, hb⟩
  have HR8 := Lib.hid (HR7.out.below hb)
  clear hb
  obtain ⟨q0, q1, q2, q3, q4, q5⟩ := cells6 HR8.out.h6
  obtain ⟨p0, p1⟩ := cells2 HR8.out.h2
  obtain ⟨c0, c1, c2, c3, c4⟩ := cells5 HR8.out.h3
  have hg6a : ¬ g6 = g := Nat.ne_of_gt (Nat.lt_trans HL3.out (Nat.lt_trans HL4.out (Nat.lt_trans HL5.out HL6.out)))
  have hg6b : ¬ g = g6 := fun e => hg6a e.symm
  have hg6c : ¬ g6 = g3 := Nat.ne_of_gt (Nat.lt_trans HL4.out (Nat.lt_trans HL5.out HL6.out))
  have hg6d : ¬ g3 = g6 := fun e => hg6c e.symm
  have fzq1 : v8.frozen? ⟨g6, 1, none⟩ = false := (by { have hh := HR8.out.h6; simp [World.frozen?, hh] })
  go_wp2_with fail
  have HR8b : Hid (RW g g3 g4 g5 g6 w ⟨3, key, val, to_, ga, gn, gc⟩ A n cc B m d L Q (.int .i64 0) (.bool hs) (.string ⟨#[]⟩) (.slice none 0 0) (.slice none 0 0) (.int .u64 0) (v8.setCell ⟨g6, 1, none⟩ (.bool hs))) := HR8.out.ans (Stay.setCell (S := fun k => k = g6) _ g6 1 _ rfl) (heap_setCell_same _ g6 1 _ _ _ HR8.out.h6)
  refine (HPU.out _ HR8b.out.sh).mono ?_
  clear p0 p1 c0 c1 c2 c3 c4 q0 q1 q2 q3 q4 q5 fzq1 hg6a hg6b hg6c hg6d
  rintro e v9 ⟨A1, n1, cc1, B1, m1, d1, rfl, ho, hb⟩
  have HR9 := Lib.hid (HR8b.out.below hb)
  have HOW := Lib.hid ho
  have HLE : Hid (g6 + 1 ≤ (v8.setCell ⟨g6, 1, none⟩ (.bool hs)).heap.size) := HR8b.out.lt
  clear ho hb
  go_wp2_with (first
    | ((with_reducible show wpList _ _ _ (⟨none, .store _ (.tmp 2) _, _, _, _, _⟩ :: _) _ _); refine wpList_store_only (o := ⟨none, .store 29 (.tmp 2) (.tmp 62), _, _, _, _⟩) rfl _ _ _ rfl rfl g #[.slice A1 n1 cc1, .slice B1 m1 d1] rfl rfl 29 _ HR9.out.h2 size_shelf rfl (onesV _ _ _ _ _ _) ?_; intro x X T; have HRx := Lib.hid (HR9.out.put (stay_of_turns T.out) (HOW.out.shv (by have := HLB.out; omega) (by have := HQB.out; omega)) (Apt.own HOW.out.o1 HLE.out) (Apt.own HOW.out.o2 HLE.out) X.out); obtain ⟨p0, p1⟩ := cells2 HRx.out.h2; obtain ⟨z0, z1⟩ := cells2 HRx.out.h4; obtain ⟨y0, y1, y2, y3, y4, y5⟩ := cells6 HRx.out.h5; obtain ⟨q0, q1, q2, q3, q4, q5⟩ := cells6 HRx.out.h6; have fzz0 : x.frozen? ⟨g4, 0, none⟩ = false := (by { have hh := HRx.out.h4; simp [World.frozen?, hh] }); have fzz1 : x.frozen? ⟨g4, 1, none⟩ = false := (by { have hh := HRx.out.h4; simp [World.frozen?, hh] }); have fzy0 : x.frozen? ⟨g5, 0, none⟩ = false := (by { have hh := HRx.out.h5; simp [World.frozen?, hh] }); have fzy1 : x.frozen? ⟨g5, 1, none⟩ = false := (by { have hh := HRx.out.h5; simp [World.frozen?, hh] }); have fzy2 : x.frozen? ⟨g5, 2, none⟩ = false := (by { have hh := HRx.out.h5; simp [World.frozen?, hh] }); have fzy3 : x.frozen? ⟨g5, 3, none⟩ = false := (by { have hh := HRx.out.h5; simp [World.frozen?, hh] }); have fzy4 : x.frozen? ⟨g5, 4, none⟩ = false := (by { have hh := HRx.out.h5; simp [World.frozen?, hh] }); have fzy5 : x.frozen? ⟨g5, 5, none⟩ = false := (by { have hh := HRx.out.h5; simp [World.frozen?, hh] }); have d45 : ¬ g5 = g4 := Nat.ne_of_gt HL5.out; have d54 : ¬ g4 = g5 := Nat.ne_of_lt HL5.out; have d46 : ¬ g4 = g6 := Nat.ne_of_lt (Nat.lt_trans HL5.out HL6.out); have d64 : ¬ g6 = g4 := fun e => d46 e.symm; have d56 : ¬ g5 = g6 := Nat.ne_of_lt HL6.out; have d65 : ¬ g6 = g5 := fun e => d56 e.symm; have dg4 : ¬ g = g4 := Nat.ne_of_lt (Nat.lt_trans HL3.out HL4.out); have d4g : ¬ g4 = g := fun e => dg4 e.symm; have dg5 : ¬ g = g5 := Nat.ne_of_lt (Nat.lt_trans HL3.out (Nat.lt_trans HL4.out HL5.out)); have d5g : ¬ g5 = g := fun e => dg5 e.symm)
    | fail)
  go_region
  all_goals
    go_wp2
    obtain ⟨t4, t5, tst⟩ := out8 (s0 := .slice A1 n1 cc1) (s1 := .slice B1 m1 d1) (a := .int .i64 0) (b := .bool hs) (c := .string ⟨#[]⟩) (d := .slice none 0 0) (e := .slice none 0 0) (f := .int .u64 0) HRx.out.h4 HRx.out.h5 d54
    refine bodyPost_ret (results_v2 rfl Try.underlying29 Try.underlying40 rfl rfl t4 size_shelf t5 size_answer) rfl ?_
    exact HFIN.out _ _ _ _ _ _ _ _ _ _ _ _ _ _ _ _ _ _ _ _ _ _ _ _ HRx.out (fun lo hi h _ => Apt.own HOW.out.o1 (by have := HLE.out; have := HR9.out.o1; have := HR9.out.o2; have := HR9.out.o3; have := HR9.out.o4; omega)) (fun lo hi h _ => Apt.own HOW.out.o2 (by have := HLE.out; have := HR9.out.o1; have := HR9.out.o2; have := HR9.out.o3; have := HR9.out.o4; omega)) (RP.row_nil _ _) rfl (Apt.nil _ _ _) (RB.row_nil _ _) rfl (Apt.nil _ _ _) tst
set_option maxHeartbeats 6400000 in
theorem rap_4 {w : World} {A B : Option Addr} {n cc m d : Nat} {L : List Kv} {Q : List ByteArray} (h : Shv w A n cc B m d L Q) (hq : Q.length < 900000) (key val to_ : ByteArray) (ga : Option Addr) (gn gc : Nat) (G : List Cal) (hG : Grp w ⟨4, key, val, to_, ga, gn, gc⟩ G) (hgd : goodN ⟨4, key, val, to_, ga, gn, gc⟩ G = 0) : Calls Try.prog 20 #[.agg #[.slice A n cc, .slice B m d], .agg #[.int .i64 4, .string key, .string val, .string to_, .slice ga gn gc]] w (RApTo w A n B m L (Q ++ [val]) 0 false ⟨#[]⟩ [] []) := by
  obtain ⟨g, hg⟩ : ∃ g, w.heap.size = g := ⟨_, rfl⟩
  obtain ⟨w1, hw1⟩ : ∃ w1, w.alloc (.cells #[.slice A n cc, .slice B m d] 29) = w1 := ⟨_, rfl⟩
  have HX : Hid (w1.heap[g]? = some (.cells #[.slice A n cc, .slice B m d] 29 (0, 0))) := by rw [← hw1, ← hg]; exact heap_alloc_new w _
  have HB1 : Hid (Below g w w1) := by rw [← hw1, ← hg]; exact (Below.refl _ _).alloc (Nat.le_refl _) _
  obtain ⟨g3, hg3⟩ : ∃ z, w1.heap.size = z := ⟨_, rfl⟩
  obtain ⟨w2, hw2⟩ : ∃ w2, w1.alloc (.cells #[.int .i64 4, .string key, .string val, .string to_, .slice ga gn gc] 24) = w2 := ⟨_, rfl⟩
  have HX3 : Hid (w2.heap[g3]? = some (.cells #[.int .i64 4, .string key, .string val, .string to_, .slice ga gn gc] 24 (0, 0))) := by rw [← hw2, ← hg3]; exact heap_alloc_new w1 _
  have HB2 : Hid (Below g3 w1 w2) := by rw [← hw2, ← hg3]; exact (Below.refl _ _).alloc (Nat.le_refl _) _
  have HL3 : Hid (g < g3) := hg3 ▸ lt_of_heap HX.out
  obtain ⟨g4, hg4⟩ : ∃ z, w2.heap.size = z := ⟨_, rfl⟩
  have HG4 := Lib.hid hg4
  have HL4 : Hid (g3 < g4) := hg4 ▸ lt_of_heap HX3.out
  have HZS := Lib.hid zero_shelf
  have HZA := Lib.hid zero_answer
  have HSV : Hid (∀ v, Below g w v → Shv v A n cc B m d L Q) := fun v hv => h.below (hg.symm ▸ hv)
  have HGR : Hid (∀ v, Below g w v → Grp v ⟨4, key, val, to_, ga, gn, gc⟩ G) := fun v hv => hG.below (hg.symm ▸ hv)
  have HGO : Hid (∀ v, Below g w v → Calls Try.prog 16 #[.agg #[.int .i64 4, .string key, .string val, .string to_, .slice ga gn gc]] v fun e w' => e = .returned (.int .i64 (goodN ⟨4, key, val, to_, ga, gn, gc⟩ G)) ∧ Below v.heap.size v w') := fun v hv => rgood_any ⟨4, key, val, to_, ga, gn, gc⟩ G v (HGR.out v hv)
  have HAO : Hid (∀ hi, Apt A n g hi ∧ Apt B m g hi) := fun hi => hg ▸ ⟨Apt.old h.r1 h.n1, Apt.old h.r2 h.n2⟩
  have HG0 := Lib.hid hg
  obtain ⟨R, hR⟩ : ∃ R, RApTo w A n B m L (Q ++ [val]) 0 false ⟨#[]⟩ [] [] = R := ⟨_, rfl⟩
  have HFIN : Hid (∀ g3 g4 g5 g6 A1 n1 c1 B1 m1 d1 a0 a1 a2 a3 a4 a5 A2 n2 c2 B2 m2 d2 x W, RW g g3 g4 g5 g6 w ⟨4, key, val, to_, ga, gn, gc⟩ A1 n1 c1 B1 m1 d1 L (Q ++ [val]) a0 a1 a2 a3 a4 a5 x → (∀ lo hi, hi ≤ g → Apt A n lo hi → Apt A1 n1 lo hi) → (∀ lo hi, hi ≤ g → Apt B m lo hi → Apt B1 m1 lo hi) → RP.Row x A2 [] → List.length [] = n2 → Apt A2 n2 g (g6 + 1) → RB.Row x B2 [] → List.length [] = m2 → Apt B2 m2 g (g6 + 1) → Stay (fun k => k = g4 ∨ k = g5) x W → R (.returned (.tuple #[.agg #[.slice A1 n1 c1, .slice B1 m1 d1], .agg #[.int .i64 0, .bool false, .string ⟨#[]⟩, .slice A2 n2 c2, .slice B2 m2 d2, .int .u64 0]])) W) := fun g3 g4 g5 g6 A1 n1 c1 B1 m1 d1 a0 a1 a2 a3 a4 a5 A2 n2 c2 B2 m2 d2 x W k1 k2 k3 k4 k5 k6 k7 k8 k9 k10 => by
    rw [← hR]
    exact rap_end k1 HG0.out k2 k3 k4 k5 k6 k7 k8 k9 k10
  have HAI : Hid (∀ lo hi, hi ≤ g → Apt A n lo hi → Apt A n lo hi) := fun _ _ _ h => h
  have HBI : Hid (∀ lo hi, hi ≤ g → Apt B m lo hi → Apt B m lo hi) := fun _ _ _ h => h
  have HPU : Hid (∀ v, Shv v A n cc B m d L Q → Calls Try.prog 44 #[.agg #[.slice A n cc, .slice B m d], .string val] v (RefTo v L (Q ++ [val]))) := fun v hv => rpush15_any hv hq val
  have HLB : Hid (L.length ≤ 1048576) := h.r1.1
  have HQB : Hid (List.length (Q ++ [val]) ≤ 1048576) := by rw [List.length_append]; show _ + 1 ≤ _; omega
  have HGD := Lib.hid hgd
  rw [hR]
  obtain ⟨b0, b1⟩ := cells2 HX.out
  clear h hR hG hgd hg4 hq
  go_enter Try.func20, Try.ntmps20
  go_wp2_with (first
    | ((with_reducible show wpList _ _ _ (⟨some 4, .alloc _, _, _, _, _⟩ :: _) _ _); refine wpList_alloc_var (o := ⟨some 4, _, _, _, _, _⟩) rfl 29 rfl g4 HG4.out _ HZS.out ?_; intro v4 X4 B4; obtain ⟨g5, hg5⟩ : ∃ z, v4.heap.size = z := ⟨_, rfl⟩; have HG5 := Lib.hid hg5; have HL5 : Hid (g4 < g5) := hg5 ▸ lt_of_heap X4.out; clear hg5)
    | ((with_reducible show wpList _ _ _ (⟨some 5, .alloc _, _, _, _, _⟩ :: _) _ _); refine wpList_alloc_var (o := ⟨some 5, _, _, _, _, _⟩) rfl 40 rfl g5 HG5.out _ HZA.out ?_; intro v5 X5 B5; obtain ⟨g6, hg6⟩ : ∃ z, v5.heap.size = z := ⟨_, rfl⟩; have HG6 := Lib.hid hg6; have HL6 : Hid (g5 < g6) := hg6 ▸ lt_of_heap X5.out; clear hg6)
    | ((with_reducible show wpList _ _ _ (⟨some 6, .alloc _, _, _, _, _⟩ :: _) _ _); refine wpList_alloc_var (o := ⟨some 6, _, _, _, _, _⟩) rfl 40 rfl g6 HG6.out _ HZA.out ?_; intro v6 X6 B6; have HR6 : Hid (RW g g3 g4 g5 g6 w ⟨4, key, val, to_, ga, gn, gc⟩ A n cc B m d L Q _ _ _ _ _ _ v6) := rw_start HL3.out HL4.out HL5.out HL6.out HX.out HB1.out HX3.out HB2.out X4.out B4.out X5.out B5.out X6.out B6.out HSV.out (HAO.out _).1 (HAO.out _).2; clear b0 b1; obtain ⟨c0, c1, c2, c3, c4⟩ := cells5 HR6.out.h3)
    | fail)
  refine (HGO.out v6 HR6.out.bel).mono ?_
  clear hg hw1 hg3 hw2
  rintro e v7 ⟨rfl, hb⟩
  have HR7 := Lib.hid (HR6.out.below hb)
  clear hb c0 c1 c2 c3 c4
  rw [HGD.out]
  obtain ⟨p0, p1⟩ := cells2 HR7.out.h2
  obtain ⟨c0, c1, c2, c3, c4⟩ := cells5 HR7.out.h3
  go_wp2_with fail
  have HR8b := HR7
  refine (HPU.out v7 HR7.out.sh).mono ?_
  clear p0 p1 c0 c1 c2 c3 c4
  rintro e v9 ⟨A1, n1, cc1, B1, m1, d1, rfl, ho, hb⟩
  have HR9 := Lib.hid (HR8b.out.below hb)
  have HOW := Lib.hid ho
  have HLE : Hid (g6 + 1 ≤ (v7).heap.size) := HR8b.out.lt
  clear ho hb
  go_wp2_with (first
    | ((with_reducible show wpList _ _ _ (⟨none, .store _ (.tmp 2) _, _, _, _, _⟩ :: _) _ _); refine wpList_store_only (o := ⟨none, .store 29 (.tmp 2) (.tmp 68), _, _, _, _⟩) rfl _ _ _ rfl rfl g #[.slice A1 n1 cc1, .slice B1 m1 d1] rfl rfl 29 _ HR9.out.h2 size_shelf rfl (onesV _ _ _ _ _ _) ?_; intro x X T; have HRx := Lib.hid (HR9.out.put (stay_of_turns T.out) (HOW.out.shv HLB.out HQB.out) (Apt.own HOW.out.o1 HLE.out) (Apt.own HOW.out.o2 HLE.out) X.out); obtain ⟨p0, p1⟩ := cells2 HRx.out.h2; obtain ⟨z0, z1⟩ := cells2 HRx.out.h4; obtain ⟨y0, y1, y2, y3, y4, y5⟩ := cells6 HRx.out.h5; obtain ⟨q0, q1, q2, q3, q4, q5⟩ := cells6 HRx.out.h6; have fzz0 : x.frozen? ⟨g4, 0, none⟩ = false := (by { have hh := HRx.out.h4; simp [World.frozen?, hh] }); have fzz1 : x.frozen? ⟨g4, 1, none⟩ = false := (by { have hh := HRx.out.h4; simp [World.frozen?, hh] }); have fzy0 : x.frozen? ⟨g5, 0, none⟩ = false := (by { have hh := HRx.out.h5; simp [World.frozen?, hh] }); have fzy1 : x.frozen? ⟨g5, 1, none⟩ = false := (by { have hh := HRx.out.h5; simp [World.frozen?, hh] }); have fzy2 : x.frozen? ⟨g5, 2, none⟩ = false := (by { have hh := HRx.out.h5; simp [World.frozen?, hh] }); have fzy3 : x.frozen? ⟨g5, 3, none⟩ = false := (by { have hh := HRx.out.h5; simp [World.frozen?, hh] }); have fzy4 : x.frozen? ⟨g5, 4, none⟩ = false := (by { have hh := HRx.out.h5; simp [World.frozen?, hh] }); have fzy5 : x.frozen? ⟨g5, 5, none⟩ = false := (by { have hh := HRx.out.h5; simp [World.frozen?, hh] }); have d45 : ¬ g5 = g4 := Nat.ne_of_gt HL5.out; have d54 : ¬ g4 = g5 := Nat.ne_of_lt HL5.out; have d46 : ¬ g4 = g6 := Nat.ne_of_lt (Nat.lt_trans HL5.out HL6.out); have d64 : ¬ g6 = g4 := fun e => d46 e.symm; have d56 : ¬ g5 = g6 := Nat.ne_of_lt HL6.out; have d65 : ¬ g6 = g5 := fun e => d56 e.symm; have dg4 : ¬ g = g4 := Nat.ne_of_lt (Nat.lt_trans HL3.out HL4.out); have d4g : ¬ g4 = g := fun e => dg4 e.symm; have dg5 : ¬ g = g5 := Nat.ne_of_lt (Nat.lt_trans HL3.out (Nat.lt_trans HL4.out HL5.out)); have d5g : ¬ g5 = g := fun e => dg5 e.symm)
    | fail)
  go_region
  all_goals
    go_wp2
    obtain ⟨t4, t5, tst⟩ := out8 (s0 := .slice A1 n1 cc1) (s1 := .slice B1 m1 d1) (a := .int .i64 0) (b := .bool false) (c := .string ⟨#[]⟩) (d := .slice none 0 0) (e := .slice none 0 0) (f := .int .u64 0) HRx.out.h4 HRx.out.h5 d54
    refine bodyPost_ret (results_v2 rfl Try.underlying29 Try.underlying40 rfl rfl t4 size_shelf t5 size_answer) rfl ?_
    exact HFIN.out _ _ _ _ _ _ _ _ _ _ _ _ _ _ _ _ _ _ _ _ _ _ _ _ HRx.out (fun lo hi h _ => Apt.own HOW.out.o1 (by have := HLE.out; have := HR9.out.o1; have := HR9.out.o2; have := HR9.out.o3; have := HR9.out.o4; omega)) (fun lo hi h _ => Apt.own HOW.out.o2 (by have := HLE.out; have := HR9.out.o1; have := HR9.out.o2; have := HR9.out.o3; have := HR9.out.o4; omega)) (RP.row_nil _ _) rfl (Apt.nil _ _ _) (RB.row_nil _ _) rfl (Apt.nil _ _ _) tst
set_option maxHeartbeats 6400000 in
theorem rap_5 {w : World} {A B : Option Addr} {n cc m d : Nat} {L : List Kv} {Q : List ByteArray} (h : Shv w A n cc B m d L Q) (hq : Q.length < 900000) (hc : m ≤ d) (hdm : d ≤ maxLen) (key val to_ : ByteArray) (ga : Option Addr) (gn gc : Nat) (G : List Cal) (hG : Grp w ⟨5, key, val, to_, ga, gn, gc⟩ G) (hgd : goodN ⟨5, key, val, to_, ga, gn, gc⟩ G = 0) : Calls Try.prog 20 #[.agg #[.slice A n cc, .slice B m d], .agg #[.int .i64 5, .string key, .string val, .string to_, .slice ga gn gc]] w (RApTo w A n B m L Q.tail 0 (anyQ Q) (firstQ Q) [] []) := by
  obtain ⟨g, hg⟩ : ∃ g, w.heap.size = g := ⟨_, rfl⟩
  obtain ⟨w1, hw1⟩ : ∃ w1, w.alloc (.cells #[.slice A n cc, .slice B m d] 29) = w1 := ⟨_, rfl⟩
  have HX : Hid (w1.heap[g]? = some (.cells #[.slice A n cc, .slice B m d] 29 (0, 0))) := by rw [← hw1, ← hg]; exact heap_alloc_new w _
  have HB1 : Hid (Below g w w1) := by rw [← hw1, ← hg]; exact (Below.refl _ _).alloc (Nat.le_refl _) _
  obtain ⟨g3, hg3⟩ : ∃ z, w1.heap.size = z := ⟨_, rfl⟩
  obtain ⟨w2, hw2⟩ : ∃ w2, w1.alloc (.cells #[.int .i64 5, .string key, .string val, .string to_, .slice ga gn gc] 24) = w2 := ⟨_, rfl⟩
  have HX3 : Hid (w2.heap[g3]? = some (.cells #[.int .i64 5, .string key, .string val, .string to_, .slice ga gn gc] 24 (0, 0))) := by rw [← hw2, ← hg3]; exact heap_alloc_new w1 _
  have HB2 : Hid (Below g3 w1 w2) := by rw [← hw2, ← hg3]; exact (Below.refl _ _).alloc (Nat.le_refl _) _
  have HL3 : Hid (g < g3) := hg3 ▸ lt_of_heap HX.out
  obtain ⟨g4, hg4⟩ : ∃ z, w2.heap.size = z := ⟨_, rfl⟩
  have HG4 := Lib.hid hg4
  have HL4 : Hid (g3 < g4) := hg4 ▸ lt_of_heap HX3.out
  have HZS := Lib.hid zero_shelf
  have HZA := Lib.hid zero_answer
  have HSV : Hid (∀ v, Below g w v → Shv v A n cc B m d L Q) := fun v hv => h.below (hg.symm ▸ hv)
  have HGR : Hid (∀ v, Below g w v → Grp v ⟨5, key, val, to_, ga, gn, gc⟩ G) := fun v hv => hG.below (hg.symm ▸ hv)
  have HGO : Hid (∀ v, Below g w v → Calls Try.prog 16 #[.agg #[.int .i64 5, .string key, .string val, .string to_, .slice ga gn gc]] v fun e w' => e = .returned (.int .i64 (goodN ⟨5, key, val, to_, ga, gn, gc⟩ G)) ∧ Below v.heap.size v w') := fun v hv => rgood_any ⟨5, key, val, to_, ga, gn, gc⟩ G v (HGR.out v hv)
  have HAO : Hid (∀ hi, Apt A n g hi ∧ Apt B m g hi) := fun hi => hg ▸ ⟨Apt.old h.r1 h.n1, Apt.old h.r2 h.n2⟩
  have HG0 := Lib.hid hg
  obtain ⟨R, hR⟩ : ∃ R, RApTo w A n B m L Q.tail 0 (anyQ Q) (firstQ Q) [] [] = R := ⟨_, rfl⟩
  have HFIN : Hid (∀ g3 g4 g5 g6 A1 n1 c1 B1 m1 d1 a0 a1 a2 a3 a4 a5 A2 n2 c2 B2 m2 d2 x W, RW g g3 g4 g5 g6 w ⟨5, key, val, to_, ga, gn, gc⟩ A1 n1 c1 B1 m1 d1 L Q.tail a0 a1 a2 a3 a4 a5 x → (∀ lo hi, hi ≤ g → Apt A n lo hi → Apt A1 n1 lo hi) → (∀ lo hi, hi ≤ g → Apt B m lo hi → Apt B1 m1 lo hi) → RP.Row x A2 [] → List.length [] = n2 → Apt A2 n2 g (g6 + 1) → RB.Row x B2 [] → List.length [] = m2 → Apt B2 m2 g (g6 + 1) → Stay (fun k => k = g4 ∨ k = g5) x W → R (.returned (.tuple #[.agg #[.slice A1 n1 c1, .slice B1 m1 d1], .agg #[.int .i64 0, .bool (anyQ Q), .string (firstQ Q), .slice A2 n2 c2, .slice B2 m2 d2, .int .u64 0]])) W) := fun g3 g4 g5 g6 A1 n1 c1 B1 m1 d1 a0 a1 a2 a3 a4 a5 A2 n2 c2 B2 m2 d2 x W k1 k2 k3 k4 k5 k6 k7 k8 k9 k10 => by
    rw [← hR]
    exact rap_end k1 HG0.out k2 k3 k4 k5 k6 k7 k8 k9 k10
  have HAI : Hid (∀ lo hi, hi ≤ g → Apt A n lo hi → Apt A n lo hi) := fun _ _ _ h => h
  have HBI : Hid (∀ lo hi, hi ≤ g → Apt B m lo hi → Apt B m lo hi) := fun _ _ _ h => h
  have HPU : Hid (∀ v, Shv v A n cc B m d L Q → Calls Try.prog 45 #[.agg #[.slice A n cc, .slice B m d]] v (RefTo v L Q.tail)) := fun v hv => rpop15_any hv hq hc hdm
  have HLB : Hid (L.length ≤ 1048576) := h.r1.1
  have HQB : Hid (List.length Q.tail ≤ 1048576) := by rw [List.length_tail]; show _ ≤ _; omega
  have HNQ : Hid (Q.length = m) := h.n2
  have HRQ : Hid (∀ v, Shv v A n cc B m d L Q → RS.Row v B Q) := fun v hv => hv.r2
  have HGD := Lib.hid hgd
  rw [hR]
  obtain ⟨b0, b1⟩ := cells2 HX.out
  clear h hR hG hgd hg4 hq hc hdm
  go_enter Try.func20, Try.ntmps20
  go_wp2_with (first
    | ((with_reducible show wpList _ _ _ (⟨some 4, .alloc _, _, _, _, _⟩ :: _) _ _); refine wpList_alloc_var (o := ⟨some 4, _, _, _, _, _⟩) rfl 29 rfl g4 HG4.out _ HZS.out ?_; intro v4 X4 B4; obtain ⟨g5, hg5⟩ : ∃ z, v4.heap.size = z := ⟨_, rfl⟩; have HG5 := Lib.hid hg5; have HL5 : Hid (g4 < g5) := hg5 ▸ lt_of_heap X4.out; clear hg5)
    | ((with_reducible show wpList _ _ _ (⟨some 5, .alloc _, _, _, _, _⟩ :: _) _ _); refine wpList_alloc_var (o := ⟨some 5, _, _, _, _, _⟩) rfl 40 rfl g5 HG5.out _ HZA.out ?_; intro v5 X5 B5; obtain ⟨g6, hg6⟩ : ∃ z, v5.heap.size = z := ⟨_, rfl⟩; have HG6 := Lib.hid hg6; have HL6 : Hid (g5 < g6) := hg6 ▸ lt_of_heap X5.out; clear hg6)
    | ((with_reducible show wpList _ _ _ (⟨some 6, .alloc _, _, _, _, _⟩ :: _) _ _); refine wpList_alloc_var (o := ⟨some 6, _, _, _, _, _⟩) rfl 40 rfl g6 HG6.out _ HZA.out ?_; intro v6 X6 B6; have HR6 : Hid (RW g g3 g4 g5 g6 w ⟨5, key, val, to_, ga, gn, gc⟩ A n cc B m d L Q _ _ _ _ _ _ v6) := rw_start HL3.out HL4.out HL5.out HL6.out HX.out HB1.out HX3.out HB2.out X4.out B4.out X5.out B5.out X6.out B6.out HSV.out (HAO.out _).1 (HAO.out _).2; clear b0 b1; obtain ⟨c0, c1, c2, c3, c4⟩ := cells5 HR6.out.h3)
    | fail)
  refine (HGO.out v6 HR6.out.bel).mono ?_
  clear hg hw1 hg3 hw2
  rintro e v7 ⟨rfl, hb⟩
  have HR7 := Lib.hid (HR6.out.below hb)
  clear hb c0 c1 c2 c3 c4
  rw [HGD.out]
  obtain ⟨p0, p1⟩ := cells2 HR7.out.h2
  obtain ⟨c0, c1, c2, c3, c4⟩ := cells5 HR7.out.h3
  rcases hQe : Q with _ | ⟨q, Q'⟩
  · have hm : m = 0 := by have := HNQ.out; rw [hQe] at this; exact this.symm
    have HFI2 := HFIN
    rw [hQe] at HFI2
    have HFIN : Hid _ := HFI2.out
    subst hm
    go_wp2_with fail
    have HR8b := HR7
    refine (HPU.out v7 HR7.out.sh).mono ?_
    clear p0 p1 c0 c1 c2 c3 c4
    rw [hQe]
    rintro e v9 ⟨A1, n1, cc1, B1, m1, d1, rfl, ho, hb⟩
    have HR9 := Lib.hid (HR8b.out.below hb)
    have HOW := Lib.hid ho
    have HLE : Hid (g6 + 1 ≤ (v7).heap.size) := HR8b.out.lt
    clear ho hb
    go_wp2_with (first
      | ((with_reducible show wpList _ _ _ (⟨none, .store _ (.tmp 2) _, _, _, _, _⟩ :: _) _ _); refine wpList_store_only (o := ⟨none, .store 29 (.tmp 2) (.tmp 82), _, _, _, _⟩) rfl _ _ _ rfl rfl g #[.slice A1 n1 cc1, .slice B1 m1 d1] rfl rfl 29 _ HR9.out.h2 size_shelf rfl (onesV _ _ _ _ _ _) ?_; intro x X T; have HRx := Lib.hid (HR9.out.put (stay_of_turns T.out) (HOW.out.shv HLB.out (by rw [← hQe]; exact HQB.out)) (Apt.own HOW.out.o1 HLE.out) (Apt.own HOW.out.o2 HLE.out) X.out); obtain ⟨p0, p1⟩ := cells2 HRx.out.h2; obtain ⟨z0, z1⟩ := cells2 HRx.out.h4; obtain ⟨y0, y1, y2, y3, y4, y5⟩ := cells6 HRx.out.h5; obtain ⟨q0, q1, q2, q3, q4, q5⟩ := cells6 HRx.out.h6; have fzz0 : x.frozen? ⟨g4, 0, none⟩ = false := (by { have hh := HRx.out.h4; simp [World.frozen?, hh] }); have fzz1 : x.frozen? ⟨g4, 1, none⟩ = false := (by { have hh := HRx.out.h4; simp [World.frozen?, hh] }); have fzy0 : x.frozen? ⟨g5, 0, none⟩ = false := (by { have hh := HRx.out.h5; simp [World.frozen?, hh] }); have fzy1 : x.frozen? ⟨g5, 1, none⟩ = false := (by { have hh := HRx.out.h5; simp [World.frozen?, hh] }); have fzy2 : x.frozen? ⟨g5, 2, none⟩ = false := (by { have hh := HRx.out.h5; simp [World.frozen?, hh] }); have fzy3 : x.frozen? ⟨g5, 3, none⟩ = false := (by { have hh := HRx.out.h5; simp [World.frozen?, hh] }); have fzy4 : x.frozen? ⟨g5, 4, none⟩ = false := (by { have hh := HRx.out.h5; simp [World.frozen?, hh] }); have fzy5 : x.frozen? ⟨g5, 5, none⟩ = false := (by { have hh := HRx.out.h5; simp [World.frozen?, hh] }); have d45 : ¬ g5 = g4 := Nat.ne_of_gt HL5.out; have d54 : ¬ g4 = g5 := Nat.ne_of_lt HL5.out; have d46 : ¬ g4 = g6 := Nat.ne_of_lt (Nat.lt_trans HL5.out HL6.out); have d64 : ¬ g6 = g4 := fun e => d46 e.symm; have d56 : ¬ g5 = g6 := Nat.ne_of_lt HL6.out; have d65 : ¬ g6 = g5 := fun e => d56 e.symm; have dg4 : ¬ g = g4 := Nat.ne_of_lt (Nat.lt_trans HL3.out HL4.out); have d4g : ¬ g4 = g := fun e => dg4 e.symm; have dg5 : ¬ g = g5 := Nat.ne_of_lt (Nat.lt_trans HL3.out (Nat.lt_trans HL4.out HL5.out)); have d5g : ¬ g5 = g := fun e => dg5 e.symm)
      | fail)
    go_region
    all_goals
      go_wp2
      obtain ⟨t4, t5, tst⟩ := out8 (s0 := .slice A1 n1 cc1) (s1 := .slice B1 m1 d1) (a := .int .i64 0) (b := .bool false) (c := .string ⟨#[]⟩) (d := .slice none 0 0) (e := .slice none 0 0) (f := .int .u64 0) HRx.out.h4 HRx.out.h5 d54
      refine bodyPost_ret (results_v2 rfl Try.underlying29 Try.underlying40 rfl rfl t4 size_shelf t5 size_answer) rfl ?_
      exact HFIN.out _ _ _ _ _ _ _ _ _ _ _ _ _ _ _ _ _ _ _ _ _ _ _ _ HRx.out (fun lo hi h _ => Apt.own HOW.out.o1 (by have := HLE.out; have := HR9.out.o1; have := HR9.out.o2; have := HR9.out.o3; have := HR9.out.o4; omega)) (fun lo hi h _ => Apt.own HOW.out.o2 (by have := HLE.out; have := HR9.out.o1; have := HR9.out.o2; have := HR9.out.o3; have := HR9.out.o4; omega)) (RP.row_nil _ _) rfl (Apt.nil _ _ _) (RB.row_nil _ _) rfl (Apt.nil _ _ _) tst
  · obtain ⟨k, rfl⟩ : ∃ k, m = k + 1 := ⟨Q'.length, by have := HNQ.out; rw [hQe] at this; exact this.symm⟩
    obtain ⟨b8, o8, e8, _, l8⟩ := textAt (HRQ.out v7 HR7.out.sh) (show Q[0]? = some q by rw [hQe]; rfl)
    subst e8
    rw [Nat.add_zero] at l8
    have hkm : (0 : Int) < ((k + 1 : Nat) : Int) := by omega
    obtain ⟨q0, q1, q2, q3, q4, q5⟩ := cells6 HR7.out.h6
    have fzq1 : v7.frozen? ⟨g6, 1, none⟩ = false := (by { have hh := HR7.out.h6; simp [World.frozen?, hh] })
    have fzq2 : v7.frozen? ⟨g6, 2, none⟩ = false := (by { have hh := HR7.out.h6; simp [World.frozen?, hh] })
    have hg6a : ¬ g6 = g := Nat.ne_of_gt (Nat.lt_trans HL3.out (Nat.lt_trans HL4.out (Nat.lt_trans HL5.out HL6.out)))
    have hg6b : ¬ g = g6 := fun e => hg6a e.symm
    have h86 : ¬ b8 = g6 := by
      rcases HR7.out.aq (Nat.succ_pos k) _ rfl with e | e
      · have h1 := HL3.out; have h2 := HL4.out; have h3 := HL5.out; have h4 := HL6.out
        have e' : b8 < g := e
        omega
      · have e' : g6 + 1 ≤ b8 := e
        omega
    have h68 : ¬ g6 = b8 := fun e => h86 e.symm
    go_wp2_with fail
    have HR8b : Hid (RW g g3 g4 g5 g6 w ⟨5, key, val, to_, ga, gn, gc⟩ A n cc _ (k + 1) d L Q (.int .i64 0) (.bool true) (.string q) (.slice none 0 0) (.slice none 0 0) (.int .u64 0) ((v7.setCell ⟨g6, 1, none⟩ (.bool true)).setCell ⟨g6, 2, none⟩ (.string q))) := HR7.out.ans ((Stay.setCell (S := fun k => k = g6) _ g6 1 _ rfl).trans (Stay.setCell (S := fun k => k = g6) _ g6 2 _ rfl)) (heap_setCell_same _ g6 2 _ _ _ (heap_setCell_same _ g6 1 _ _ _ HR7.out.h6))
    refine (HPU.out _ HR8b.out.sh).mono ?_
    clear p0 p1 c0 c1 c2 c3 c4 q0 q1 q2 q3 q4 q5 fzq1 fzq2 hg6a hg6b h86 h68 l8
    rw [hQe] at HFIN
    rw [hQe]
    rintro e v9 ⟨A1, n1, cc1, B1, m1, d1, rfl, ho, hb⟩
    have HR9 := Lib.hid (HR8b.out.below hb)
    have HOW := Lib.hid ho
    have HLE : Hid (g6 + 1 ≤ (((v7.setCell ⟨g6, 1, none⟩ (.bool true)).setCell ⟨g6, 2, none⟩ (.string q))).heap.size) := HR8b.out.lt
    clear ho hb
    go_wp2_with (first
      | ((with_reducible show wpList _ _ _ (⟨none, .store _ (.tmp 2) _, _, _, _, _⟩ :: _) _ _); refine wpList_store_only (o := ⟨none, .store 29 (.tmp 2) (.tmp 82), _, _, _, _⟩) rfl _ _ _ rfl rfl g #[.slice A1 n1 cc1, .slice B1 m1 d1] rfl rfl 29 _ HR9.out.h2 size_shelf rfl (onesV _ _ _ _ _ _) ?_; intro x X T; have HRx := Lib.hid (HR9.out.put (stay_of_turns T.out) (HOW.out.shv HLB.out (by rw [← hQe]; exact HQB.out)) (Apt.own HOW.out.o1 HLE.out) (Apt.own HOW.out.o2 HLE.out) X.out); obtain ⟨p0, p1⟩ := cells2 HRx.out.h2; obtain ⟨z0, z1⟩ := cells2 HRx.out.h4; obtain ⟨y0, y1, y2, y3, y4, y5⟩ := cells6 HRx.out.h5; obtain ⟨q0, q1, q2, q3, q4, q5⟩ := cells6 HRx.out.h6; have fzz0 : x.frozen? ⟨g4, 0, none⟩ = false := (by { have hh := HRx.out.h4; simp [World.frozen?, hh] }); have fzz1 : x.frozen? ⟨g4, 1, none⟩ = false := (by { have hh := HRx.out.h4; simp [World.frozen?, hh] }); have fzy0 : x.frozen? ⟨g5, 0, none⟩ = false := (by { have hh := HRx.out.h5; simp [World.frozen?, hh] }); have fzy1 : x.frozen? ⟨g5, 1, none⟩ = false := (by { have hh := HRx.out.h5; simp [World.frozen?, hh] }); have fzy2 : x.frozen? ⟨g5, 2, none⟩ = false := (by { have hh := HRx.out.h5; simp [World.frozen?, hh] }); have fzy3 : x.frozen? ⟨g5, 3, none⟩ = false := (by { have hh := HRx.out.h5; simp [World.frozen?, hh] }); have fzy4 : x.frozen? ⟨g5, 4, none⟩ = false := (by { have hh := HRx.out.h5; simp [World.frozen?, hh] }); have fzy5 : x.frozen? ⟨g5, 5, none⟩ = false := (by { have hh := HRx.out.h5; simp [World.frozen?, hh] }); have d45 : ¬ g5 = g4 := Nat.ne_of_gt HL5.out; have d54 : ¬ g4 = g5 := Nat.ne_of_lt HL5.out; have d46 : ¬ g4 = g6 := Nat.ne_of_lt (Nat.lt_trans HL5.out HL6.out); have d64 : ¬ g6 = g4 := fun e => d46 e.symm; have d56 : ¬ g5 = g6 := Nat.ne_of_lt HL6.out; have d65 : ¬ g6 = g5 := fun e => d56 e.symm; have dg4 : ¬ g = g4 := Nat.ne_of_lt (Nat.lt_trans HL3.out HL4.out); have d4g : ¬ g4 = g := fun e => dg4 e.symm; have dg5 : ¬ g = g5 := Nat.ne_of_lt (Nat.lt_trans HL3.out (Nat.lt_trans HL4.out HL5.out)); have d5g : ¬ g5 = g := fun e => dg5 e.symm)
      | fail)
    go_region
    all_goals
      go_wp2
      obtain ⟨t4, t5, tst⟩ := out8 (s0 := .slice A1 n1 cc1) (s1 := .slice B1 m1 d1) (a := .int .i64 0) (b := .bool true) (c := .string q) (d := .slice none 0 0) (e := .slice none 0 0) (f := .int .u64 0) HRx.out.h4 HRx.out.h5 d54
      refine bodyPost_ret (results_v2 rfl Try.underlying29 Try.underlying40 rfl rfl t4 size_shelf t5 size_answer) rfl ?_
      exact HFIN.out _ _ _ _ _ _ _ _ _ _ _ _ _ _ _ _ _ _ _ _ _ _ _ _ HRx.out (fun lo hi h _ => Apt.own HOW.out.o1 (by have := HLE.out; have := HR9.out.o1; have := HR9.out.o2; have := HR9.out.o3; have := HR9.out.o4; omega)) (fun lo hi h _ => Apt.own HOW.out.o2 (by have := HLE.out; have := HR9.out.o1; have := HR9.out.o2; have := HR9.out.o3; have := HR9.out.o4; omega)) (RP.row_nil _ _) rfl (Apt.nil _ _ _) (RB.row_nil _ _) rfl (Apt.nil _ _ _) tst
set_option maxHeartbeats 6400000 in
theorem rap_6 {w : World} {A B : Option Addr} {n cc m d : Nat} {L : List Kv} {Q : List ByteArray} (h : Shv w A n cc B m d L Q) (hl : L.length < 900000) (key val to_ : ByteArray) (ga : Option Addr) (gn gc : Nat) (G : List Cal) (hG : Grp w ⟨6, key, val, to_, ga, gn, gc⟩ G) (hgd : goodN ⟨6, key, val, to_, ga, gn, gc⟩ G = 0) : Calls Try.prog 20 #[.agg #[.slice A n cc, .slice B m d], .agg #[.int .i64 6, .string key, .string val, .string to_, .slice ga gn gc]] w (RApTo w A n B m L Q 0 false ⟨#[]⟩ (L.filter (inR ⟨6, key, val, to_, ga, gn, gc⟩)) []) := by
  obtain ⟨g, hg⟩ : ∃ g, w.heap.size = g := ⟨_, rfl⟩
  obtain ⟨w1, hw1⟩ : ∃ w1, w.alloc (.cells #[.slice A n cc, .slice B m d] 29) = w1 := ⟨_, rfl⟩
  have HX : Hid (w1.heap[g]? = some (.cells #[.slice A n cc, .slice B m d] 29 (0, 0))) := by rw [← hw1, ← hg]; exact heap_alloc_new w _
  have HB1 : Hid (Below g w w1) := by rw [← hw1, ← hg]; exact (Below.refl _ _).alloc (Nat.le_refl _) _
  obtain ⟨g3, hg3⟩ : ∃ z, w1.heap.size = z := ⟨_, rfl⟩
  obtain ⟨w2, hw2⟩ : ∃ w2, w1.alloc (.cells #[.int .i64 6, .string key, .string val, .string to_, .slice ga gn gc] 24) = w2 := ⟨_, rfl⟩
  have HX3 : Hid (w2.heap[g3]? = some (.cells #[.int .i64 6, .string key, .string val, .string to_, .slice ga gn gc] 24 (0, 0))) := by rw [← hw2, ← hg3]; exact heap_alloc_new w1 _
  have HB2 : Hid (Below g3 w1 w2) := by rw [← hw2, ← hg3]; exact (Below.refl _ _).alloc (Nat.le_refl _) _
  have HL3 : Hid (g < g3) := hg3 ▸ lt_of_heap HX.out
  obtain ⟨g4, hg4⟩ : ∃ z, w2.heap.size = z := ⟨_, rfl⟩
  have HG4 := Lib.hid hg4
  have HL4 : Hid (g3 < g4) := hg4 ▸ lt_of_heap HX3.out
  have HZS := Lib.hid zero_shelf
  have HZA := Lib.hid zero_answer
  have HSV : Hid (∀ v, Below g w v → Shv v A n cc B m d L Q) := fun v hv => h.below (hg.symm ▸ hv)
  have HGR : Hid (∀ v, Below g w v → Grp v ⟨6, key, val, to_, ga, gn, gc⟩ G) := fun v hv => hG.below (hg.symm ▸ hv)
  have HGO : Hid (∀ v, Below g w v → Calls Try.prog 16 #[.agg #[.int .i64 6, .string key, .string val, .string to_, .slice ga gn gc]] v fun e w' => e = .returned (.int .i64 (goodN ⟨6, key, val, to_, ga, gn, gc⟩ G)) ∧ Below v.heap.size v w') := fun v hv => rgood_any ⟨6, key, val, to_, ga, gn, gc⟩ G v (HGR.out v hv)
  have HAO : Hid (∀ hi, Apt A n g hi ∧ Apt B m g hi) := fun hi => hg ▸ ⟨Apt.old h.r1 h.n1, Apt.old h.r2 h.n2⟩
  have HG0 := Lib.hid hg
  obtain ⟨R, hR⟩ : ∃ R, RApTo w A n B m L Q 0 false ⟨#[]⟩ (L.filter (inR ⟨6, key, val, to_, ga, gn, gc⟩)) [] = R := ⟨_, rfl⟩
  have HFIN : Hid (∀ g3 g4 g5 g6 A1 n1 c1 B1 m1 d1 a0 a1 a2 a3 a4 a5 A2 n2 c2 B2 m2 d2 x W, RW g g3 g4 g5 g6 w ⟨6, key, val, to_, ga, gn, gc⟩ A1 n1 c1 B1 m1 d1 L Q a0 a1 a2 a3 a4 a5 x → (∀ lo hi, hi ≤ g → Apt A n lo hi → Apt A1 n1 lo hi) → (∀ lo hi, hi ≤ g → Apt B m lo hi → Apt B1 m1 lo hi) → RP.Row x A2 (L.filter (inR ⟨6, key, val, to_, ga, gn, gc⟩)) → List.length (L.filter (inR ⟨6, key, val, to_, ga, gn, gc⟩)) = n2 → Apt A2 n2 g (g6 + 1) → RB.Row x B2 [] → List.length [] = m2 → Apt B2 m2 g (g6 + 1) → Stay (fun k => k = g4 ∨ k = g5) x W → R (.returned (.tuple #[.agg #[.slice A1 n1 c1, .slice B1 m1 d1], .agg #[.int .i64 0, .bool false, .string ⟨#[]⟩, .slice A2 n2 c2, .slice B2 m2 d2, .int .u64 0]])) W) := fun g3 g4 g5 g6 A1 n1 c1 B1 m1 d1 a0 a1 a2 a3 a4 a5 A2 n2 c2 B2 m2 d2 x W k1 k2 k3 k4 k5 k6 k7 k8 k9 k10 => by
    rw [← hR]
    exact rap_end k1 HG0.out k2 k3 k4 k5 k6 k7 k8 k9 k10
  have HAI : Hid (∀ lo hi, hi ≤ g → Apt A n lo hi → Apt A n lo hi) := fun _ _ _ h => h
  have HBI : Hid (∀ lo hi, hi ≤ g → Apt B m lo hi → Apt B m lo hi) := fun _ _ _ h => h
  have HFI : Hid (∀ i x, L[i]? = some x → (L.take (i + 1)).filter (inR ⟨6, key, val, to_, ga, gn, gc⟩) = if inR ⟨6, key, val, to_, ga, gn, gc⟩ x = true then (L.take i).filter (inR ⟨6, key, val, to_, ga, gn, gc⟩) ++ [x] else (L.take i).filter (inR ⟨6, key, val, to_, ga, gn, gc⟩)) := fun i x hx => filter_snoc _ L i x hx
  have HFL : Hid (∀ i, ((L.take i).filter (inR ⟨6, key, val, to_, ga, gn, gc⟩)).length ≤ i) := fun i => by
    have h1 := List.length_filter_le (inR ⟨6, key, val, to_, ga, gn, gc⟩) (L.take i)
    rw [List.length_take] at h1
    show _ ≤ _
    omega
  have HFE : Hid ((L.take L.length).filter (inR ⟨6, key, val, to_, ga, gn, gc⟩) = L.filter (inR ⟨6, key, val, to_, ga, gn, gc⟩)) := by show _ = _; rw [List.take_length]
  have HIN : Hid (∀ x, inR ⟨6, key, val, to_, ga, gn, gc⟩ x = (!Op.bytesLess x.k.toList key.toList && (to_.toList.isEmpty || Op.bytesLess x.k.toList to_.toList))) := fun x => rfl
  have HLN : Hid (L.length = n) := h.n1
  have hnb : n ≤ 1048576 := by have := h.r1.1; have := h.n1; omega
  have HNB := Lib.hid hnb
  have HN9 : Hid (n < 1000000) := by have := h.n1; show _ < _; omega
  clear hnb
  have HGD := Lib.hid hgd
  rw [hR]
  obtain ⟨b0, b1⟩ := cells2 HX.out
  clear h hR hG hgd hg4 hl
  go_enter Try.func20, Try.ntmps20
  go_wp2_with (first
    | ((with_reducible show wpList _ _ _ (⟨some 4, .alloc _, _, _, _, _⟩ :: _) _ _); refine wpList_alloc_var (o := ⟨some 4, _, _, _, _, _⟩) rfl 29 rfl g4 HG4.out _ HZS.out ?_; intro v4 X4 B4; obtain ⟨g5, hg5⟩ : ∃ z, v4.heap.size = z := ⟨_, rfl⟩; have HG5 := Lib.hid hg5; have HL5 : Hid (g4 < g5) := hg5 ▸ lt_of_heap X4.out; clear hg5)
    | ((with_reducible show wpList _ _ _ (⟨some 5, .alloc _, _, _, _, _⟩ :: _) _ _); refine wpList_alloc_var (o := ⟨some 5, _, _, _, _, _⟩) rfl 40 rfl g5 HG5.out _ HZA.out ?_; intro v5 X5 B5; obtain ⟨g6, hg6⟩ : ∃ z, v5.heap.size = z := ⟨_, rfl⟩; have HG6 := Lib.hid hg6; have HL6 : Hid (g5 < g6) := hg6 ▸ lt_of_heap X5.out; clear hg6)
    | ((with_reducible show wpList _ _ _ (⟨some 6, .alloc _, _, _, _, _⟩ :: _) _ _); refine wpList_alloc_var (o := ⟨some 6, _, _, _, _, _⟩) rfl 40 rfl g6 HG6.out _ HZA.out ?_; intro v6 X6 B6; have HR6 : Hid (RW g g3 g4 g5 g6 w ⟨6, key, val, to_, ga, gn, gc⟩ A n cc B m d L Q _ _ _ _ _ _ v6) := rw_start HL3.out HL4.out HL5.out HL6.out HX.out HB1.out HX3.out HB2.out X4.out B4.out X5.out B5.out X6.out B6.out HSV.out (HAO.out _).1 (HAO.out _).2; clear b0 b1; obtain ⟨c0, c1, c2, c3, c4⟩ := cells5 HR6.out.h3)
    | fail)
  refine (HGO.out v6 HR6.out.bel).mono ?_
  clear hg hw1 hg3 hw2
  rintro e v7 ⟨rfl, hb⟩
  have HR7 := Lib.hid (HR6.out.below hb)
  clear hb c0 c1 c2 c3 c4
  rw [HGD.out]
  obtain ⟨p0, p1⟩ := cells2 HR7.out.h2
  obtain ⟨c0, c1, c2, c3, c4⟩ := cells5 HR7.out.h3
  go_wp2_with fail
  clear p0 p1 c0 c1 c2 c3 c4
  go_loopg [8] n (fun gk s8 wx => ∃ (i : Nat) (A9 : Option Addr) (k9 c9 : Nat), i + gk = n ∧ s8 = .int .i64 i ∧ Hid (RW g g3 g4 g5 g6 w ⟨6, key, val, to_, ga, gn, gc⟩ A n cc B m d L Q (.int .i64 0) (.bool false) (.string ⟨#[]⟩) (.slice A9 k9 c9) (.slice none 0 0) (.int .u64 0) wx) ∧ Hid (((L.take i).filter (inR ⟨6, key, val, to_, ga, gn, gc⟩)).length = k9) ∧ Hid (wx.ownsRow (g6 + 1) RP.tE RP.k (.slice A9 k9 c9) k9 (RP.enc ((L.take i).filter (inR ⟨6, key, val, to_, ga, gn, gc⟩)))))
  case atStart => exact ⟨0, none, 0, 0, by omega, rfl, HR7, rfl, World.ownsRow_nil _ _ _ _⟩
  case round =>
    obtain ⟨i, A9, k9, c9, hig, rfl, HRr, HML, HOr⟩ := hrel
    obtain ⟨p0, p1⟩ := cells2 HRr.out.h2
    cases gk with
    | zero =>
      obtain rfl : i = n := by omega
      have hii : ¬ (i : Int) < (i : Int) := by omega
      have HE2 : Hid (((L.take i).filter (inR ⟨6, key, val, to_, ga, gn, gc⟩)) = L.filter (inR ⟨6, key, val, to_, ga, gn, gc⟩)) := by have := HFE.out; rw [HLN.out] at this; exact this
      rw [HE2.out] at HML HOr
      obtain ⟨-, _, _, ee, -, -, hrow, -, -⟩ := Rec.row_of_own HOr.out (by have := HML.out; have := HFL.out i; rw [HE2.out] at this; have := HNB.out; omega)
      cases ee
      have HRM := Lib.hid hrow
      clear hrow p0 p1
      obtain ⟨p0, p1⟩ := cells2 HRr.out.h2
      obtain ⟨z0, z1⟩ := cells2 HRr.out.h4
      obtain ⟨y0, y1, y2, y3, y4, y5⟩ := cells6 HRr.out.h5
      obtain ⟨q0, q1, q2, q3, q4, q5⟩ := cells6 HRr.out.h6
      have fzz0 : wr.frozen? ⟨g4, 0, none⟩ = false := (by { have hh := HRr.out.h4; simp [World.frozen?, hh] })
      have fzz1 : wr.frozen? ⟨g4, 1, none⟩ = false := (by { have hh := HRr.out.h4; simp [World.frozen?, hh] })
      have fzy0 : wr.frozen? ⟨g5, 0, none⟩ = false := (by { have hh := HRr.out.h5; simp [World.frozen?, hh] })
      have fzy1 : wr.frozen? ⟨g5, 1, none⟩ = false := (by { have hh := HRr.out.h5; simp [World.frozen?, hh] })
      have fzy2 : wr.frozen? ⟨g5, 2, none⟩ = false := (by { have hh := HRr.out.h5; simp [World.frozen?, hh] })
      have fzy3 : wr.frozen? ⟨g5, 3, none⟩ = false := (by { have hh := HRr.out.h5; simp [World.frozen?, hh] })
      have fzy4 : wr.frozen? ⟨g5, 4, none⟩ = false := (by { have hh := HRr.out.h5; simp [World.frozen?, hh] })
      have fzy5 : wr.frozen? ⟨g5, 5, none⟩ = false := (by { have hh := HRr.out.h5; simp [World.frozen?, hh] })
      have d45 : ¬ g5 = g4 := Nat.ne_of_gt HL5.out
      have d54 : ¬ g4 = g5 := Nat.ne_of_lt HL5.out
      have d46 : ¬ g4 = g6 := Nat.ne_of_lt (Nat.lt_trans HL5.out HL6.out)
      have d64 : ¬ g6 = g4 := fun e => d46 e.symm
      have d56 : ¬ g5 = g6 := Nat.ne_of_lt HL6.out
      have d65 : ¬ g6 = g5 := fun e => d56 e.symm
      have dg4 : ¬ g = g4 := Nat.ne_of_lt (Nat.lt_trans HL3.out HL4.out)
      have d4g : ¬ g4 = g := fun e => dg4 e.symm
      have dg5 : ¬ g = g5 := Nat.ne_of_lt (Nat.lt_trans HL3.out (Nat.lt_trans HL4.out HL5.out))
      have d5g : ¬ g5 = g := fun e => dg5 e.symm
      go_upto_region 35 with fail
      go_region
      all_goals
        go_wp2
        obtain ⟨t4, t5, tst⟩ := out8 (s0 := .slice A i cc) (s1 := .slice B m d) (a := .int .i64 0) (b := .bool false) (c := .string ⟨#[]⟩) (d := .slice A9 k9 c9) (e := .slice none 0 0) (f := .int .u64 0) HRr.out.h4 HRr.out.h5 d54
        refine bodyPost_ret (results_v2 rfl Try.underlying29 Try.underlying40 rfl rfl t4 size_shelf t5 size_answer) rfl ?_
        exact HFIN.out _ _ _ _ _ _ _ _ _ _ _ _ _ _ _ _ _ _ _ _ _ _ _ _ HRr.out HAI.out HBI.out HRM.out HML.out (Apt.own HOr.out (Nat.le_refl _)) (RB.row_nil _ _) rfl (Apt.nil _ _ _) tst
    | succ gk =>
      have hii : (i : Int) < (n : Int) := by omega
      have hi0 : (0 : Int) ≤ (i : Int) := by omega
      have hnb2 : n ≤ 1048576 := HNB.out
      obtain ⟨x, hx⟩ : ∃ x, L[i]? = some x := ⟨_, List.getElem?_eq_getElem (by have := HLN.out; omega)⟩
      obtain ⟨b1, o1, e1, hb1, k0, k1⟩ := pairAt HRr.out.sh.r1 hx
      subst e1
      have HFX := Lib.hid (HFI.out i x hx)
      have HIX := Lib.hid (HIN.out x)
      have HKI : Hid (k9 ≤ i) := by have := HFL.out i; rw [HML.out] at this; exact this
      have HBL := Lib.hid hb1
      have HK0 := Lib.hid k0
      have HK1 := Lib.hid k1
      obtain ⟨-, c1, -, c3, -⟩ := cells5 HRr.out.h3
      obtain ⟨-, -, -, q3, -, -⟩ := cells6 HRr.out.h6
      obtain ⟨kx, vx⟩ := x
      dsimp only at k0 k1
      clear hx hb1
      cases z1 : Op.bytesLess kx.toList key.toList with
      | true =>
        have HFY : Hid (((L.take (i + 1)).filter (inR ⟨6, key, val, to_, ga, gn, gc⟩)) = ((L.take i).filter (inR ⟨6, key, val, to_, ga, gn, gc⟩))) := by have := HFX.out; rw [HIX.out] at this; dsimp only at this; rw [z1] at this; exact this
        go_upto_region 26 with fail
        go_quiet (fail)
        go_wp2
        go_roundg gk
        case measure => omega
        case rel => exact ⟨i + 1, A9, k9, c9, by omega, by go_num, HRr.out.below (below_drewN (Below.refl _ _) nq), by show _ = _; rw [HFY.out]; exact HML.out, by show World.ownsRow _ _ _ _ _ _ _; rw [HFY.out]; exact own_keep HOr.out (below_drewN (Below.refl _ _) nq)⟩
      | false =>
        cases z2 : to_.toList == ([] : List UInt8) with
        | true =>
          have z4 : to_.toList = [] := by simpa using z2
          have HFY : Hid (((L.take (i + 1)).filter (inR ⟨6, key, val, to_, ga, gn, gc⟩)) = ((L.take i).filter (inR ⟨6, key, val, to_, ga, gn, gc⟩)) ++ [⟨kx, vx⟩]) := by have := HFX.out; rw [HIX.out] at this; dsimp only at this; rw [z1, z4] at this; exact this
          go_upto_region 26 with fail
          go_quiet (fail)
          clear p0 p1 c1 c3 k0 k1 q3
          obtain ⟨wq, hwq⟩ : ∃ wq, wr.drewN nq = wq := ⟨_, rfl⟩
          have HBq : Hid (Below wr.heap.size wr wq) := by rw [← hwq]; exact below_drewN (Below.refl _ _) nq
          rw [hwq]
          clear hwq
          have HRq := Lib.hid (HRr.out.below HBq.out)
          have HOq := Lib.hid (own_keep HOr.out HBq.out)
          obtain ⟨p0, p1⟩ := cells2 HRq.out.h2
          obtain ⟨-, -, -, q3, -, -⟩ := cells6 HRq.out.h6
          have l0 := (HBq.out.cell (p := ⟨b1, o1 + i * 2, none⟩) HBL.out).trans HK0.out
          have l1 := (HBq.out.cell (p := ⟨b1, o1 + i * 2 + 1, none⟩) HBL.out).trans HK1.out
          have hb1q : b1 < wq.heap.size := Nat.lt_of_lt_of_le HBL.out HBq.out.size
          have hgq : g < wq.heap.size := lt_of_heap HRq.out.h2
          have hg6q : g6 < wq.heap.size := HRq.out.lt
          have hN1 : ¬ g = wq.heap.size := Nat.ne_of_lt hgq
          have hN2 : ¬ g6 = wq.heap.size := Nat.ne_of_lt hg6q
          have hN3 : ¬ b1 = wq.heap.size := Nat.ne_of_lt hb1q
          obtain ⟨A3, c3', W, r1, f1, f2, rw3, ow3⟩ := RW.scan (x := wq.drew) (HRq.out.below (Below.refl _ _).drew) HSV.out (own_keep HOq.out (Below.refl _ _).drew) HML.out (by have := HKI.out; have := HN9.out; omega) ⟨kx, vx⟩
          have HRUN := Lib.hid r1
          have HRW3 := Lib.hid rw3
          have HOW3 := Lib.hid ow3
          clear r1 rw3 ow3
          go_upto_region 27 with fail
          go_region_law (refine step_app9 rfl (.tmp 118) (.tmp 124) 26 rfl (by rfl) (by rfl) HRUN.out ?_)
          all_goals
            go_wp2
            go_roundg gk
            case measure => omega
            case rel => exact ⟨i + 1, A3, k9 + 1, c3', by omega, by go_num, HRW3, by show _ = _; rw [HFY.out, List.length_append, HML.out]; rfl, by show World.ownsRow _ _ _ _ _ _ _; rw [HFY.out]; exact HOW3.out⟩
        | false =>
          have z5 : to_.toList.isEmpty = false := by cases hh : to_.toList with | nil => rw [hh] at z2; cases z2 | cons a b => rfl
          cases z3 : Op.bytesLess kx.toList to_.toList with
          | true =>
            have HFY : Hid (((L.take (i + 1)).filter (inR ⟨6, key, val, to_, ga, gn, gc⟩)) = ((L.take i).filter (inR ⟨6, key, val, to_, ga, gn, gc⟩)) ++ [⟨kx, vx⟩]) := by have := HFX.out; rw [HIX.out] at this; dsimp only at this; rw [z1, z5, z3] at this; exact this
            go_upto_region 26 with fail
            go_quiet (fail)
            clear p0 p1 c1 c3 k0 k1 q3
            obtain ⟨wq, hwq⟩ : ∃ wq, wr.drewN nq = wq := ⟨_, rfl⟩
            have HBq : Hid (Below wr.heap.size wr wq) := by rw [← hwq]; exact below_drewN (Below.refl _ _) nq
            rw [hwq]
            clear hwq
            have HRq := Lib.hid (HRr.out.below HBq.out)
            have HOq := Lib.hid (own_keep HOr.out HBq.out)
            obtain ⟨p0, p1⟩ := cells2 HRq.out.h2
            obtain ⟨-, -, -, q3, -, -⟩ := cells6 HRq.out.h6
            have l0 := (HBq.out.cell (p := ⟨b1, o1 + i * 2, none⟩) HBL.out).trans HK0.out
            have l1 := (HBq.out.cell (p := ⟨b1, o1 + i * 2 + 1, none⟩) HBL.out).trans HK1.out
            have hb1q : b1 < wq.heap.size := Nat.lt_of_lt_of_le HBL.out HBq.out.size
            have hgq : g < wq.heap.size := lt_of_heap HRq.out.h2
            have hg6q : g6 < wq.heap.size := HRq.out.lt
            have hN1 : ¬ g = wq.heap.size := Nat.ne_of_lt hgq
            have hN2 : ¬ g6 = wq.heap.size := Nat.ne_of_lt hg6q
            have hN3 : ¬ b1 = wq.heap.size := Nat.ne_of_lt hb1q
            obtain ⟨A3, c3', W, r1, f1, f2, rw3, ow3⟩ := RW.scan (x := wq.drew) (HRq.out.below (Below.refl _ _).drew) HSV.out (own_keep HOq.out (Below.refl _ _).drew) HML.out (by have := HKI.out; have := HN9.out; omega) ⟨kx, vx⟩
            have HRUN := Lib.hid r1
            have HRW3 := Lib.hid rw3
            have HOW3 := Lib.hid ow3
            clear r1 rw3 ow3
            go_upto_region 27 with fail
            go_region_law (refine step_app9 rfl (.tmp 118) (.tmp 124) 26 rfl (by rfl) (by rfl) HRUN.out ?_)
            all_goals
              go_wp2
              go_roundg gk
              case measure => omega
              case rel => exact ⟨i + 1, A3, k9 + 1, c3', by omega, by go_num, HRW3, by show _ = _; rw [HFY.out, List.length_append, HML.out]; rfl, by show World.ownsRow _ _ _ _ _ _ _; rw [HFY.out]; exact HOW3.out⟩
          | false =>
            have HFY : Hid (((L.take (i + 1)).filter (inR ⟨6, key, val, to_, ga, gn, gc⟩)) = ((L.take i).filter (inR ⟨6, key, val, to_, ga, gn, gc⟩))) := by have := HFX.out; rw [HIX.out] at this; dsimp only at this; rw [z1, z5, z3] at this; exact this
            go_upto_region 26 with fail
            go_quiet (fail)
            go_wp2
            go_roundg gk
            case measure => omega
            case rel => exact ⟨i + 1, A9, k9, c9, by omega, by go_num, HRr.out.below (below_drewN (Below.refl _ _) nq), by show _ = _; rw [HFY.out]; exact HML.out, by show World.ownsRow _ _ _ _ _ _ _; rw [HFY.out]; exact own_keep HOr.out (below_drewN (Below.refl _ _) nq)⟩

end Go.Proofs.Ytimpigponjkfkaa
