/-
  Proved here: what CopyShelf of the statements gives.
  Conditions: rows of at most 2^20.
-/
import Derived.Test.YtpmgnhijiodbaaaSameB15
import Derived.Deep.RegionHeld3
namespace Go.Proofs.Ytpmgnhijiodbaaa
open Go Go.RowKit
set_option maxRecDepth 100000

/-- A row put behind nothing: a row of the call's own. -/
theorem app_nil {α : Type} (R : Rec α) (w : World) (A : Option Addr) (n c : Nat) (l : List α) (hl : l.length = n) (hr : R.Row w A l) (hA : A = none → c = 0) (ty : TypeId) :
    ∃ A' c' w', (Builtin.append_ #[R.tS, R.tS] ty #[.slice none 0 0, .slice A n c]).run Try.prog w = .ok (.slice A' n c') w' ∧ w'.ownsRow w.heap.size R.tE R.k (.slice A' n c') n (R.enc l) ∧ Below w.heap.size w w' := by
  obtain ⟨V, w2, hrun, hown, hg, _⟩ := R.run_app w w.heap.size 0 (.slice none 0 0) [] (World.ownsRow_nil _ _ _ _) A n c l hl hr hA (by have := hr.1; omega) (Nat.le_refl _) ty
  rw [Nat.zero_add, List.nil_append] at hown
  obtain ⟨_, A', c', rfl, -⟩ := Rec.row_of_own hown hr.1
  exact ⟨A', c', w2, hrun, hown, (Below.refl _ _).grown hg (Nat.le_refl _) (fun k hk => by simp [Value.ownBlock] at hk)⟩
theorem setcells2 {w : World} {g : Nat} {T : TypeId} {x0 x1 a b : Value} (h : w.heap[g]? = some (.cells #[x0, x1] T (0, 0))) : ((w.setCell ⟨g, 0, none⟩ a).setCell ⟨g, 1, none⟩ b).heap[g]? = some (.cells #[a, b] T (0, 0)) := set2 h
/-- What CopyShelf of the statements gives. -/
def LCopy (w : World) (L : List Kv) (Q : List ByteArray) (e : Ending) (w' : World) : Prop := ∃ A n c B m d, e = .returned (.agg #[.slice A n c, .slice B m d]) ∧ OwnS w' w.heap.size A n c B m d L Q ∧ Below w.heap.size w w'
set_option maxHeartbeats 3200000 in
theorem lcopy_any {w : World} {A B : Option Addr} {n c m d : Nat} {L : List Kv} {Q : List ByteArray} (h : Shv w A n c B m d L Q) :
    Calls Try.prog 6 #[.agg #[.slice A n c, .slice B m d]] w (LCopy w L Q) := by
  obtain ⟨g, hg⟩ : ∃ g, w.heap.size = g := ⟨_, rfl⟩
  obtain ⟨w1, hw1⟩ : ∃ w1, w.alloc (.cells #[.slice A n c, .slice B m d] 25) = w1 := ⟨_, rfl⟩
  have HX : Hid (w1.heap[g]? = some (.cells #[.slice A n c, .slice B m d] 25 (0, 0))) := by rw [← hw1, ← hg]; exact heap_alloc_new w _
  have HB : Hid (Below g w w1) := by rw [← hw1, ← hg]; exact (Below.refl _ _).alloc (Nat.le_refl _) _
  have h1 := h.below (hg ▸ HB.out)
  obtain ⟨g1, hg1⟩ : ∃ g1, w1.heap.size = g1 := ⟨_, rfl⟩
  have HG1 := Lib.hid hg1
  have HL : Hid (g < g1) := hg1 ▸ lt_of_heap HX.out
  have HZ := Lib.hid zero_shelf
  obtain ⟨R, hR⟩ : ∃ R, LCopy w L Q = R := ⟨_, rfl⟩
  have HFIN : Hid (∀ A' c' B' d' W, W.ownsRow (g1 + 1) RP.tE RP.k (.slice A' n c') n (RP.enc L) → W.ownsRow (g1 + 1) RS.tE RS.k (.slice B' m d') m (RS.enc Q) → Below g1 w1 W → W.heap[g1]? = some (.cells #[.slice none 0 0, .slice none 0 0] 25 (0, 0)) → R (.returned (.agg #[.slice A' n c', .slice B' m d'])) ((W.setCell ⟨g1, 0, none⟩ (.slice A' n c')).setCell ⟨g1, 1, none⟩ (.slice B' m d'))) := fun A' c' B' d' W k1 k2 k4 k5 => by
    have hk : ∀ k, k ≠ g1 → ((W.setCell ⟨g1, 0, none⟩ (.slice A' n c')).setCell ⟨g1, 1, none⟩ (.slice B' m d')).heap[k]? = W.heap[k]? := fun k hk => by
      rw [Below.heap_setCell _ _ _ _ hk, Below.heap_setCell _ _ _ _ hk]
    rw [← hR]
    refine ⟨A', n, c', B', m, d', rfl, ⟨own_mono (own_same k1 (fun k e => hk k (fun e2 => by have := own_ge k1 k e; omega))) ?_, own_mono (own_same k2 (fun k e => hk k (fun e2 => by have := own_ge k2 k e; omega))) ?_, h.n1, h.n2⟩, ?_⟩
    · rw [hg]; have := HL.out; omega
    · rw [hg]; have := HL.out; omega
    · rw [hg]
      exact HB.out.trans (((k4.setCell (Nat.le_refl _) _).setCell (Nat.le_refl _) _).mono (Nat.le_of_lt HL.out))
  have HE : Hid (∀ v, Below g1 w1 v → g1 + 1 ≤ v.heap.size → v.heap[g1]? = some (.cells #[.slice none 0 0, .slice none 0 0] 25 (0, 0)) → 
      (∃ A1 c1 B1 d1 x1 x2, (Builtin.append_ #[22, 22] 22 #[.slice none 0 0, .slice A n c]).run Try.prog v = .ok (.slice A1 n c1) x1 ∧ (Builtin.append_ #[23, 23] 23 #[.slice none 0 0, .slice B m d]).run Try.prog x1 = .ok (.slice B1 m d1) x2 ∧ R (.returned (.agg #[.slice A1 n c1, .slice B1 m d1])) ((x2.setCell ⟨g1, 0, none⟩ (.slice A1 n c1)).setCell ⟨g1, 1, none⟩ (.slice B1 m d1)) ∧ Below g1 w1 x1 ∧ Below g1 w1 x2 ∧ x2.heap[g1]? = some (.cells #[.slice none 0 0, .slice none 0 0] 25 (0, 0))) ∧
      (∃ A1 c1 B1 d1 x1 x2, (Builtin.append_ #[23, 23] 23 #[.slice none 0 0, .slice B m d]).run Try.prog v = .ok (.slice B1 m d1) x1 ∧ (Builtin.append_ #[22, 22] 22 #[.slice none 0 0, .slice A n c]).run Try.prog x1 = .ok (.slice A1 n c1) x2 ∧ R (.returned (.agg #[.slice A1 n c1, .slice B1 m d1])) ((x2.setCell ⟨g1, 0, none⟩ (.slice A1 n c1)).setCell ⟨g1, 1, none⟩ (.slice B1 m d1)) ∧ Below g1 w1 x1 ∧ Below g1 w1 x2 ∧ x2.heap[g1]? = some (.cells #[.slice none 0 0, .slice none 0 0] 25 (0, 0)))) := fun v hv hs hz => by
    have hvr := h1.below (hg1.symm ▸ hv)
    constructor
    · obtain ⟨A1, c1, x1, r1, o1, b1⟩ := app_nil RP v A n c L h.n1 hvr.r1 h.z1 22
      have hv1 : Below g1 w1 x1 := hv.trans (b1.mono (by omega))
      have hvr1 := h1.below (hg1.symm ▸ hv1)
      obtain ⟨B1, d1, x2, r2, o2, b2⟩ := app_nil RS x1 B m d Q h.n2 hvr1.r2 h.z2 23
      have hv2 : Below g1 w1 x2 := hv1.trans (b2.mono (by have := b1.size; omega))
      have hz2 := (b2.block g1 (by have := b1.size; omega)).trans ((b1.block g1 (by omega)).trans hz)
      exact ⟨A1, c1, B1, d1, x1, x2, r1, r2, HFIN.out _ _ _ _ _ (own_mono (own_keep o1 b2) hs) (own_mono o2 (by have := b1.size; omega)) hv2 hz2, hv1, hv2, hz2⟩
    · obtain ⟨B1, d1, x1, r1, o1, b1⟩ := app_nil RS v B m d Q h.n2 hvr.r2 h.z2 23
      have hv1 : Below g1 w1 x1 := hv.trans (b1.mono (by omega))
      have hvr1 := h1.below (hg1.symm ▸ hv1)
      obtain ⟨A1, c1, x2, r2, o2, b2⟩ := app_nil RP x1 A n c L h.n1 hvr1.r1 h.z1 22
      have hv2 : Below g1 w1 x2 := hv1.trans (b2.mono (by have := b1.size; omega))
      have hz2 := (b2.block g1 (by have := b1.size; omega)).trans ((b1.block g1 (by omega)).trans hz)
      exact ⟨A1, c1, B1, d1, x1, x2, r1, r2, HFIN.out _ _ _ _ _ (own_mono o2 (by have := b1.size; omega)) (own_mono (own_keep o1 b2) hs) hv2 hz2, hv1, hv2, hz2⟩
  obtain ⟨p0, p1⟩ := cells2 HX.out
  rw [hR]
  clear h h1 hR hg1
  go_enter Try.func6, Try.ntmps6
  go_wp2_with (first
    | ((with_reducible show wpList _ _ _ (⟨some 2, .alloc _, _, _, _, _⟩ :: _) _ _); refine wpList_alloc_var (o := ⟨some 2, _, _, _, _, _⟩) rfl 25 rfl g1 HG1.out _ HZ.out ?_; intro v1 H1 B1)
    | fail)
  have HV : Hid (v1.heap[g]? = some (.cells #[.slice A n c, .slice B m d] 25 (0, 0))) := (B1.out.block g HL.out).trans HX.out
  obtain ⟨⟨A1, c1, B1', d1, x1, x2, r1, r2, r3, b1, b2, z2⟩, ⟨A3, c3, B3, d3, x3, x4, r4, r5, r6, b3, b4, z4⟩⟩ := HE.out v1.drew B1.out.drew (lt_of_heap H1.out) H1.out
  have E1 := Lib.hid r1
  have E2 := Lib.hid r2
  have E3 := Lib.hid r3
  have F1 := Lib.hid r4
  have F2 := Lib.hid r5
  have F3 := Lib.hid r6
  have HZ2 := Lib.hid z2
  have HZ4 := Lib.hid z4
  clear p0 p1 hg hw1 r1 r2 r3 r4 r5 r6 z2 z4
  obtain ⟨p0, p1⟩ := cells2 HV.out
  obtain ⟨q0, q1⟩ := cells2 ((b1.block g HL.out).trans HX.out)
  obtain ⟨s0, s1⟩ := cells2 ((b2.block g HL.out).trans HX.out)
  obtain ⟨t0, t1⟩ := cells2 ((b3.block g HL.out).trans HX.out)
  obtain ⟨u0, u1⟩ := cells2 ((b4.block g HL.out).trans HX.out)
  obtain ⟨z0, z1⟩ := cells2 HZ2.out
  obtain ⟨y0, y1⟩ := cells2 HZ4.out
  have f0 : x2.frozen? ⟨g1, 0, none⟩ = false := by have hh := HZ2.out; simp [World.frozen?, hh]
  have f1 : x2.frozen? ⟨g1, 1, none⟩ = false := by have hh := HZ2.out; simp [World.frozen?, hh]
  have f2 : x4.frozen? ⟨g1, 0, none⟩ = false := by have hh := HZ4.out; simp [World.frozen?, hh]
  have f3 : x4.frozen? ⟨g1, 1, none⟩ = false := by have hh := HZ4.out; simp [World.frozen?, hh]
  have hn1 : ¬ g = g1 := by have := HL.out; omega
  have hn2 : ¬ g1 = g := by have := HL.out; omega
  clear b1 b2 b3 b4
  go_wp2
  go_region_held3 (fun w' => w'.cell? ⟨g, 0, none⟩ = some (.slice A n c) ∧ w'.cell? ⟨g, 1, none⟩ = some (.slice B m d)) (go_keep)
    (first
      | (refine step_app9 rfl (.const (.slice none 0 0)) (.tmp 4) 22 rfl rfl rfl E1.out ?_)
      | (refine step_app9 rfl (.const (.slice none 0 0)) (.tmp 7) 23 rfl rfl rfl E2.out ?_)
      | (refine step_app9 rfl (.const (.slice none 0 0)) (.tmp 7) 23 rfl rfl rfl F1.out ?_)
      | (refine step_app9 rfl (.const (.slice none 0 0)) (.tmp 4) 22 rfl rfl rfl F2.out ?_))
  all_goals
    go_wp2
    first
      | (refine bodyPost_ret (results_v1 (cs := [.slice A1 n c1, .slice B1' m d1]) rfl Try.underlying25 rfl (set2 HZ2.out) size_shelf) rfl ?_; exact E3.out)
      | (refine bodyPost_ret (results_v1 (cs := [.slice A3 n c3, .slice B3 m d3]) rfl Try.underlying25 rfl (set2 HZ4.out) size_shelf) rfl ?_; exact F3.out)

end Go.Proofs.Ytpmgnhijiodbaaa
