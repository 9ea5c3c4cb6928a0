/-
  Proved here: a store's copy.
  Conditions: rows of at most 2^20.
-/
import Derived.Test.YtpmgnhijiodbaaaGet15
namespace Go.Proofs.Ytpmgnhijiodbaaa
open Go Go.RowKit
set_option maxRecDepth 100000

/-- A store's copy, in memory of the call's own. -/
def CopyTo (w : World) (L : List Kv) (Q : List ByteArray) (e : Ending) (w' : World) : Prop := ∃ A c B d, e = .returned (.agg #[.slice A L.length c, .slice B Q.length d]) ∧ w'.ownsRow w.heap.size RP.tE RP.k (.slice A L.length c) L.length (RP.enc L) ∧ w'.ownsRow w.heap.size RS.tE RS.k (.slice B Q.length d) Q.length (RS.enc Q) ∧ (∀ k, (Value.slice A L.length c).ownBlock = some k → (Value.slice B Q.length d).ownBlock ≠ some k) ∧ Below w.heap.size w w'
theorem set2 {w : World} {g : Nat} {T : TypeId} {x y a b : Value} (h : w.heap[g]? = some (.cells #[x, y] T (0, 0))) : ((w.setCell ⟨g, 0, none⟩ a).setCell ⟨g, 1, none⟩ b).heap[g]? = some (.cells #[a, b] T (0, 0)) := by
  have h1 := heap_setCell_same w g 0 _ _ a h
  exact heap_setCell_same _ g 1 _ _ b h1
set_option maxHeartbeats 1600000 in
theorem copyshelf_any {w : World} {A B : Option Addr} {n c m d : Nat} {L : List Kv} {Q : List ByteArray} (h : Shv w A n c B m d L Q) : Calls Try.prog 17 #[.agg #[.slice A n c, .slice B m d]] w (CopyTo w L Q) := by
  obtain ⟨g, hg⟩ : ∃ g, w.heap.size = g := ⟨_, rfl⟩
  obtain ⟨w1, hw1⟩ : ∃ w1, w.alloc (.cells #[.slice A n c, .slice B m d] 25) = w1 := ⟨_, rfl⟩
  have HX : Hid (w1.heap[g]? = some (.cells #[.slice A n c, .slice B m d] 25 (0, 0))) := by rw [← hw1, ← hg]; exact heap_alloc_new w _
  have HB : Hid (Below g w w1) := by rw [← hw1, ← hg]; exact (Below.refl _ _).alloc (Nat.le_refl _) _
  have h1 := h.below (hg ▸ HB.out)
  obtain ⟨g1, hg1⟩ : ∃ g1, w1.heap.size = g1 := ⟨_, rfl⟩
  have HG1 := Lib.hid hg1
  have HL : Hid (g < g1) := hg1 ▸ lt_of_heap HX.out
  have HZ := Lib.hid zero_shelf
  have HCP : Hid (∀ W, Below g1 w1 W → Calls Try.prog 36 #[.slice A n c] W (OwnR RP W L)) := fun W hW => clonep_any W A n c L h1.n1 (h1.r1.below (hg1 ▸ hW)) h1.z1
  have HCT : Hid (∀ W, Below g1 w1 W → Calls Try.prog 37 #[.slice B m d] W (OwnR RS W Q)) := fun W hW => clones_any W B m d Q h1.n2 (h1.r2.below (hg1 ▸ hW)) h1.z2
  have HLM : Hid (L.length ≤ 1048576 ∧ Q.length ≤ 1048576) := ⟨h.r1.1, h.r2.1⟩
  obtain ⟨R, hR⟩ : ∃ R, CopyTo w L Q = R := ⟨_, rfl⟩
  have HFIN : Hid (∀ A' c' B' d' W, W.ownsRow g1 RP.tE RP.k (.slice A' L.length c') L.length (RP.enc L) → W.ownsRow g1 RS.tE RS.k (.slice B' Q.length d') Q.length (RS.enc Q) → (∀ k, (Value.slice A' L.length c').ownBlock = some k → (Value.slice B' Q.length d').ownBlock ≠ some k) → Below g1 w1 W → R (.returned (.agg #[.slice A' L.length c', .slice B' Q.length d'])) W) := fun A' c' B' d' W k1 k2 k3 k4 => by
    rw [← hR]
    refine ⟨A', c', B', d', rfl, own_mono k1 (by have := HL.out; omega), own_mono k2 (by have := HL.out; omega), k3, ?_⟩
    rw [hg]
    exact HB.out.trans (k4.mono (Nat.le_of_lt HL.out))
  obtain ⟨p0, p1⟩ := cells2 HX.out
  rw [hR]
  clear h h1 hR hg1
  go_enter Try.func17, Try.ntmps17
  go_wp2_with (first
    | ((with_reducible show wpList _ _ _ (⟨some 2, .alloc _, _, _, _, _⟩ :: _) _ _); refine wpList_alloc_var (o := ⟨some 2, _, _, _, _, _⟩) rfl 25 rfl g1 HG1.out _ HZ.out ?_; intro v1 H1 B1)
    | fail)
  have HV : Hid (v1.heap[g]? = some (.cells #[.slice A n c, .slice B m d] 25 (0, 0))) := (B1.out.block g HL.out).trans HX.out
  have HL1 : Hid (g1 < v1.heap.size) := lt_of_heap H1.out
  clear p0 p1 hg hw1
  obtain ⟨p0, p1⟩ := cells2 HV.out
  have hn1 : ¬ g = g1 := by have := HL.out; omega
  have hn2 : ¬ g1 = g := by have := HL.out; omega
  go_wp2
  go_region_held3 (fun w' => w'.cell? ⟨g, 0, none⟩ = some (.slice A n c) ∧ w'.cell? ⟨g, 1, none⟩ = some (.slice B m d)) (go_keep)
    (first
      | (go_at_call 36; refine (HCP.out _ B1.out.drew).mono ?_; rintro e v2 ⟨V1, rfl, k1, k2⟩; obtain ⟨_, A2, c2, rfl, -⟩ := Rec.row_of_own k1 HLM.out.1; have HO1 := Lib.hid (own_mono k1 (Nat.succ_le_of_lt HL1.out)); have HB2 : Hid (Below g1 w1 v2) := B1.out.drew.trans (k2.mono (Nat.le_of_lt HL1.out)); have HV2 := Lib.hid ((k2.block g (Nat.lt_trans HL.out HL1.out)).trans HV.out); have HZ2 := Lib.hid ((k2.block g1 HL1.out).trans H1.out); have HS2 : Hid (g1 + 1 ≤ v2.heap.size) := (Nat.le_trans (Nat.succ_le_of_lt HL1.out) k2.size); clear k1 k2; obtain ⟨q0, q1⟩ := cells2 HV2.out)
      | (go_at_call 37; refine (HCT.out _ HB2.out).mono ?_; rintro e v3 ⟨V2, rfl, k1, k2⟩; obtain ⟨_, A3, c3, rfl, -⟩ := Rec.row_of_own k1 HLM.out.2; have HNE : Hid (∀ k, (Value.slice A2 L.length c2).ownBlock = some k → (Value.slice A3 Q.length c3).ownBlock ≠ some k) := (fun k e1 e2 => Nat.lt_irrefl _ (Nat.lt_of_lt_of_le (own_ltN HO1.out e1) (own_ge k1 k e2))); have HO3 := Lib.hid (own_mono k1 HS2.out); have HO2 := Lib.hid (own_keep HO1.out k2); have HB3 : Hid (Below g1 w1 v3) := HB2.out.trans (k2.mono (Nat.le_of_succ_le HS2.out)); have HV3 := Lib.hid ((k2.block g (lt_of_heap HV2.out)).trans HV2.out); have HZ3 : Hid (v3.heap[g1]? = some (.cells #[.slice none 0 0, .slice none 0 0] 25 (0, 0))) := ((k2.block g1 (lt_of_heap HZ2.out)).trans HZ2.out); clear k1 k2; obtain ⟨r0, r1⟩ := cells2 HV3.out; obtain ⟨s0, s1⟩ := cells2 HZ3.out; have f0 : v3.frozen? ⟨g1, 0, none⟩ = false := (by have hh := HZ3.out; simp [World.frozen?, hh]); have f1 : v3.frozen? ⟨g1, 1, none⟩ = false := (by have hh := HZ3.out; simp [World.frozen?, hh])))
  go_wp2
  have hs := set2 (a := .slice A2 L.length c2) (b := .slice A3 Q.length c3) HZ3.out
  have hk : ∀ k, k ≠ g1 → ((v3.setCell ⟨g1, 0, none⟩ (.slice A2 L.length c2)).setCell ⟨g1, 1, none⟩ (.slice A3 Q.length c3)).heap[k]? = v3.heap[k]? := fun k hk => by
    rw [Below.heap_setCell _ _ _ _ hk, Below.heap_setCell _ _ _ _ hk]
  have hB4 : Below g1 w1 ((v3.setCell ⟨g1, 0, none⟩ (.slice A2 L.length c2)).setCell ⟨g1, 1, none⟩ (.slice A3 Q.length c3)) := (HB3.out.setCell (Nat.le_refl _) _).setCell (Nat.le_refl _) _
  refine bodyPost_ret (results_v1 (cs := [.slice A2 L.length c2, .slice A3 Q.length c3]) rfl Try.underlying25 rfl hs size_shelf) rfl ?_
  exact HFIN.out _ _ _ _ _ (own_mono (own_same HO2.out (fun k e => hk k (fun e2 => by have := own_ge HO2.out k e; omega))) (Nat.le_succ _)) (own_mono (own_same HO3.out (fun k e => hk k (fun e2 => by have := own_ge HO3.out k e; omega))) (Nat.le_succ _)) HNE.out hB4

end Go.Proofs.Ytpmgnhijiodbaaa
