/-
  Proved here: what a link set in a table's map leaves.
  Conditions: keys of at most 2^30 bytes.
-/
import Derived.Test.YtjehklmbgldfpaaTabC
namespace Go.Proofs.Ytjehklmbgldfpaa
open Go Go.RowKit
set_option maxRecDepth 100000

/-- A link set in a table whose bucket has a map. -/
theorem Tb.sets {w : World} {p b : Nat} {m : Nat → Option Nat} {L : List Ln} (h : Tb w p m L) (x : Ln) (hx : x.k.length ≤ 1073741824) (hb : m (bkt x.k) = some b) (hl : L.length < 1048576) :
    ∃ w', (Instr.mapUpdate 48 (.map (some b)) (.string x.str) x.agg).run Try.prog w = .ok () w' ∧ Tb w' p m (setT L x) ∧ Stay (tbOwn p m) w w' := by
  have hkey := key_of _ hx
  have hb8 := bkt_lt x.k
  have hpt := partT_set h.rises bkt x
  have hm : MapL w b (partT bkt L (bkt x.k)) := h.some_ _ b hb8 hb
  have hpl : (partT bkt L (bkt x.k)).length ≤ L.length := List.length_filter_le _ _
  obtain ⟨w', hrun, h1, h2⟩ := World.ownsMap.store hm str_law Try.underlying48 (by unfold maxLen; omega) hkey (linkE_mk x)
  rw [md_put] at h1
  have h3 : MapL w' b (setT (partT bkt L (bkt x.k)) x) := own_tight h1
  refine ⟨w', hrun, h.changed hb8 hb (Stay.turned h2 rfl) ?_ (risesK_set h.rises x) ?_ fun j hj hji => ?_⟩
  · rw [hpt, if_pos rfl]
    exact h3
  · intro y hy
    rcases mem_setT.1 hy with rfl | ⟨hy, _⟩
    · exact hx
    · exact h.keys y hy
  · rw [hpt, if_neg (fun e => hji e.symm)]
/-- A bucket's map made. -/
theorem Tb.made {w : World} {p i : Nat} {m : Nat → Option Nat} {L : List Ln} (h : Tb w p m L) (hi : i < 8) (hm : m i = none) :
    Tb ((w.alloc (.map #[] 0)).setCell ⟨p, i, none⟩ (.map (some w.heap.size))) p (fun j => if j = i then some w.heap.size else m j) L := by
  have hp : p < w.heap.size := lt_of_heap h.mem
  have h1 : (w.alloc (.map #[] 0)).heap[p]? = some (.cells (mcells m).toArray 51 (0, 0)) := (Below.heap_alloc _ _ _ hp).trans h.mem
  have hs : Stay (fun k => k = p) w ((w.alloc (.map #[] 0)).setCell ⟨p, i, none⟩ (.map (some w.heap.size))) :=
    (Stay.of_below ((Below.refl _ _).alloc (Nat.le_refl _) _)).trans (Stay.setCell _ _ _ _ rfl)
  refine ⟨h.rises, h.keys, ?_, fun j hj e => ?_, fun j b hj e => ?_, fun j j' b hj hj' e e' => ?_⟩
  · rw [heap_setCell_same _ p i _ 51 _ h1]
    rw [← mcells_set m hi]
    simp
  · by_cases hji : j = i
    · simp [hji] at e
    · simp only [hji, if_false] at e
      exact h.none_ j hj e
  · by_cases hji : j = i
    · subst hji
      simp only [if_true, Option.some.injEq] at e
      subst e
      rw [h.none_ j hj hm]
      refine (mapL_new w).stay ?_
      exact Below.heap_setCell _ _ _ _ (by simp; omega)
    · simp only [hji, if_false] at e
      have hbp : b ≠ p := by
        rintro rfl
        obtain ⟨es, clock, h1, _⟩ := h.some_ j b hj e
        rw [h.mem] at h1
        cases h1
      exact (h.some_ j b hj e).stay (hs.block b hbp (h.some_ j b hj e).lt)
  · by_cases hji : j = i
    · by_cases hji' : j' = i
      · rw [hji, hji']
      · simp only [hji, hji', if_true, if_false, Option.some.injEq] at e e'
        have := (h.some_ j' b hj' e').lt
        omega
    · by_cases hji' : j' = i
      · simp only [hji, hji', if_true, if_false, Option.some.injEq] at e e'
        have := (h.some_ j b hj e).lt
        omega
      · simp only [hji, hji', if_false] at e e'
        exact h.apart j j' b hj hj' e e'
theorem tbset_old {w w2 w5 w7 : World} {p : Nat} {m : Nat → Option Nat} {L L' : List Ln} (h2 : Below w.heap.size w w2) (h5 : Below w2.heap.size w2 w5) (h7 : Tb w7 p m L') (hs : Stay (tbOwn p m) w5 w7) (_ : Tb w p m L) : TbTo w p m L' w7 :=
  ⟨m, h7, ((Stay.of_below h2).trans (Stay.of_below h5)).trans hs, fun _ hk => .inl hk⟩
theorem tbset_new {w w2 w3 w5 w7 : World} {p i b : Nat} {m : Nat → Option Nat} {L L' : List Ln} (h2 : Below w.heap.size w w2) (hb : w2.heap.size = b) (h3 : Stay (fun k => k = p) w2 w3) (h5 : Below w3.heap.size w3 w5) (h7 : Tb w7 p (fun j => if j = i then some b else m j) L')
    (hs : Stay (tbOwn p (fun j => if j = i then some b else m j)) w5 w7) (_ : Tb w p m L) : TbTo w p m L' w7 := by
  have hn : ∀ k, tbOwn p (fun j => if j = i then some b else m j) k → tbOwn p m k ∨ w.heap.size ≤ k := fun k hk => by
    rcases hk with rfl | ⟨j, hj, e⟩
    · exact .inl (.inl rfl)
    · by_cases hji : j = i
      · simp only [hji, if_true, Option.some.injEq] at e
        have := h2.size
        exact .inr (by omega)
      · simp only [hji, if_false] at e
        exact .inl (.inr ⟨j, hj, e⟩)
  have h3' : Stay (tbOwn p m) w2 w3 := h3.mono fun k _ e => .inl e
  exact ⟨_, h7, Stay.new (((Stay.of_below h2).trans h3').trans (Stay.of_below h5)) hs hn, hn⟩

end Go.Proofs.Ytjehklmbgldfpaa
