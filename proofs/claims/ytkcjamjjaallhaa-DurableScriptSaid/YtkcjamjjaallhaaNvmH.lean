/-
  Proved here: what package nvm's Copy leaves: a device of its own with the same lines and counts.
  Conditions: a device of at most 258 lines.
-/
import Derived.Test.YtkcjamjjaallhaaNvmG
import Derived.Lib.SliceRun
namespace Go.Proofs.Ytkcjamjjaallhaa
open Go Go.RowKit

theorem flat_one {st : List Cl} : ∀ u ∈ flat st, u.oneCell' = true := by
  intro u hu
  simp only [flat, List.mem_flatMap, Cl.cells, List.mem_append, List.mem_singleton] at hu
  obtain ⟨c, _, h | h | h | h⟩ := hu
  · exact enc_one u h
  · exact enc_one u h
  · exact enc_one u h
  · rw [h]; rfl
/-- What Clone leaves. -/
def Cloned (T : TypeId) (w : World) (st : List Cl) (e : Ending) (w' : World) : Prop :=
  ∃ g cap, e = .returned (.slice (some ⟨g, 0, none⟩) st.length cap) ∧ st.length ≤ cap ∧ w.heap.size ≤ g ∧ (∃ rest, w'.heap[g]? = some (.cells (flat st ++ rest).toArray T (0, 0))) ∧ Below w.heap.size w w'
theorem clone_made {w : World} {p q : Nat} {st : List Cl} {cs : List Int} (h : DvP w p q st cs) (c : Nat) :
    ∃ g cap w', (Builtin.append_ #[86, 86] 86 #[.slice (some ⟨w.heap.size, 0, none⟩) 0 0, .slice (some ⟨q, 0, none⟩) st.length c]).run Try.prog (w.alloc (.cells #[] 107)) = .ok (.slice (some ⟨g, 0, none⟩) st.length cap) w' ∧
      Cloned 107 w st (.returned (.slice (some ⟨g, 0, none⟩) st.length cap)) w' := by
  obtain ⟨i, hi, hz, hs, hy⟩ : ∃ i, Try.prog.info? 107 = some i ∧ i.zero = some (.agg Cl.zero.cells.toArray) ∧ i.size = 193 ∧ i.bytes = 193 := by
    obtain ⟨i, h1, h2⟩ := Option.map_eq_some_iff.1 cell_info
    simp only [Prod.mk.injEq] at h2
    exact ⟨i, h1, h2.1, h2.2.1, h2.2.2⟩
  have hb1 : Below w.heap.size w (w.alloc (.cells #[] 107)) := (Below.refl _ _).alloc (Nat.le_refl _) _
  have hd := h.below hb1
  obtain ⟨r, er⟩ := hd.row
  have hn := h.len
  obtain ⟨v', w', h1, h2, h3, h4, _⟩ := run_append_own_at (P := Try.prog) (w := w.alloc (.cells #[] 107)) w.heap.size 86 86 107 i _ 193 193 Try.underlying86 hi hz hs hy
    (by rw [show (Value.agg Cl.zero.cells.toArray).cells = Cl.zero.cells.toArray from rfl, List.size_toArray, Cl.cells_len Cl.zero_ok]) (by omega) (.slice (some ⟨w.heap.size, 0, none⟩) 0 0) 0 [] (World.ownsRow_made w #[] 0 (Nat.le_refl _) (by decide) rfl)
    ⟨q, 0, none⟩ st.length c (flat st) (flat_len h.oks) (fun j u hu => by
      rw [add_plain, Nat.zero_add]
      have hj := (List.getElem?_eq_some_iff.1 hu).1
      simp [World.cell?, er, List.getElem?_append_left hj, hu]) flat_one (by unfold maxLen; omega) (by omega) (by simp)
  rw [Nat.zero_add, List.nil_append] at h2
  rcases h2.2 with ⟨e, _⟩ | ⟨g, cap, cur, e, hg, hh, hc, _, hcs, htk⟩
  · have := (h4.1 e).1
    cases this
  · subst e
    refine ⟨g, cap, w', h1, g, cap, rfl, hc, hg, ⟨cur.toList.drop (st.length * 193), ?_⟩, ?_⟩
    · rw [hh, ← htk, List.take_append_drop]
    · exact hb1.grown h3 (by simp) (fun k hk => by simp [Value.ownBlock] at hk; omega)
/-- What Copy leaves. -/
def Copied (w : World) (st : List Cl) (cs : List Int) (e : Ending) (w' : World) : Prop :=
  ∃ p q, e = .returned (.pointer (some ⟨p, 0, none⟩)) ∧ w.heap.size ≤ p ∧ w.heap.size ≤ q ∧ DvP w' p q st cs ∧ Below w.heap.size w w'
theorem zeros_set (cs : List Int) (k : Nat) (hk : k < 5) (h5 : cs.length = 5) : (cs.take k ++ List.replicate (5 - k) 0).set k (cs.getD k 0) = cs.take (k + 1) ++ List.replicate (5 - (k + 1)) 0 := by
  obtain ⟨a, b, c, d, e, rfl⟩ := five_of h5
  match k, hk with
  | 0, _ => rfl
  | 1, _ => rfl
  | 2, _ => rfl
  | 3, _ => rfl
  | 4, _ => rfl
def upTo (cs : List Int) (k : Nat) : List Int := cs.take k ++ List.replicate (5 - k) 0
theorem upTo_all {cs : List Int} (h5 : cs.length = 5) : upTo cs 5 = cs := by simp [upTo, List.take_of_length_le, h5]
end Go.Proofs.Ytkcjamjjaallhaa
