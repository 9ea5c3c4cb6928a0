/-
  Proved here: what the law NvmCuts asks, of lines alone; a row of rows that the call made.
  Conditions: none.
-/
import Derived.Test.YtkcjamjjaallhaaNvmK
namespace Go.Proofs.Ytkcjamjjaallhaa
open Go Go.RowKit

theorem slice_info' : ∃ i, Try.prog.info? 50 = some i ∧ i.zero = some (.slice none 0 0) ∧ i.size = 1 ∧ i.bytes = 24 := by
  have h : (Try.prog.info? 50).map (fun i => (i.zero, i.size, i.bytes)) = some (some (.slice none 0 0), 1, 24) := by kernel_rfl
  obtain ⟨i, h1, h2⟩ := Option.map_eq_some_iff.1 h
  simp only [Prod.mk.injEq] at h2
  exact ⟨i, h1, h2.1, h2.2.1, h2.2.2⟩
theorem idx_none (f : Cl → Bool) (st : List Cl) (h : ∀ c ∈ st, f c = false) (k : Nat) : idx f k st = [] := by
  induction st generalizing k with
  | nil => rfl
  | cons c st ih =>
    simp only [idx, h c (by simp), Bool.false_eq_true, if_false]
    exact ih (fun d hd => h d (by simp [hd])) (k + 1)
theorem cut_loose (st : List Cl) : looseL (st.map Cl.cut) = [] := idx_none _ _ (fun c hc => by obtain ⟨d, _, rfl⟩ := List.mem_map.1 hc; simp [Cl.cut, Cl.stop]) 0
theorem cut_way (st : List Cl) : wayL (st.map Cl.cut) = [] := idx_none _ _ (fun c hc => by obtain ⟨d, _, rfl⟩ := List.mem_map.1 hc; rfl) 0
theorem keepOne_at (st : List Cl) (x : Int) (k : Nat) (hk : k < st.length) : clAt (keepOne st x) (k : Int) = if x = (k : Int) then { clAt st (k : Int) with p := (clAt st (k : Int)).v } else clAt st (k : Int) := by
  cases h : has st x with
  | false =>
    rw [keepOne_out _ _ (has_false h), if_neg]
    rintro rfl
    rw [has_nat hk] at h
    cases h
  | true =>
    obtain ⟨i, rfl, hi⟩ := has_true h
    rw [keepOne_in _ _ (clAt_some hi), clAt_set _ _ _ _ hi]
    split
    · rename_i e
      subst e
      rw [if_pos rfl]
    · rw [if_neg (by omega)]
theorem keepAll_at (keep : List Int) (st : List Cl) (k : Nat) (hk : k < st.length) : clAt (keepAll st keep) (k : Int) = if keep.any (· == (k : Int)) then { clAt st (k : Int) with p := (clAt st (k : Int)).v } else clAt st (k : Int) := by
  induction keep generalizing st with
  | nil => rfl
  | cons x keep ih =>
    show clAt (keepAll (keepOne st x) keep) (k : Int) = _
    rw [ih (keepOne st x) (by rw [keepOne_len]; exact hk), keepOne_at st x k hk, List.any_cons]
    by_cases h : x = (k : Int)
    · simp [h]
    · have hx : (x == (k : Int)) = false := by simpa using h
      rw [hx, if_neg h, Bool.false_or]
/-- What NvmCuts wants of line k. -/
def wantL (s : St) (keep : List Int) (k : Nat) : List UInt8 := if keep.any (· == (k : Int)) then (clAt s.1 (k : Int)).v else (clAt s.1 (k : Int)).p
theorem cut_want (s : St) (keep : List Int) (k : Nat) (hk : k < s.1.length) : (clAt (s.cut keep).1 (k : Int)).v = wantL s keep k ∧ (clAt (s.cut keep).1 (k : Int)).p = wantL s keep k := by
  rw [St.cut, clAt_map _ _ _ (by rw [keepAll_len]; exact hk), keepAll_at _ _ _ hk, wantL]
  split <;> exact ⟨rfl, rfl⟩
theorem any_take (l : List Int) (n : Nat) (y : Int) (hn : n < l.length) : (l.take (n + 1)).any (· == y) = ((l.take n).any (· == y) || (l.getD n 0 == y)) := by
  rw [List.take_succ_eq_append_getElem hn, List.any_append]
  simp [List.getD, List.getElem?_eq_getElem hn]
def sl64 (g : Nat) : Value := .slice (some ⟨g, 0, none⟩) 64 64
theorem own_below {w w' : World} {base n : Nat} {v : Value} {xs : List Value} {e : TypeId} {p q : Nat} (h : w.ownsRow base e 1 v n xs) (hb : Below w.heap.size w w') (hp : p < base) (hq : q < base) : w'.ownsRow base e 1 v n xs := own_turns h (Turns.of_below hb p q) hp hq
/-- The rows that NvmCuts keeps. -/
def Wants (T : TypeId) (B : Nat) (w : World) (s : St) (keep : List Int) (G : List Nat) : Prop := ∀ j, j < G.length → Arr T w (G.getD j 0) (wantL s keep j) ∧ B ≤ G.getD j 0
theorem Wants.below {T : TypeId} {B : Nat} {w w' : World} {s : St} {keep : List Int} {G : List Nat} (h : Wants T B w s keep G) (hb : Below w.heap.size w w') : Wants T B w' s keep G := fun j hj => ⟨(h j hj).1.below hb (h j hj).1.lt, (h j hj).2⟩
theorem Wants.turns {T : TypeId} {B : Nat} {w w' : World} {s : St} {keep : List Int} {G : List Nat} {p q : Nat} (h : Wants T B w s keep G) (ht : Turns p q w w') (hp : p < B) (hq : q < B) : Wants T B w' s keep G := fun j hj => by
  have := (h j hj).2
  exact ⟨(h j hj).1.turns ht (by omega) (by omega), this⟩
theorem Wants.nil (T : TypeId) (B : Nat) (w : World) (s : St) (keep : List Int) : Wants T B w s keep [] := fun j hj => by simp at hj
theorem Wants.snoc {T : TypeId} {B : Nat} {w : World} {s : St} {keep : List Int} {G : List Nat} {g : Nat} (h : Wants T B w s keep G) (hg : Arr T w g (wantL s keep G.length)) (hB : B ≤ g) : Wants T B w s keep (G ++ [g]) := fun j hj => by
  rw [List.length_append, List.length_singleton] at hj
  rcases Nat.lt_or_ge j G.length with h1 | h1
  · have := h j h1
    simpa [List.getD, List.getElem?_append_left h1] using this
  · obtain rfl : j = G.length := by omega
    simpa [List.getD] using ⟨hg, hB⟩
theorem cell_of_form {w : World} {base n g cap : Nat} {e : TypeId} {xs : List Value} (h : w.ownsRow base e 1 (.slice (some ⟨g, 0, none⟩) n cap) n xs) (j : Nat) (u : Value) (hu : xs[j]? = some u) : w.cell? ⟨g, j, none⟩ = some u := by
  have := h.cells (g := g) rfl j u hu
  rw [add_plain, Nat.zero_add] at this
  exact this
theorem arr_apart {T e : TypeId} {w : World} {base g n : Nat} {v : Value} {x : List UInt8} {xs : List Value} (ha : Arr T w g x) (h : w.ownsRow base e 1 v n xs) (hne : T ≠ e) : v.ownBlock ≠ some g := by
  rcases h.2 with ⟨rfl, _⟩ | ⟨g', cap, cur, rfl, _, hh, _⟩
  · simp [Value.ownBlock]
  · intro he
    have : g' = g := by simpa [Value.ownBlock] using he
    subst this
    unfold Arr at ha
    rw [ha] at hh
    injection hh with hh
    injection hh with _ ht
    exact hne ht
theorem Wants.grown {T e : TypeId} {B base n : Nat} {w w' : World} {s : St} {keep : List Int} {G : List Nat} {v : Value} {xs : List Value} (h : Wants T B w s keep G) (ho : w.ownsRow base e 1 v n xs) (hne : T ≠ e) (hb : ∀ k, k < w.heap.size → v.ownBlock ≠ some k → w'.heap[k]? = w.heap[k]?) : Wants T B w' s keep G := fun j hj =>
  ⟨(hb _ (h j hj).1.lt (arr_apart (h j hj).1 ho hne)).trans (h j hj).1, (h j hj).2⟩

end Go.Proofs.Ytkcjamjjaallhaa
