/-
  Proved here: what slices.Insert leaves of a row of links, where the link goes to the end.
  Conditions: less than 2^20 links.
-/
import Derived.Test.YtfdifimakaiccaaCells13
namespace Go.Proofs.Ytfdifimakaiccaa
open Go Go.RowKit
set_option maxRecDepth 100000

/-- What an insertion leaves. -/
def InsTo (l : List Ln) (v : Value) (w : World) (e : Ending) (w' : World) : Prop :=
  ∃ u, e = .returned u ∧ w'.ownsRow 0 33 5 u l.length (encL l) ∧ w.grownBy w' v.ownBlock ∧ ∀ k, u.ownBlock = some k → v.ownBlock = some k ∨ w.heap.size ≤ k
theorem row_oneL {w : World} {vb : Nat} {x : Ln} (hx : w.heap[vb]? = some (.cells #[.string x.str, .int .u64 (x.id : Nat), .int .u64 (x.ver : Nat), .int .i64 x.line, .int .i64 x.cl] 33 (0, 0))) : RowL w (some ⟨vb, 0, none⟩) [x] :=
  ⟨by simp, fun _ => ⟨vb, 0, rfl, lt_of_heap hx, fun i a hi j u hu => by
    obtain rfl : i = 0 := by have := (List.getElem?_eq_some_iff.1 hi).1; simp at this; omega
    obtain rfl : x = a := by simpa using hi
    obtain ⟨c0, c1, c2, c3, c4⟩ := cellsL hx
    rw [show 0 + 0 * 5 + j = j by omega]
    match j, hu with
    | 0, hu => exact c0.trans hu
    | 1, hu => exact c1.trans hu
    | 2, hu => exact c2.trans hu
    | 3, hu => exact c3.trans hu
    | 4, hu => exact c4.trans hu
    | j + 5, hu => simp [Ln.cells] at hu⟩⟩
theorem insert_run {w : World} {v : Value} {l : List Ln} {x : Ln} {vb : Nat} (hown : w.ownsRow 0 33 5 v l.length (encL l)) (hl : l.length < 1048576) (hx : w.heap[vb]? = some (.cells #[.string x.str, .int .u64 (x.id : Nat), .int .u64 (x.ver : Nat), .int .i64 x.line, .int .i64 x.cl] 33 (0, 0))) :
    ∃ u w', (Builtin.append_ #[28, 28] 28 #[v, .slice (some ⟨vb, 0, none⟩) 1 1]).run Try.prog w = .ok u w' ∧ InsTo (l ++ [x]) v w (.returned u) w' := by
  obtain ⟨v', w', h1, h2, h3, h4⟩ := run_appL w 0 v l hown (some ⟨vb, 0, none⟩) 1 1 [x] rfl (row_oneL hx) (fun h => by cases h) (by omega) (Nat.zero_le _)
  refine ⟨v', w', h1, v', rfl, h2, h3, fun k hk => ?_⟩
  rcases h4 with h4 | h4
  · exact .inl (h4.symm.trans hk)
  · rw [h4] at hk
    cases hk
    exact .inr (Nat.le_refl _)
set_option maxHeartbeats 1600000 in
set_option maxRecDepth 100000 in
theorem insert_end_nil {w : World} {x : Ln} {vb : Nat} (hx : w.heap[vb]? = some (.cells #[.string x.str, .int .u64 (x.id : Nat), .int .u64 (x.ver : Nat), .int .i64 x.line, .int .i64 x.cl] 33 (0, 0))) :
    Calls Try.prog 24 #[.slice none 0 0, .int .i64 0, .slice (some ⟨vb, 0, none⟩) 1 1] w (InsTo [x] (.slice none 0 0) w) := by
  obtain ⟨u, w', e1, e2⟩ := insert_run (l := []) (World.ownsRow_nil w 0 33 5) (by simp) hx
  have E1 := Lib.hid e1
  obtain ⟨R, hR⟩ : ∃ R, InsTo [x] (.slice none 0 0) w = R := ⟨_, rfl⟩
  have HFIN : Hid (R (.returned u) w') := by rw [← hR]; exact e2
  rw [hR]
  clear e1 e2 hR hx
  go_enter Try.func24, Try.ntmps24
  go_wp2_with (at_builtin; refine wpList_app rfl (.tmp 23) (.tmp 24) 28 rfl rfl rfl E1.out ?_)
  exact HFIN.out
set_option maxHeartbeats 1600000 in
set_option maxRecDepth 100000 in
theorem insert_end {w : World} {g n cap : Nat} {l : List Ln} (hn : l.length = n) (hown : w.ownsRow 0 33 5 (.slice (some ⟨g, 0, none⟩) n cap) n (encL l)) (hl : n < 1048576) {x : Ln} {vb : Nat} (hx : w.heap[vb]? = some (.cells #[.string x.str, .int .u64 (x.id : Nat), .int .u64 (x.ver : Nat), .int .i64 x.line, .int .i64 x.cl] 33 (0, 0))) :
    Calls Try.prog 24 #[.slice (some ⟨g, 0, none⟩) n cap, .int .i64 (n : Int), .slice (some ⟨vb, 0, none⟩) 1 1] w (InsTo (l ++ [x]) (.slice (some ⟨g, 0, none⟩) n cap) w) := by
  obtain ⟨cur, -, hnc, hcm, -⟩ := own_block hown
  subst hn
  obtain ⟨u, w', e1, e2⟩ := insert_run hown hl hx
  have E1 := Lib.hid e1
  obtain ⟨R, hR⟩ : ∃ R, InsTo (l ++ [x]) (.slice (some ⟨g, 0, none⟩) l.length cap) w = R := ⟨_, rfl⟩
  have HFIN : Hid (R (.returned u) w') := by rw [← hR]; exact e2
  rw [hR]
  clear e1 e2 hR hx hown
  generalize l.length = n at *
  have hmx : cap ≤ 9223372036854775807 := hcm
  have heq : ((n : Int) == (n : Int)) = true := by simp
  have hnc2 : (n : Int) ≤ (cap : Int) := by omega
  by_cases hcn : cap = n
  · subst hcn
    go_enter Try.func24, Try.ntmps24
    go_wp2_with (at_builtin; refine wpList_app rfl (.tmp 23) (.tmp 24) 28 rfl rfl rfl E1.out ?_)
    exact HFIN.out
  · go_enter Try.func24, Try.ntmps24
    go_wp2_with (at_builtin; refine wpList_app rfl (.tmp 23) (.tmp 24) 28 rfl rfl rfl E1.out ?_)
    exact HFIN.out

end Go.Proofs.Ytfdifimakaiccaa
