/-
  Proved here: what slices.Insert leaves of a row of links; an order whose levels are being moved.
  Conditions: less than 2^20 links.
-/
import Derived.Test.YtfdifimakaiccaaInsGrow13
import Derived.Test.YtfdifimakaiccaaDelete13
import Derived.Deep.RegionHeld3
namespace Go.Proofs.Ytfdifimakaiccaa
open Go Go.RowKit
set_option maxRecDepth 100000

theorem insert_any {w : World} {v : Value} {l : List Ln} (hown : w.ownsRow 0 33 5 v l.length (encL l)) (hl : l.length < 1048576) {x : Ln} {vb : Nat} (hx : w.heap[vb]? = some (.cells #[.string x.str, .int .u64 (x.id : Nat), .int .u64 (x.ver : Nat), .int .i64 x.line, .int .i64 x.cl] 33 (0, 0)))
    (hne : v.ownBlock ≠ some vb) (i : Nat) (hi : i ≤ l.length) :
    Calls Try.prog 24 #[v, .int .i64 (i : Int), .slice (some ⟨vb, 0, none⟩) 1 1] w (InsTo (l.take i ++ x :: l.drop i) v w) := by
  rcases hown.2 with ⟨e, e0⟩ | ⟨g, cap, cur, e, _, _, hnc, _⟩
  · have h0 : l = [] := List.eq_nil_of_length_eq_zero e0
    subst h0
    obtain rfl : i = 0 := by simpa using hi
    subst e
    exact insert_end_nil hx
  · subst e
    have hne2 : vb ≠ g := fun e => hne (by rw [e]; rfl)
    by_cases hin : i = l.length
    · subst hin
      rw [List.take_length, List.drop_length]
      exact insert_end rfl hown hl hx
    · by_cases hr : l.length + 1 ≤ cap
      · exact insert_room rfl hown hl hx hne2 i (by omega) hr
      · obtain rfl : cap = l.length := by omega
        exact insert_grow rfl hown hl hx i (by omega)
/-! ### An order on its way -/
structure Mv (w0 : World) (p : Nat) (v0 : Nat → Value) (lo : Nat) (w : World) (v : Nat → Value) (M : Nat → List Ln) : Prop where
  ro : Ro w p v M
  stay : Stay (odOwn p v0) w0 w
  own : ∀ k, odOwn p v k → odOwn p v0 k ∨ lo ≤ k
  old : ∀ k, odOwn p v0 k → k < w0.heap.size
  le : w0.heap.size ≤ lo
  lt : lo ≤ w.heap.size
section
variable {w0 w w' w1 : World} {p lo : Nat} {v0 v : Nat → Value} {M M' : Nat → List Ln}
theorem Mv.below (h : Mv w0 p v0 lo w v M) (hb : Below w.heap.size w w') : Mv w0 p v0 lo w' v M :=
  ⟨h.ro.below hb, h.stay.new (Stay.of_below (S := fun _ => False) hb) (fun _ => False.elim), h.own, h.old, h.le, Nat.le_trans h.lt hb.size⟩
theorem Mv.drewN (h : Mv w0 p v0 lo w v M) (k : Nat) : Mv w0 p v0 lo (w.drewN k) v M := h.below (below_drewN (Below.refl _ _) k)
/-- What is made behind the beginning is none of the order's own, unless the order made it. -/
theorem Mv.not_own (h : Mv w0 p v0 lo w v M) {k : Nat} (h1 : w0.heap.size ≤ k) (h2 : k < lo) : ¬ odOwn p v k := fun e => by
  rcases h.own k e with e | e
  · have := h.old k e; omega
  · omega
theorem Mv.moved (h : Mv w0 p v0 lo w v M) {i : Nat} (hi : i < 4) {u : Value} {N : List Ln} (ho : w1.ownsRow 0 33 5 u N.length (encL N)) (hg : w.grownBy w1 (v i).ownBlock) (hu : ∀ k, u.ownBlock = some k → (v i).ownBlock = some k ∨ w.heap.size ≤ k) :
    Mv w0 p v0 lo (w1.setCell ⟨p, i, none⟩ u) (upd v i u) (upd M i N) ∧ ∀ k, ¬ odOwn p v k → k < w.heap.size → (w1.setCell ⟨p, i, none⟩ u).heap[k]? = w.heap[k]? := by
  obtain ⟨h1, h2, h3⟩ := h.ro.moved hi ho hg hu
  refine ⟨⟨h1, h.stay.new h2 fun k hk => (h.own k hk).imp id (Nat.le_trans h.le), fun k hk => ?_, h.old, h.le, Nat.le_trans h.lt h2.size⟩, h2.block⟩
  rcases h3 k hk with e | e
  · exact h.own k e
  · exact .inr (Nat.le_trans h.lt e)
theorem Mv.wrote (h : Mv w0 p v0 lo w v M) {i : Nat} (hi : i < 4) {N : List Ln} (ho : w1.ownsRow 0 33 5 (v i) N.length (encL N)) (hg : w.grownBy w1 (v i).ownBlock) :
    Mv w0 p v0 lo w1 v (upd M i N) ∧ ∀ k, ¬ odOwn p v k → k < w.heap.size → w1.heap[k]? = w.heap[k]? := by
  obtain ⟨h1, h2⟩ := h.ro.wrote hi ho hg
  exact ⟨⟨h1, h.stay.new h2 fun k hk => (h.own k hk).imp id (Nat.le_trans h.le), h.own, h.old, h.le, Nat.le_trans h.lt h2.size⟩, h2.block⟩
theorem Mv.congr (h : Mv w0 p v0 lo w v M) (he : ∀ i, i < 4 → M i = M' i) : Mv w0 p v0 lo w v M' := ⟨h.ro.congr he, h.stay, h.own, h.old, h.le, h.lt⟩
theorem Mv.to (h : Mv w0 p v0 lo w v M) {L : List Ln} (he : ∀ i, i < 4 → M i = lev i L) (hr : RisesK L) (hk : ∀ x ∈ L, x.k.length ≤ 1073741824) : OdTo w0 p v0 L w :=
  ⟨v, ⟨hr, hk, h.ro.congr he⟩, h.stay, fun k hk => (h.own k hk).imp id (Nat.le_trans h.le)⟩
end
theorem Od.mv {w w1 : World} {p : Nat} {v : Nat → Value} {L : List Ln} (h : Od w p v L) (hb : Below w.heap.size w w1) : Mv w p v w1.heap.size w1 v (fun i => lev i L) :=
  ⟨h.ro.below hb, Stay.of_below hb, fun _ hk => .inl hk, fun _ hk => h.lt hk, hb.size, Nat.le_refl _⟩
/-- The levels behind i rounds of a Set. -/
def setM (L : List Ln) (x : Ln) (i : Nat) (j : Nat) : List Ln := if j < i then lev j (setT L x) else lev j L
theorem setM_at (L : List Ln) (x : Ln) (i : Nat) : setM L x i i = lev i L := if_neg (Nat.lt_irrefl i)
theorem setM_next {L : List Ln} (h : RisesK L) (x : Ln) {i : Nat} (hi : i < hgt x.k) {N : List Ln} (hN : N = setT (lev i L) x) : ∀ j, upd (setM L x i) i N j = setM L x (i + 1) j := fun j => by
  by_cases e : j = i
  · subst e
    rw [upd_same, hN]
    unfold setM
    rw [if_pos (by omega), lev_set h x hi]
  · rw [upd_ne _ _ e]
    unfold setM
    by_cases h1 : j < i
    · rw [if_pos h1, if_pos (by omega)]
    · rw [if_neg h1, if_neg (by omega)]
theorem setM_end {L : List Ln} (h : RisesK L) (x : Ln) : ∀ j, setM L x (hgt x.k) j = lev j (setT L x) := fun j => by
  unfold setM
  split
  · rfl
  · rw [lev_set_no h x (by omega)]
def dropM (L : List Ln) (k : Ky) (i : Nat) (j : Nat) : List Ln := if j < i then lev j (dropT L k) else lev j L
theorem dropM_at (L : List Ln) (k : Ky) (i : Nat) : dropM L k i i = lev i L := if_neg (Nat.lt_irrefl i)
theorem dropM_next {L : List Ln} (h : RisesK L) (k : Ky) {i : Nat} (hi : i < hgt k) {N : List Ln} (hN : N = dropT (lev i L) k) : ∀ j, upd (dropM L k i) i N j = dropM L k (i + 1) j := fun j => by
  by_cases e : j = i
  · subst e
    rw [upd_same, hN]
    unfold dropM
    rw [if_pos (by omega), lev_drop h k hi]
  · rw [upd_ne _ _ e]
    unfold dropM
    by_cases h1 : j < i
    · rw [if_pos h1, if_pos (by omega)]
    · rw [if_neg h1, if_neg (by omega)]
theorem dropM_stays {L : List Ln} (k : Ky) (i : Nat) (hk : hasT L k = false) : ∀ j, dropM L k i j = dropM L k (i + 1) j := fun j => by
  have hn : dropT L k = L := dropT_none (hasT_no hk)
  unfold dropM
  rw [hn]
  split <;> split <;> rfl
theorem dropM_end {L : List Ln} (h : RisesK L) (k : Ky) : ∀ j, dropM L k (hgt k) j = lev j (dropT L k) := fun j => by
  unfold dropM
  split
  · rfl
  · rw [lev_drop_no h k (by omega)]
/-- What the loops of Set and Drop have told so far. -/
def toldT (L : List Ln) (k : Ky) (i : Nat) : Bool := decide (0 < i) && hasT L k
theorem toldT_next {L : List Ln} (k : Ky) (i : Nat) : toldT L k (i + 1) = hasT L k := by simp [toldT]
theorem toldT_end {L : List Ln} (k : Ky) : toldT L k (hgt k) = hasT L k := by
  have := (hgt_bounds k).1
  simp [toldT, show 0 < hgt k by omega]
theorem keys_set {L : List Ln} (h : ∀ x ∈ L, x.k.length ≤ 1073741824) {x : Ln} (hx : x.k.length ≤ 1073741824) : ∀ y ∈ setT L x, y.k.length ≤ 1073741824 := fun y hy => by
  rcases mem_setT.1 hy with rfl | ⟨h1, _⟩
  · exact hx
  · exact h y h1
theorem keys_dropT {L : List Ln} (h : ∀ x ∈ L, x.k.length ≤ 1073741824) (k : Ky) : ∀ x ∈ dropT L k, x.k.length ≤ 1073741824 := fun x hx => h x (mem_dropT.1 hx).1

end Go.Proofs.Ytfdifimakaiccaa
