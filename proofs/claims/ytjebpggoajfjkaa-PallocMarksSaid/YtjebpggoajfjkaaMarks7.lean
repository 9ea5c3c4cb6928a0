/-
  Proved here: blocks marked in turn make the pool that has just them; two pools and a row beside one another.
  Conditions: none.
-/
import Derived.Test.YtjebpggoajfjkaaPoolQ
namespace Go.Proofs.Ytjebpggoajfjkaa
open Go Go.RowKit

/-- Which blocks are marked when k more are to come: those whose turn was. -/
def Marked (L : List Tk) (m t k : Nat) (R : List Tk) : Prop := ∀ u, u ∈ R ↔ ∃ j, k ≤ j ∧ j < m ∧ L[(j + t) % m]? = some u
theorem marked_zero (L : List Tk) (m t : Nat) : Marked L m t m [] := fun u => ⟨fun h => (by cases h), fun ⟨j, h1, h2, _⟩ => by omega⟩
theorem mod_inj {m t i j : Nat} (hi : i < m) (hj : j < m) (e : (i + t) % m = (j + t) % m) : i = j := by
  have h1 := Nat.div_add_mod (i + t) m
  have h2 := Nat.div_add_mod (j + t) m
  rw [e] at h1
  have h3 : m * ((i + t) / m) + (j + t) = m * ((j + t) / m) + (i + t) := by omega
  rcases Nat.lt_trichotomy ((i + t) / m) ((j + t) / m) with h | h | h
  · have := Nat.mul_le_mul_left m (show (i + t) / m + 1 ≤ (j + t) / m from h)
    rw [Nat.mul_add, Nat.mul_one] at this
    omega
  · rw [h] at h3
    omega
  · have := Nat.mul_le_mul_left m (show (j + t) / m + 1 ≤ (i + t) / m from h)
    rw [Nat.mul_add, Nat.mul_one] at this
    omega
theorem rising_idx {L : List Tk} (h : Rising L) {i j : Nat} (hi : i < L.length) (hj : j < L.length) (e : L[i] = L[j]) : i = j := by
  rcases Nat.lt_trichotomy i j with h1 | h1 | h1
  · have := List.pairwise_iff_getElem.1 h i j hi hj h1
    rw [e] at this
    omega
  · exact h1
  · have := List.pairwise_iff_getElem.1 h j i hj hi h1
    rw [e] at this
    omega
theorem marked_sub {L R : List Tk} {m t k : Nat} (h : Marked L m t k R) : ∀ u ∈ R, u ∈ L := fun u hu => by
  obtain ⟨j, _, _, e⟩ := (h u).1 hu
  exact List.mem_of_getElem? e
theorem marked_not {L R : List Tk} (hr : Rising L) {m t k : Nat} (hk : k < m) (h : Marked L m t (k + 1) R) (hi : (k + t) % m < L.length) : L[(k + t) % m] ∉ R := fun hu => by
  obtain ⟨j, h1, h2, e⟩ := (h _).1 hu
  obtain ⟨h3, e2⟩ := List.getElem?_eq_some_iff.1 e
  have h4 := rising_idx hr h3 hi e2
  have := mod_inj h2 hk h4
  omega
theorem marked_step {L R : List Tk} {m t k : Nat} (hk : k < m) (h : Marked L m t (k + 1) R) (hi : (k + t) % m < L.length) : Marked L m t k (putL R (L[(k + t) % m]).1 (L[(k + t) % m]).2) := fun u => by
  rw [mem_putL, h u]
  constructor
  · rintro (rfl | ⟨j, h1, h2, e⟩)
    · exact ⟨k, Nat.le_refl _, hk, by rw [List.getElem?_eq_getElem hi]⟩
    · exact ⟨j, by omega, h2, e⟩
  · rintro ⟨j, h1, h2, e⟩
    rcases Nat.lt_or_ge k j with h3 | h3
    · exact .inr ⟨j, h3, h2, e⟩
    · obtain rfl : j = k := by omega
      rw [List.getElem?_eq_getElem hi] at e
      injection e with e
      exact .inl e.symm
theorem marked_all {n : Nat} {L R : List Tk} {m t : Nat} (hp : Pool7 n L) (hr : Rising R) (hm : L.length = m) (h : Marked L m t 0 R) : R = L := by
  refine rising_ext hr hp.rising fun u => ⟨marked_sub h u, fun hu => (h u).2 ?_⟩
  obtain ⟨i, hi, e⟩ := List.getElem_of_mem hu
  have hm0 : 0 < m := by omega
  -- the index whose turn is i
  have ht := Nat.mod_lt t hm0
  refine ⟨(i + (m - t % m)) % m, Nat.zero_le _, Nat.mod_lt _ hm0, ?_⟩
  have h1 : ((i + (m - t % m)) % m + t) % m = i := by
    rw [Nat.add_mod, Nat.mod_mod, ← Nat.add_mod, Nat.add_mod _ t, ← Nat.add_mod]
    have h2 : i + (m - t % m) + t = i + m + m * (t / m) := by
      have := Nat.div_add_mod t m
      omega
    rw [h2, Nat.add_mul_mod_self_left, Nat.add_mod_right, Nat.mod_eq_of_lt (by omega)]
  rw [h1, List.getElem?_eq_getElem hi, e]

theorem mark_new {w : World} {p q n : Nat} {L R : List Tk} {t : Tk} (h : PlP w p q n R) (hl : Pool7 n L) (hs : ∀ u ∈ R, u ∈ L) (ht : t ∈ L) (hn : t ∉ R) : Calls Try.prog 19 #[.pointer (some ⟨p, 0, none⟩), .int .i64 t.1, .int .i64 t.2] w fun e w' => e = .returned (.int .i64 0) ∧ PlP w' p q n (putL R t.1 t.2) ∧ Turns p q w w' := by
  have h1 := mark_any h t.1 t.2
  unfold MarkTo markL at h1
  rw [mark_sub hl h.pool.rising hs ht hn, if_pos rfl] at h1
  exact h1
theorem mark_twice {w : World} {p q n : Nat} {R : List Tk} {x c : Int} (h : PlP w p q n (putL R x c)) : Calls Try.prog 19 #[.pointer (some ⟨p, 0, none⟩), .int .i64 x, .int .i64 c] w fun e w' => e = .returned (.int .i64 7) ∧ PlP w' p q n (putL R x c) ∧ Turns p q w w' := by
  have h1 := mark_any h x c
  unfold MarkTo markL at h1
  rw [mark_again (t := (x, c)) h.pool (mem_putL.2 (.inl rfl)), if_neg (by omega)] at h1
  exact h1
/-- Two pools and a row, behind a world w0. -/
structure Mk (w0 : World) (g : Nat) (w : World) (p q p2 q2 n : Nat) (L R : List Tk) (A : Option Addr) : Prop where
  pa : PlP w p q n L
  pb : PlP w p2 q2 n R
  row : RowT w A L
  off : 0 < L.length → ∀ x, A = some x → x.block ≠ p2 ∧ x.block ≠ q2
  bel : Below g w0 w
  sz : w0.heap.size = g
  g1 : g ≤ p2
  g2 : g ≤ q2
  ap : p ≠ p2 ∧ p ≠ q2 ∧ q ≠ p2 ∧ q ≠ q2
variable {w0 w w' : World} {g p q p2 q2 n : Nat} {L R K : List Tk} {A : Option Addr}
theorem Mk.gw (h : Mk w0 g w p q p2 q2 n L R A) : g ≤ w.heap.size := by have := h.bel.size; have := h.sz; omega
theorem Mk.step (h : Mk w0 g w p q p2 q2 n L R A) (hb : PlP w' p2 q2 n K) (ht : Turns p2 q2 w w') : Mk w0 g w' p q p2 q2 n L K A := by
  refine ⟨h.pa.turns ht h.ap.1 h.ap.2.1 h.ap.2.2.1 h.ap.2.2.2, hb, ⟨h.row.1, fun hl => ?_⟩, h.off, h.bel.trans (ht.below h.g1 h.g2 h.gw), h.sz, h.g1, h.g2, h.ap⟩
  obtain ⟨b, off, e, hlt, hc⟩ := h.row.2 hl
  obtain ⟨n1, n2⟩ := h.off hl _ e
  have hbl := ht.block b n1 n2 hlt
  exact ⟨b, off, e, Nat.lt_of_lt_of_le hlt ht.size, fun i t hi => ⟨(World.cell?_of_block (w := w) (a := ⟨b, off + i * 2, none⟩) hbl).trans (hc i t hi).1, (World.cell?_of_block (w := w) (a := ⟨b, off + i * 2 + 1, none⟩) hbl).trans (hc i t hi).2⟩⟩
theorem Mk.b_step (h : Mk w0 g w p q p2 q2 n L R A) (hb : Below w.heap.size w w') : Mk w0 g w' p q p2 q2 n L R A := h.step (h.pb.below hb) (Turns.of_below hb p2 q2)
theorem mk_new {w0 w3 w4 : World} {g p q p2 q2 n : Nat} {L : List Tk} {A : Option Addr} (hz : w0.heap.size = g) (hb3 : Below g w0 w3) (hpa : PlP w3 p q n L) (hr : RowT w3 A L) (h1 : w3.heap.size ≤ p2) (h2 : w3.heap.size ≤ q2) (hpb : PlP w4 p2 q2 n []) (hb4 : Below w3.heap.size w3 w4) : Mk w0 g w4 p q p2 q2 n L [] A := by
  have hg : g ≤ w3.heap.size := by have := hb3.size; omega
  have h5 := hpa.lt_p
  have h6 := hpa.lt_q
  refine ⟨hpa.below hb4, hpb, hr.below hb4, fun hl x hx => ?_, hb3.trans (hb4.mono hg), hz, by omega, by omega, by omega, by omega, by omega, by omega⟩
  obtain ⟨b, off, e, hlt, _⟩ := hr.2 hl
  rw [e] at hx
  injection hx with hx
  subst hx
  exact ⟨by show b ≠ p2; omega, by show b ≠ q2; omega⟩
/-- A block in a variable of its own. -/
structure Bt (w : World) (p q b : Nat) (x y : Int) : Prop where
  np : b ≠ p
  nq : b ≠ q
  cells : w.heap[b]? = some (.cells #[.int .i64 x, .int .i64 y] 52 (0, 0))
theorem Bt.c0 {b : Nat} {x y : Int} (h : Bt w p q b x y) : w.cell? ⟨b, 0, none⟩ = some (.int .i64 x) := by simp [World.cell?, h.cells]
theorem Bt.c1 {b : Nat} {x y : Int} (h : Bt w p q b x y) : w.cell? ⟨b, 1, none⟩ = some (.int .i64 y) := by simp [World.cell?, h.cells]
theorem Bt.step {b : Nat} {x y : Int} (h : Bt w p q b x y) (ht : Turns p q w w') : Bt w' p q b x y := ⟨h.np, h.nq, (ht.block b h.np h.nq (lt_of_heap h.cells)).trans h.cells⟩
theorem bt_new {x y : Int} (h : PlP w p q n L) (hc : w'.heap[w.heap.size]? = some (.cells #[.int .i64 x, .int .i64 y] 52 (0, 0))) : Bt w' p q w.heap.size x y := by
  have h1 := h.lt_p
  have h2 := h.lt_q
  exact ⟨by omega, by omega, hc⟩
theorem zero_taken : (Try.prog.info? 52).bind (·.zero) = some (.agg #[.int .i64 0, .int .i64 0]) := by kernel_rfl
theorem size_taken : (Try.prog.info? 52).map (·.size) = some 2 := by kernel_rfl

end Go.Proofs.Ytjebpggoajfjkaa
