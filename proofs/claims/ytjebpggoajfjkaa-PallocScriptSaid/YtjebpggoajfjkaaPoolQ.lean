/-
  Proved here: the calls of a pool that answer with rows, told as rows that lie beside it; what the laws ask of lists of blocks.
  Conditions: none.
-/
import Derived.Test.YtjebpggoajfjkaaPoolP
namespace Go.Proofs.Ytjebpggoajfjkaa
open Go Go.RowKit

/-- A row of blocks beside the pool at p, q. -/
structure HeT (w : World) (p q : Nat) (A : Option Addr) (l : List Tk) : Prop where
  row : RowT w A l
  off : ∀ x, A = some x → x.block ≠ p ∧ x.block ≠ q
structure HeI (w : World) (p q : Nat) (A : Option Addr) (l : List Int) : Prop where
  row : RowI w A l
  off : ∀ x, A = some x → x.block ≠ p ∧ x.block ≠ q
theorem HeT.turns {w w' : World} {p q : Nat} {A : Option Addr} {l : List Tk} (h : HeT w p q A l) (ht : Turns p q w w') : HeT w' p q A l :=
  ⟨⟨h.row.1, fun hl => by
    obtain ⟨b, off, e, hlt, hc⟩ := h.row.2 hl
    obtain ⟨n1, n2⟩ := h.off _ e
    have hbl := ht.block b n1 n2 hlt
    exact ⟨b, off, e, Nat.lt_of_lt_of_le hlt ht.size, fun i t hi => ⟨(World.cell?_of_block (w := w) (a := ⟨b, off + i * 2, none⟩) hbl).trans (hc i t hi).1, (World.cell?_of_block (w := w) (a := ⟨b, off + i * 2 + 1, none⟩) hbl).trans (hc i t hi).2⟩⟩⟩, h.off⟩
theorem HeI.turns {w w' : World} {p q : Nat} {A : Option Addr} {l : List Int} (h : HeI w p q A l) (ht : Turns p q w w') : HeI w' p q A l :=
  ⟨⟨h.row.1, fun hl => by
    obtain ⟨b, off, e, hlt, hc⟩ := h.row.2 hl
    obtain ⟨n1, n2⟩ := h.off _ e
    have hbl := ht.block b n1 n2 hlt
    exact ⟨b, off, e, Nat.lt_of_lt_of_le hlt ht.size, fun k hk => (World.cell?_of_block (w := w) (a := ⟨b, off + k, none⟩) hbl).trans (hc k hk)⟩⟩, h.off⟩
theorem HeT.of_own {w : World} {base p q : Nat} {v : Value} {l : List Tk} (h : w.ownsRow base 52 2 v l.length (encT l)) (hl : l.length ≤ 67108864) (hp : p < base) (hq : q < base) : ∃ A cap, v = .slice A l.length cap ∧ HeT w p q A l := by
  obtain ⟨_, A, cap, e, hr, _, ho⟩ := rowT_of_own h hl
  exact ⟨A, cap, e, hr, fun x hx => by have := ho x hx; omega⟩
theorem HeI.of_own {w : World} {base p q : Nat} {v : Value} {l : List Int} (h : w.ownsRow base 3 1 v l.length (encI l)) (hl : l.length ≤ 134217728) (hp : p < base) (hq : q < base) : ∃ A cap, v = .slice A l.length cap ∧ HeI w p q A l := by
  obtain ⟨A, cap, e, hr, _, ho⟩ := rowI_of_own h hl
  exact ⟨A, cap, e, hr, fun x hx => by have := ho x hx; omega⟩
theorem HeT.at_ {w : World} {p q : Nat} {A : Option Addr} {l : List Tk} (h : HeT w p q A l) {i : Nat} (hi : i < l.length) : ∃ b off, A = some ⟨b, off, none⟩ ∧ w.cell? ⟨b, off + i * 2, none⟩ = some (.int .i64 l[i].1) ∧ w.cell? ⟨b, off + i * 2 + 1, none⟩ = some (.int .i64 l[i].2) := by
  obtain ⟨b, off, e, _, hc⟩ := h.row.2 (by omega)
  exact ⟨b, off, e, (hc i _ (List.getElem?_eq_getElem hi)).1, (hc i _ (List.getElem?_eq_getElem hi)).2⟩
theorem HeI.at_ {w : World} {p q : Nat} {A : Option Addr} {l : List Int} (h : HeI w p q A l) {i : Nat} (hi : i < l.length) : ∃ b off, A = some ⟨b, off, none⟩ ∧ w.cell? ⟨b, off + i, none⟩ = some (.int .i64 l[i]) := by
  obtain ⟨b, off, e, _, hc⟩ := h.row.2 (by omega)
  exact ⟨b, off, e, by rw [hc i hi, getD_in _ _ hi]⟩
/-- The calls of a pool that answer with rows, told as rows beside it. -/
theorem taken_he {w : World} {p q n : Nat} {L : List Tk} (h : PlP w p q n L) : Calls Try.prog 25 #[.pointer (some ⟨p, 0, none⟩)] w fun e w' => ∃ A cap, e = .returned (.slice A L.length cap) ∧ HeT w' p q A L ∧ PlP w' p q n L ∧ Turns p q w w' :=
  (taken_any h).mono fun _ w' ⟨v, e, ho, hb⟩ => by
    obtain ⟨A, cap, rfl, hh⟩ := HeT.of_own (p := p) (q := q) ho (by have := pool_len h.pool; have := h.most; omega) h.lt_p h.lt_q
    exact ⟨A, cap, e, hh, h.below hb, Turns.of_below hb p q⟩
theorem slabs_he {w : World} {p q n : Nat} {L : List Tk} (h : PlP w p q n L) : Calls Try.prog 26 #[.pointer (some ⟨p, 0, none⟩)] w fun e w' => ∃ A cap, e = .returned (.slice A n cap) ∧ HeI w' p q A (slabsL n L) ∧ PlP w' p q n L ∧ Turns p q w w' :=
  (slabs_all h).mono fun _ w' ⟨v, e, ho, hb⟩ => by
    obtain ⟨A, cap, rfl, hh⟩ := HeI.of_own (p := p) (q := q) ho (by rw [slabsL_len]; have := h.most; omega) h.lt_p h.lt_q
    rw [slabsL_len] at e
    exact ⟨A, cap, e, hh, h.below hb, Turns.of_below hb p q⟩
theorem free_he {w : World} {p q n : Nat} {L : List Tk} (h : PlP w p q n L) (c : Int) : Calls Try.prog 31 #[.pointer (some ⟨p, 0, none⟩), .int .i64 c] w fun e w' => ∃ A cap, e = .returned (.slice A (freeL n L c).length cap) ∧ HeI w' p q A (freeL n L c) ∧ PlP w' p q n L ∧ Turns p q w w' :=
  (free_any h c).mono fun _ w' ⟨v, e, ho, hb⟩ => by
    obtain ⟨A, cap, rfl, hh⟩ := HeI.of_own (p := p) (q := q) ho (by have := freeL_le n L c; have := h.most; omega) h.lt_p h.lt_q
    exact ⟨A, cap, e, hh, h.below hb, Turns.of_below hb p q⟩
theorem samet_he {w : World} {p q n m c d : Nat} {A B : Option Addr} {l L : List Tk} (h : PlP w p q n L) (hl : l.length = m) (h1 : HeT w p q A l) (h2 : HeT w p q B l) : Calls Try.prog 32 #[.slice A m c, .slice B m d] w fun e w' => e = .returned (.bool true) ∧ PlP w' p q n L ∧ Turns p q w w' :=
  (samet_any w A B m c d l hl h1.row h2.row).mono fun _ _ ⟨e, k, hk⟩ => ⟨e, hk ▸ h.drewN k, hk ▸ (Turns.refl p q w).drewN k⟩
theorem samei_he {w : World} {p q n m c d : Nat} {A B : Option Addr} {l : List Int} {L : List Tk} (h : PlP w p q n L) (hl : l.length = m) (h1 : HeI w p q A l) (h2 : HeI w p q B l) : Calls Try.prog 33 #[.slice A m c, .slice B m d] w fun e w' => e = .returned (.bool true) ∧ PlP w' p q n L ∧ Turns p q w w' :=
  (samei_any w A B m c d l hl h1.row h2.row).mono fun _ _ ⟨e, k, hk⟩ => ⟨e, hk ▸ h.drewN k, hk ▸ (Turns.refl p q w).drewN k⟩
/-- The world's last word: awake, then home. -/
theorem awake_he {w w1 w2 : World} {p q g : Nat} (hg : w.heap.size = g) (hp : g ≤ p) (hq : g ≤ q) (hb : Below g w w1) (ht : Turns p q w1 w2) : Calls Try.prog 11 #[] w2 fun e w' => e = .returned (.bool true) ∧ Below g w w' :=
  (awake_any w2).mono fun _ _ ⟨e, h⟩ => ⟨e, by
    have h1 := hb.trans (ht.below hp hq (by have := hb.size; omega))
    exact h1.trans (h.mono (by have := h1.size; omega))⟩
theorem HeI.gt {w : World} {p q : Nat} {A : Option Addr} {l : List Int} (h : HeI w p q A l) {i : Nat} (hi : i < l.length) : ∃ b off, A = some ⟨b, off, none⟩ ∧ w.cell? ⟨b, off + i, none⟩ = some (.int .i64 (l.getD i 0)) := by
  obtain ⟨b, off, e, _, hc⟩ := h.row.2 (by omega)
  exact ⟨b, off, e, hc i hi⟩
theorem pw_getD {l : List Int} (h : l.Pairwise (· < ·)) {i j : Nat} (hij : i < j) (hj : j < l.length) : l.getD i 0 < l.getD j 0 := by
  rw [getD_in _ _ (by omega), getD_in _ _ hj]
  exact List.pairwise_iff_getElem.1 h i j (by omega) hj hij
theorem next_head {n : Nat} {L : List Tk} {c : Int} (h : 0 < (freeL n L c).length) : nextL n L c = (freeL n L c).getD 0 0 := by
  cases e : freeL n L c with
  | nil => rw [e] at h; simp at h
  | cons y r => rw [next_free e]; rfl
/-- Where no block is free: the first whole slab. -/
theorem next_first {n : Nat} {L : List Tk} {c : Int} (hn : n ≤ 32) (hx : 0 ≤ nextL n L c) (e : freeL n L c = []) : ∃ k : Nat, k < n ∧ nextL n L c = 2 + 8 * (k : Int) ∧ clsAt L k = -1 ∧ ∀ j : Nat, j < k → clsAt L j ≠ -1 := by
  cases e2 : wholeL n L with
  | none => rw [next_none e e2] at hx; omega
  | some k =>
    obtain ⟨h1, h2, h3⟩ := whole_some e2
    exact ⟨k, h1, next_whole e e2 hn, h2, h3⟩
/-- Giving back the first of the rest. -/
theorem give_drop {w : World} {p q n : Nat} {L : List Tk} {i : Nat} (hi : i < L.length) (h : PlP w p q n (L.drop i)) : Calls Try.prog 17 #[.pointer (some ⟨p, 0, none⟩), .int .i64 (L[i].1)] w fun e w2 => e = .returned (.int .i64 0) ∧ PlP w2 p q n (L.drop (i + 1)) ∧ Turns p q w w2 := by
  have h1 := give_any h (L[i].1)
  have hr := h.pool.rising
  have hd := List.drop_eq_getElem_cons hi
  have h2 : giveL (L.drop i) (L[i].1) = L.drop (i + 1) := by
    rw [hd] at hr ⊢
    exact give_head hr
  have h3 : giveE (L.drop i) (L[i].1) = 0 := by
    unfold giveE
    rw [(ofL_some hr).2 (show (L[i].1, L[i].2) ∈ L.drop i by rw [hd]; exact List.mem_cons_self)]
    rfl
  rw [h2, h3] at h1
  exact h1
theorem take_empty {w : World} {p q n : Nat} (h : PlP w p q n []) : Calls Try.prog 15 #[.pointer (some ⟨p, 0, none⟩), .int .i64 3] w fun e w2 => e = .returned (.tuple #[.int .i64 2, .int .i64 0]) ∧ PlP w2 p q n (takeL n [] 3) ∧ Turns p q w w2 := by
  have h1 := take_any h 3
  have h2 : nextL n [] 3 = 2 := next_nil h.one h.most (by omega)
  have h3 : takeV n [] 3 = 2 := by unfold takeV; rw [h2]; rfl
  have h4 : takeE n [] 3 = 0 := by unfold takeE; rw [h2]; rfl
  rw [h3, h4] at h1
  exact h1
/-- Is there room, as far as slab i? -/
def roomTo (L : List Tk) (f i : Nat) : Bool := decide (0 < f) || (List.range i).any fun k : Nat => clsAt L k == -1
theorem roomTo_succ (L : List Tk) (f i : Nat) : (roomTo L f i || (clsAt L i == -1)) = roomTo L f (i + 1) := by
  unfold roomTo
  rw [List.range_succ, List.any_append, Bool.or_assoc]
  simp
theorem room_all {n : Nat} {L : List Tk} {c : Int} (hn : n ≤ 32) : roomTo L (freeL n L c).length n = decide (0 ≤ nextL n L c) := by
  rw [Bool.eq_iff_iff, decide_eq_true_iff, next_room hn]
  unfold roomTo
  rw [Bool.or_eq_true, decide_eq_true_iff, List.any_eq_true]
  constructor
  · rintro (h | ⟨k, hk, h⟩)
    · exact .inl (List.ne_nil_of_length_pos h)
    · exact .inr ⟨k, List.mem_range.1 hk, by simpa using h⟩
  · rintro (h | ⟨k, hk, h⟩)
    · exact .inl (List.length_pos_iff.2 h)
    · exact .inr ⟨k, List.mem_range.2 hk, by simpa using h⟩
theorem apart_first {n : Nat} {L : List Tk} (h : Pool7 n L) (hl : 0 < L.length) : 0 ≤ (L[0]).1 := by
  have hm := List.getElem_mem hl
  have := (mem_starts (home_starts (h.home _ hm))).2.2.2.2.1
  have := (home_cls (h.home _ hm)).1
  omega
theorem apart_at {n : Nat} {L : List Tk} (h : Pool7 n L) {i : Nat} (hl : i < L.length) : ∃ j : Nat, j < n ∧ slabOfN (L[i]).1 = j ∧ clsAt L j = (L[i]).2 ∧ homeN (L[i]).1 (L[i]).2 = true ∧ 0 ≤ (L[i]).1 ∧ (L[i]).1 < 258 ∧ spanN (L[i]).2 ≤ 8 := by
  have hm := List.getElem_mem hl
  have h1 := h.slab _ hm
  have h2 := home_cls (h.home _ hm)
  have h3 := slabOfN_in (x := (L[i]).1) (by omega)
  have h4 := clsAt_mem h hm
  refine ⟨(slabOfN (L[i]).1).toNat, by omega, by omega, ?_, h.home _ hm, by omega, by omega, ?_⟩
  · rw [Int.toNat_of_nonneg h2.1]
    exact h4
  · have := spanN_cases (L[i]).2
    omega
theorem apart_next {n : Nat} {L : List Tk} (h : Pool7 n L) {i : Nat} (hl : i < L.length) (hl2 : i + 1 < L.length) : (L[i]).1 + spanN (L[i]).2 ≤ (L[i + 1]).1 :=
  pool_apart h (List.getElem_mem hl) (List.getElem_mem hl2) (List.pairwise_iff_getElem.1 h.rising i (i + 1) hl hl2 (by omega))

end Go.Proofs.Ytjebpggoajfjkaa
