/-
  Proved here, joined: RefC15, Ef15, Do15, RDo15, RRep15
  Conditions: as each part says.
-/
import Derived.Test.YtpmgnhijiodbaaaRfX15
import Derived.Test.YtpmgnhijiodbaaaGot15
import Derived.Deep.CutRange
import Derived.Test.YtpmgnhijiodbaaaCallIn15

/-
  Proved here: the chapter's own Apply of any call; a store written over; what regions with calls leave.
  Conditions: rows of at most 300,000.
-/
namespace Go.Proofs.Ytpmgnhijiodbaaa
open Go Go.RowKit
set_option maxRecDepth 100000

/-- What 't, b := Apply(..)' of the chapter's own leaves behind w, in any order. -/
def GotR (w : World) (A : Option Addr) (n : Nat) (B : Option Addr) (m : Nat) (L' : List Kv) (Q' : List ByteArray) (f : Bool) (s9 s10 : Value) (wx : World) : Prop :=
  ∃ gS gA A' n' c' B' m' d' cd v A2 n2 c2 B2 m2 d2, s9 = .pointer (some ⟨gS, 0, none⟩) ∧ s10 = .pointer (some ⟨gA, 0, none⟩) ∧ wx.heap[gS]? = some (.cells #[.slice A' n' c', .slice B' m' d'] 25 (0, 0)) ∧ wx.heap[gA]? = some (.cells #[.int .i64 cd, .bool f, .string v, .slice A2 n2 c2, .slice B2 m2 d2, .int .u64 0] 46 (0, 0)) ∧
    Shv wx A' n' c' B' m' d' L' Q' ∧ (∀ lo hi, hi ≤ w.heap.size → Apt A n lo hi → Apt A' n' lo hi) ∧ (∀ lo hi, hi ≤ w.heap.size → Apt B m lo hi → Apt B' m' lo hi) ∧ w.heap.size ≤ gS ∧ w.heap.size ≤ gA ∧ Below w.heap.size w wx
theorem Rec.Row.far {α : Type} {R : Rec α} {w w' : World} {A : Option Addr} {l : List α} {n lo hi gS gA : Nat} (h : R.Row w A l) (hn : l.length = n) (ha : Apt A n lo hi) (hs : Stay (fun k => k = gS ∨ k = gA) w w') (h1 : (lo ≤ gS ∧ gS < hi) ∨ w.heap.size ≤ gS) (h2 : (lo ≤ gA ∧ gA < hi) ∨ w.heap.size ≤ gA) : R.Row w' A l := by
  rcases Nat.eq_zero_or_pos n with h0 | h0
  · obtain rfl : l = [] := List.eq_nil_of_length_eq_zero (by omega)
    exact R.row_nil _ _
  · exact h.same hs.size (fun x hx hb => hs.block _ (fun e => by rcases ha h0 x hx with k | k <;> rcases e with e | e <;> omega) hb)
section
variable {w x1 wx : World} {L' : List Kv} {Q' : List ByteArray} {cd : Int} {f : Bool} {v : ByteArray} {A : Option Addr} {n : Nat} {B : Option Addr} {m : Nat} {A' : Option Addr} {n' c' : Nat} {B' : Option Addr} {m' d' : Nat} {A2 : Option Addr} {n2 c2 : Nat} {B2 : Option Addr} {m2 d2 : Nat}
theorem gotr_mk {B0 gS gA : Nat} (hv : Shv x1 A' n' c' B' m' d' L' Q') (pA : ∀ lo hi, hi ≤ B0 → Apt A n lo hi → Apt A' n' lo hi) (pB : ∀ lo hi, hi ≤ B0 → Apt B m lo hi → Apt B' m' lo hi) (aA : ∀ hi, Apt A n w.heap.size hi) (aB : ∀ hi, Apt B m w.heap.size hi) (hB0 : w.heap.size ≤ B0)
    (hb : Below w.heap.size w x1) (hst : Stay (fun k => k = gS ∨ k = gA) x1 wx) (hS : wx.heap[gS]? = some (.cells #[.slice A' n' c', .slice B' m' d'] 25 (0, 0))) (hA : wx.heap[gA]? = some (.cells #[.int .i64 cd, .bool f, .string v, .slice A2 n2 c2, .slice B2 m2 d2, .int .u64 0] 46 (0, 0)))
    (h1 : gS < B0 ∨ x1.heap.size ≤ gS) (h2 : gA < B0 ∨ x1.heap.size ≤ gA) (h3 : w.heap.size ≤ gS) (h4 : w.heap.size ≤ gA) (_ : gS ≠ gA) :
    GotR w A n B m L' Q' f (.pointer (some ⟨gS, 0, none⟩)) (.pointer (some ⟨gA, 0, none⟩)) wx :=
  ⟨gS, gA, A', n', c', B', m', d', cd, v, A2, n2, c2, B2, m2, d2, rfl, rfl, hS, hA, ⟨hv.r1.far hv.n1 (pA w.heap.size B0 (Nat.le_refl _) (aA B0)) hst (h1.imp (fun e => ⟨h3, e⟩) id) (h2.imp (fun e => ⟨h4, e⟩) id), hv.r2.far hv.n2 (pB w.heap.size B0 (Nat.le_refl _) (aB B0)) hst (h1.imp (fun e => ⟨h3, e⟩) id) (h2.imp (fun e => ⟨h4, e⟩) id), hv.n1, hv.n2, hv.z1, hv.z2⟩,
    fun lo hi h => pA lo hi (Nat.le_trans h hB0), fun lo hi h => pB lo hi (Nat.le_trans h hB0), h3, h4, hb.trans (hst.below (fun k hk => by rcases hk with e | e <;> omega) hb.size)⟩
theorem gotr_1 (hv : Shv x1 A' n' c' B' m' d' L' Q') (pA : ∀ lo hi, hi ≤ w.heap.size → Apt A n lo hi → Apt A' n' lo hi) (pB : ∀ lo hi, hi ≤ w.heap.size → Apt B m lo hi → Apt B' m' lo hi) (aA : ∀ hi, Apt A n w.heap.size hi) (aB : ∀ hi, Apt B m w.heap.size hi) (hb : Below w.drew.heap.size w.drew x1) :
    GotR w A n B m L' Q' f (.pointer (some ⟨x1.heap.size, 0, none⟩)) (.pointer (some ⟨x1.heap.size + 1, 0, none⟩)) ((x1.alloc (objS (.slice A' n' c') (.slice B' m' d'))).alloc (objA (.int .i64 cd) (.bool f) (.string v) (.slice A2 n2 c2) (.slice B2 m2 d2) (.int .u64 0))) :=
  gotr_mk hv pA pB aA aB (Nat.le_refl _) ((got_b (.inl rfl)).trans hb) ((alloc_stay _ _).trans (alloc_stay _ _)) (alloc_old (heap_alloc_new _ _)) (alloc_two _ _ _) (.inr (Nat.le_refl _)) (.inr (Nat.le_succ _)) hb.size (Nat.le_succ_of_le hb.size) (by omega)
theorem gotr_2 (hv : Shv x1 A' n' c' B' m' d' L' Q') (pA : ∀ lo hi, hi ≤ w.heap.size → Apt A n lo hi → Apt A' n' lo hi) (pB : ∀ lo hi, hi ≤ w.heap.size → Apt B m lo hi → Apt B' m' lo hi) (aA : ∀ hi, Apt A n w.heap.size hi) (aB : ∀ hi, Apt B m w.heap.size hi) (hb : Below w.drew.heap.size w.drew x1) :
    GotR w A n B m L' Q' f (.pointer (some ⟨x1.heap.size + 1, 0, none⟩)) (.pointer (some ⟨x1.heap.size, 0, none⟩)) ((x1.alloc (objA (.int .i64 cd) (.bool f) (.string v) (.slice A2 n2 c2) (.slice B2 m2 d2) (.int .u64 0))).alloc (objS (.slice A' n' c') (.slice B' m' d'))) :=
  gotr_mk hv pA pB aA aB (Nat.le_refl _) ((got_b (.inl rfl)).trans hb) ((alloc_stay _ _).trans (alloc_stay _ _)) (alloc_two _ _ _) (alloc_old (heap_alloc_new _ _)) (.inr (Nat.le_succ _)) (.inr (Nat.le_refl _)) (Nat.le_succ_of_le hb.size) hb.size (by omega)
theorem gotr_3 (hv : Shv x1 A' n' c' B' m' d' L' Q') (pA : ∀ lo hi, hi ≤ (w.drew.alloc S0).heap.size → Apt A n lo hi → Apt A' n' lo hi) (pB : ∀ lo hi, hi ≤ (w.drew.alloc S0).heap.size → Apt B m lo hi → Apt B' m' lo hi) (aA : ∀ hi, Apt A n w.heap.size hi) (aB : ∀ hi, Apt B m w.heap.size hi) (hb : Below (w.drew.alloc S0).heap.size (w.drew.alloc S0) x1) :
    GotR w A n B m L' Q' f (.pointer (some ⟨w.heap.size, 0, none⟩)) (.pointer (some ⟨x1.heap.size, 0, none⟩)) ((wrS x1 w.heap.size (.slice A' n' c') (.slice B' m' d')).alloc (objA (.int .i64 cd) (.bool f) (.string v) (.slice A2 n2 c2) (.slice B2 m2 d2) (.int .u64 0))) := by
  have hz := hb.size
  have he : (w.drew.alloc S0).heap.size = w.heap.size + 1 := by simp
  exact gotr_mk hv pA pB aA aB (by omega) ((got_b (.inr (.inl rfl))).trans (hb.mono (by omega))) ((stayL (wrS_stay _ _ _ _)).trans (alloc_stay _ _)) (alloc_old (wrS_at (got_w2 hb))) (by have := heap_alloc_new (wrS x1 w.heap.size (.slice A' n' c') (.slice B' m' d')) (objA (.int .i64 cd) (.bool f) (.string v) (.slice A2 n2 c2) (.slice B2 m2 d2) (.int .u64 0)); rw [wrS_size] at this; exact this) (.inl (by omega)) (.inr (Nat.le_refl _)) (Nat.le_refl _) (by omega) (by omega)
theorem gotr_4 (hv : Shv x1 A' n' c' B' m' d' L' Q') (pA : ∀ lo hi, hi ≤ ((w.drew.alloc S0).alloc A0).heap.size → Apt A n lo hi → Apt A' n' lo hi) (pB : ∀ lo hi, hi ≤ ((w.drew.alloc S0).alloc A0).heap.size → Apt B m lo hi → Apt B' m' lo hi) (aA : ∀ hi, Apt A n w.heap.size hi) (aB : ∀ hi, Apt B m w.heap.size hi) (hb : Below ((w.drew.alloc S0).alloc A0).heap.size ((w.drew.alloc S0).alloc A0) x1) :
    GotR w A n B m L' Q' f (.pointer (some ⟨w.heap.size, 0, none⟩)) (.pointer (some ⟨w.heap.size + 1, 0, none⟩)) (wrA (wrS x1 w.heap.size (.slice A' n' c') (.slice B' m' d')) (w.heap.size + 1) (.int .i64 cd) (.bool f) (.string v) (.slice A2 n2 c2) (.slice B2 m2 d2) (.int .u64 0)) := by
  have hz := hb.size
  have he : ((w.drew.alloc S0).alloc A0).heap.size = w.heap.size + 2 := by simp
  have hl : w.heap.size < x1.heap.size := by omega
  have hl2 : w.heap.size + 1 < x1.heap.size := by omega
  exact gotr_mk hv pA pB aA aB (by omega) ((got_b (.inr (.inr (.inr (.inl rfl))))).trans (hb.mono (by omega))) ((stayL (wrS_stay _ _ _ _)).trans (stayR (wrA_stay _ _ _ _ _ _ _ _))) (((wrA_stay _ _ _ _ _ _ _ _).block _ (by omega) (by rw [wrS_size]; exact hl)).trans (wrS_at (got_w4 hb).1)) (wrA_at (((wrS_stay _ _ _ _).block _ (by omega) hl2).trans (got_w4 hb).2)) (.inl (by omega)) (.inl (by omega)) (Nat.le_refl _) (by omega) (by omega)
theorem gotr_5 (hv : Shv x1 A' n' c' B' m' d' L' Q') (pA : ∀ lo hi, hi ≤ (w.drew.alloc A0).heap.size → Apt A n lo hi → Apt A' n' lo hi) (pB : ∀ lo hi, hi ≤ (w.drew.alloc A0).heap.size → Apt B m lo hi → Apt B' m' lo hi) (aA : ∀ hi, Apt A n w.heap.size hi) (aB : ∀ hi, Apt B m w.heap.size hi) (hb : Below (w.drew.alloc A0).heap.size (w.drew.alloc A0) x1) :
    GotR w A n B m L' Q' f (.pointer (some ⟨x1.heap.size, 0, none⟩)) (.pointer (some ⟨w.heap.size, 0, none⟩)) ((wrA x1 w.heap.size (.int .i64 cd) (.bool f) (.string v) (.slice A2 n2 c2) (.slice B2 m2 d2) (.int .u64 0)).alloc (objS (.slice A' n' c') (.slice B' m' d'))) := by
  have hz := hb.size
  have he : (w.drew.alloc A0).heap.size = w.heap.size + 1 := by simp
  exact gotr_mk hv pA pB aA aB (by omega) ((got_b (.inr (.inr (.inl rfl)))).trans (hb.mono (by omega))) ((stayR (wrA_stay _ _ _ _ _ _ _ _)).trans (alloc_stay _ _)) (by have := heap_alloc_new (wrA x1 w.heap.size (.int .i64 cd) (.bool f) (.string v) (.slice A2 n2 c2) (.slice B2 m2 d2) (.int .u64 0)) (objS (.slice A' n' c') (.slice B' m' d')); rw [wrA_size] at this; exact this) (alloc_old (wrA_at (got_w3 hb))) (.inr (Nat.le_refl _)) (.inl (by omega)) (by omega) (Nat.le_refl _) (by omega)
theorem gotr_6 (hv : Shv x1 A' n' c' B' m' d' L' Q') (pA : ∀ lo hi, hi ≤ ((w.drew.alloc A0).alloc S0).heap.size → Apt A n lo hi → Apt A' n' lo hi) (pB : ∀ lo hi, hi ≤ ((w.drew.alloc A0).alloc S0).heap.size → Apt B m lo hi → Apt B' m' lo hi) (aA : ∀ hi, Apt A n w.heap.size hi) (aB : ∀ hi, Apt B m w.heap.size hi) (hb : Below ((w.drew.alloc A0).alloc S0).heap.size ((w.drew.alloc A0).alloc S0) x1) :
    GotR w A n B m L' Q' f (.pointer (some ⟨w.heap.size + 1, 0, none⟩)) (.pointer (some ⟨w.heap.size, 0, none⟩)) (wrA (wrS x1 (w.heap.size + 1) (.slice A' n' c') (.slice B' m' d')) w.heap.size (.int .i64 cd) (.bool f) (.string v) (.slice A2 n2 c2) (.slice B2 m2 d2) (.int .u64 0)) := by
  have hz := hb.size
  have he : ((w.drew.alloc A0).alloc S0).heap.size = w.heap.size + 2 := by simp
  have hl : w.heap.size < x1.heap.size := by omega
  have hl2 : w.heap.size + 1 < x1.heap.size := by omega
  exact gotr_mk hv pA pB aA aB (by omega) ((got_b (.inr (.inr (.inr (.inr rfl))))).trans (hb.mono (by omega))) ((stayL (wrS_stay _ _ _ _)).trans (stayR (wrA_stay _ _ _ _ _ _ _ _))) (((wrA_stay _ _ _ _ _ _ _ _).block _ (by omega) (by rw [wrS_size]; exact hl2)).trans (wrS_at (got_w5 hb).2)) (wrA_at (((wrS_stay _ _ _ _).block _ (by omega) hl).trans (got_w5 hb).1)) (.inl (by omega)) (.inl (by omega)) (by omega) (Nat.le_refl _) (by omega)
end
section
variable {g g3 g4 g5 g6 : Nat} {w x y : World} {c : Cal} {A : Option Addr} {n cc : Nat} {B : Option Addr} {m d : Nat} {L : List Kv} {Q : List ByteArray} {a0 a1 a2 a3 a4 a5 : Value}
/-- One hit more of a group's answer. -/
theorem RW.hit {A9 : Option Addr} {k9 c9 : Nat} {H : List Bool} (h : RW g g3 g4 g5 g6 w c A n cc B m d L Q a0 a1 a2 a3 (.slice A9 k9 c9) a5 x) (ho : x.ownsRow (g6 + 1) RB.tE RB.k (.slice A9 k9 c9) k9 (RB.enc H)) (hm : H.length = k9) (hl : k9 < 1000000) (ha : ∀ k, (Value.slice A9 k9 c9).ownBlock = some k → Apt A n k (k + 1) ∧ Apt B m k (k + 1)) (b : Bool) :
    ∃ A' c' W, (Builtin.append_ #[44, 44] 44 #[.slice A9 k9 c9, .slice (some ⟨x.heap.size, 0, none⟩) 1 1]).run Try.prog (x.alloc (.cells #[.bool b] 4)) = .ok (.slice A' (k9 + 1) c') W ∧ W.cell? ⟨g6, 4, none⟩ = some (.slice A9 k9 c9) ∧ W.frozen? ⟨g6, 4, none⟩ = false ∧
      RW g g3 g4 g5 g6 w c A n cc B m d L Q a0 a1 a2 a3 (.slice A' (k9 + 1) c') a5 (W.setCell ⟨g6, 4, none⟩ (.slice A' (k9 + 1) c')) ∧ (W.setCell ⟨g6, 4, none⟩ (.slice A' (k9 + 1) c')).ownsRow (g6 + 1) RB.tE RB.k (.slice A' (k9 + 1) c') (k9 + 1) (RB.enc (H ++ [b])) ∧ (∀ k, (Value.slice A' (k9 + 1) c').ownBlock = some k → Apt A n k (k + 1) ∧ Apt B m k (k + 1)) := by
  obtain ⟨u, W, e1, e2, e3, e4, _⟩ := RB.run_app_one x (g6 + 1) k9 _ H b ho (by omega) h.lt 44
  obtain ⟨_, A', c', rfl, _⟩ := Rec.row_of_own e2 (by rw [List.length_append, hm]; show k9 + 1 ≤ _; omega)
  have hst := Stay.of_grown e3
  have o1 := h.o1; have o2 := h.o2; have o3 := h.o3; have o4 := h.o4
  have hbk : ∀ k, k ≤ g6 → k < x.heap.size → W.heap[k]? = x.heap[k]? := fun k hk hl => hst.block k (fun e => by have := own_ge ho k e; omega) hl
  have hsh : Shv W A n cc B m d L Q := by
    cases hob : (Value.slice A9 k9 c9).ownBlock with
    | none => exact h.sh.keep (lo := 0) (hi := 0) (fun _ _ _ => .inr (Nat.zero_le _)) (fun _ _ _ => .inr (Nat.zero_le _)) (hst.mono (fun k _ e => by rw [hob] at e; cases e))
    | some k => exact h.sh.keep (ha k hob).1 (ha k hob).2 (hst.mono (fun j _ e => by rw [hob] at e; cases e; omega))
  have hbel : Below g w W := h.bel.trans (hst.below (fun k e => by have := own_ge ho k e; omega) (Nat.le_of_lt (lt_of_heap h.h2)))
  have h1 : RW g g3 g4 g5 g6 w c A n cc B m d L Q a0 a1 a2 a3 (.slice A9 k9 c9) a5 W := ⟨o1, o2, o3, o4, (hbk _ (by omega) (lt_of_heap h.h2)).trans h.h2, (hbk _ (by omega) (lt_of_heap h.h3)).trans h.h3, (hbk _ (by omega) (lt_of_heap h.h4)).trans h.h4, (hbk _ (by omega) (lt_of_heap h.h5)).trans h.h5, (hbk _ (by omega) (lt_of_heap h.h6)).trans h.h6, hsh, h.ap, h.aq, hbel⟩
  have hh := h1.h6
  refine ⟨A', c', W, e1, by simp [World.cell?, hh], by simp [World.frozen?, hh], h1.ans (Stay.setCell (S := fun k => k = g6) _ g6 4 _ rfl) (heap_setCell_same _ g6 4 _ _ _ h1.h6), own_same e2 (fun k hk => Below.heap_setCell _ _ _ _ (by have := own_ge e2 k hk; show k ≠ g6; omega)), fun k hk => ?_⟩
  rcases e4 with e | e
  · exact ha k (e.symm.trans hk)
  · rw [e] at hk
    cases hk
    refine ⟨fun hp z hz => ?_, fun hp z hz => ?_⟩
    · obtain ⟨b1, o, e, hlt, _⟩ := h.sh.r1.2 (by rw [h.sh.n1]; exact hp)
      rw [hz] at e; cases e
      exact .inl (Nat.lt_succ_of_lt hlt)
    · obtain ⟨b1, o, e, hlt, _⟩ := h.sh.r2.2 (by rw [h.sh.n2]; exact hp)
      rw [hz] at e; cases e
      exact .inl (Nat.lt_succ_of_lt hlt)
end
theorem pairOwn {w : World} {B n c : Nat} {A : Option Addr} {M : List Kv} (h : w.ownsRow B RP.tE RP.k (.slice A n c) n (RP.enc M)) (hl : M.length ≤ 1048576) {i : Nat} {e : Kv} (hz : M[i]? = some e) : ∃ b, A = some ⟨b, 0, none⟩ ∧ B ≤ b ∧ b < w.heap.size ∧ w.cell? ⟨b, i * 2, none⟩ = some (.string e.k) ∧ w.cell? ⟨b, i * 2 + 1, none⟩ = some (.string e.v) ∧ (∀ j, w.frozen? ⟨b, j, none⟩ = false) ∧ (Value.slice A n c).ownBlock = some b := by
  obtain ⟨_, A', c', ee, a1, a2, a3, a4, a5⟩ := Rec.row_of_own h hl
  cases ee
  obtain ⟨b, o1, eA, hb1, k0, k1⟩ := pairAt a3 hz
  have hb0 := a5 _ eA
  have e0 : o1 = 0 := by have := hb0.2.2.1; injection this
  subst e0
  have e1 : 0 + i * 2 = i * 2 := Nat.zero_add _
  rw [e1] at k0 k1
  subst eA
  exact ⟨b, rfl, hb0.1, hb1, k0, k1, fun j => h.frozenAt j, hb0.2.2.2⟩
theorem textOwn {w : World} {B n c : Nat} {A : Option Addr} {M : List ByteArray} (h : w.ownsRow B RS.tE RS.k (.slice A n c) n (RS.enc M)) (hl : M.length ≤ 1048576) {i : Nat} {e : ByteArray} (hz : M[i]? = some e) : ∃ b, A = some ⟨b, 0, none⟩ ∧ B ≤ b ∧ b < w.heap.size ∧ w.cell? ⟨b, i, none⟩ = some (.string e) ∧ (∀ j, w.frozen? ⟨b, j, none⟩ = false) ∧ (Value.slice A n c).ownBlock = some b := by
  obtain ⟨_, A', c', ee, a1, a2, a3, a4, a5⟩ := Rec.row_of_own h hl
  cases ee
  obtain ⟨b, o1, eA, hb1, k0⟩ := textAt a3 hz
  have hb0 := a5 _ eA
  have e0 : o1 = 0 := by have := hb0.2.2.1; injection this
  subst e0
  have e1 : 0 + i = i := Nat.zero_add _
  rw [e1] at k0
  subst eA
  exact ⟨b, rfl, hb0.1, hb1, k0, fun j => h.frozenAt j, hb0.2.2.2⟩
def overT : ByteArray := ⟨#[111, 118, 101, 114]⟩
set_option maxHeartbeats 3200000 in
/-- A store of one's own written over. -/
theorem overs_any {w : World} {base : Nat} {A B : Option Addr} {n c m d : Nat} {L : List Kv} {Q : List ByteArray} (h : OwnS w base A n c B m d L Q) (hl : L.length ≤ 100000) (hq : Q.length ≤ 100000) (hb : base ≤ w.heap.size) (hne : ∀ k, (Value.slice A n c).ownBlock = some k → (Value.slice B m d).ownBlock ≠ some k) :
    Calls Try.prog 12 #[.agg #[.slice A n c, .slice B m d]] w fun e w' => e = .returned (.tuple #[]) ∧ Below base w w' := by
  obtain ⟨g, hg⟩ : ∃ g, w.heap.size = g := ⟨_, rfl⟩
  obtain ⟨w1, hw1⟩ : ∃ w1, w.alloc (.cells #[.slice A n c, .slice B m d] 25) = w1 := ⟨_, rfl⟩
  have HX : Hid (w1.heap[g]? = some (.cells #[.slice A n c, .slice B m d] 25 (0, 0))) := by rw [← hw1, ← hg]; exact heap_alloc_new w _
  have HB1 : Hid (Below g w w1) := by rw [← hw1, ← hg]; exact (Below.refl _ _).alloc (Nat.le_refl _) _
  have HO1 : Hid (OwnS w1 base A n c B m d L Q) := h.below (hg ▸ HB1.out)
  have HBG : Hid (base ≤ g) := hg ▸ hb
  have HAG : Hid (∀ k, (Value.slice A n c).ownBlock = some k → k < g) := fun k hk => hg ▸ own_ltN h.o1 hk
  have HQG : Hid (∀ k, (Value.slice B m d).ownBlock = some k → k < g) := fun k hk => hg ▸ own_ltN h.o2 hk
  have HNE := Lib.hid hne
  have HLN : Hid (L.length = n) := h.n1
  have HQN : Hid (Q.length = m) := h.n2
  have hnb : n ≤ 100000 := by have := h.n1; omega
  have hmb : m ≤ 100000 := by have := h.n2; omega
  obtain ⟨p0, p1⟩ := cells2 HX.out
  clear h hl hq hb hne
  go_enter Try.func12, Try.ntmps12
  go_wp2_with fail
  clear hg hw1 p0 p1
  go_loopg [2] n (fun gk s2 wx => ∃ (i : Nat) (M : List Kv), i + gk = n ∧ s2 = .int .i64 i ∧ M.length = n ∧ Hid (wx.heap[g]? = some (.cells #[.slice A n c, .slice B m d] 25 (0, 0))) ∧ Hid (OwnS wx base A n c B m d M Q) ∧ Hid (Below base w wx))
  case atStart => exact ⟨0, L, by omega, rfl, HLN.out, HX, HO1, HB1.out.mono HBG.out⟩
  case round =>
    obtain ⟨i, M, hig, rfl, hM, HXr, HOr, HW⟩ := hrel
    have HM := Lib.hid hM
    clear hM
    obtain ⟨p0, p1⟩ := cells2 HXr.out
    cases gk with
    | succ gk =>
      have hii : (i : Int) < (n : Int) := by omega
      have hi0 : (0 : Int) ≤ (i : Int) := by omega
      obtain ⟨x, hx⟩ : ∃ x, M[i]? = some x := ⟨_, List.getElem?_eq_getElem (by have := HM.out; omega)⟩
      obtain ⟨b, eA, hbb, hb1, k0, k1, kf, hob⟩ := pairOwn HOr.out.o1 (by have := HM.out; omega) hx
      have HOB := Lib.hid hob
      have HBB := Lib.hid hbb
      have HBL : Hid (b < g) := HAG.out b hob
      have hgb : ¬ g = b := by have := HBL.out; omega
      have hbg : ¬ b = g := by have := HBL.out; omega
      subst eA
      have HSET : Hid ((((wr.setCell ⟨b, i * 2, none⟩ (.string overT)).setCell ⟨b, i * 2 + 1, none⟩ (.string ⟨#[]⟩))).ownsRow base RP.tE RP.k (.slice (some ⟨b, 0, none⟩) n c) n (RP.enc (M.set i ⟨overT, ⟨#[]⟩⟩))) := Rec.own_set (R := RP) (i := i) (n := n) HOr.out.o1 HM.out (by omega) ⟨overT, ⟨#[]⟩⟩
      have kf0 := kf (i * 2)
      have kf1 := kf (i * 2 + 1)
      clear hx hbb hb1 hob kf
      go_wp2
      have HTX : Hid (∀ k, k ≠ b → ((wr.setCell ⟨b, i * 2, none⟩ (.string overT)).setCell ⟨b, i * 2 + 1, none⟩ (.string ⟨#[]⟩)).heap[k]? = wr.heap[k]?) := fun k hk => by rw [Below.heap_setCell _ _ _ _ hk, Below.heap_setCell _ _ _ _ hk]
      go_roundg gk
      case measure => omega
      case rel => exact ⟨i + 1, M.set i ⟨overT, ⟨#[]⟩⟩, by omega, by go_num, by rw [List.length_set]; exact HM.out, (HTX.out g hgb).trans HXr.out, ⟨HSET.out, own_same HOr.out.o2 (fun k hk => HTX.out k (fun e => HNE.out b HOB.out (e ▸ hk))), by rw [List.length_set]; exact HM.out, HOr.out.n2⟩, (HW.out.setCell (p := ⟨b, _, none⟩) HBB.out _).setCell (p := ⟨b, _, none⟩) HBB.out _⟩
    | zero =>
      obtain rfl : i = n := by omega
      have hii : ¬ (i : Int) < (i : Int) := by omega
      go_wp2_with fail
      go_loopg [3] m (fun gk s3 wx => ∃ (j : Nat) (M2 : List ByteArray), j + gk = m ∧ s3 = .int .i64 j ∧ M2.length = m ∧ Hid (wx.heap[g]? = some (.cells #[.slice A i c, .slice B m d] 25 (0, 0))) ∧ Hid (wx.ownsRow base RS.tE RS.k (.slice B m d) m (RS.enc M2)) ∧ Hid (Below base w wx))
      case atStart => exact ⟨0, Q, by omega, rfl, HQN.out, HXr, HOr.out.o2, HW⟩
      case round =>
        obtain ⟨j, M2, hjg, rfl, hM2, HXq, HOq, HW2⟩ := hrel
        have HM2 := Lib.hid hM2
        clear hM2 p0 p1
        obtain ⟨p0, p1⟩ := cells2 HXq.out
        cases gk with
        | zero =>
          obtain rfl : j = m := by omega
          have hjj : ¬ (j : Int) < (j : Int) := by omega
          go_wp2
          refine bodyPost_end (results_none rfl _ _ _) rfl ?_
          exact ⟨rfl, HW2.out⟩
        | succ gk =>
          have hjj : (j : Int) < (m : Int) := by omega
          have hj0 : (0 : Int) ≤ (j : Int) := by omega
          obtain ⟨x, hx⟩ : ∃ x, M2[j]? = some x := ⟨_, List.getElem?_eq_getElem (by have := HM2.out; omega)⟩
          obtain ⟨b, eA, hbb, hb1, k0, kf, hob⟩ := textOwn HOq.out (by have := HM2.out; omega) hx
          have HBB := Lib.hid hbb
          have HBL : Hid (b < g) := HQG.out b hob
          have hgb : ¬ g = b := by have := HBL.out; omega
          have hbg : ¬ b = g := by have := HBL.out; omega
          subst eA
          have HSET : Hid ((wr.setCell ⟨b, j * 1, none⟩ (.string overT)).ownsRow base RS.tE RS.k (.slice (some ⟨b, 0, none⟩) m d) m (RS.enc (M2.set j overT))) := Rec.own_set (R := RS) (i := j) (n := m) HOq.out HM2.out (by omega) overT
          rw [Nat.mul_one] at HSET
          have kf0 := kf j
          clear hx hbb hb1 hob kf
          go_wp2
          have HTX : Hid (∀ k, k ≠ b → (wr.setCell ⟨b, j, none⟩ (.string overT)).heap[k]? = wr.heap[k]?) := fun k hk => Below.heap_setCell _ _ _ _ hk
          go_roundg gk
          case measure => omega
          case rel => exact ⟨j + 1, M2.set j overT, by omega, by go_num, by rw [List.length_set]; exact HM2.out, (HTX.out g hgb).trans HXq.out, HSET, HW2.out.setCell (p := ⟨b, _, none⟩) HBB.out _⟩
section
variable {w x1 : World} {L' : List Kv} {Q' : List ByteArray} {cd : Int} {f : Bool} {v : ByteArray} {M : List Kv} {H : List Bool} {A : Option Addr} {n c : Nat} {B : Option Addr} {m d : Nat} {A2 : Option Addr} {n2 c2 : Nat} {B2 : Option Addr} {m2 d2 : Nat} {B0 N K : Nat}
/-- The variables made behind the call, or ahead of it, wherever. -/
theorem gen_1 (ho : OwnS x1 B0 A n c B m d L' Q') (hm : x1.ownsRow B0 RP.tE RP.k (.slice A2 n2 c2) n2 (RP.enc M)) (hh : x1.ownsRow B0 RB.tE RB.k (.slice B2 m2 d2) m2 (RB.enc H)) (hml : M.length = n2) (hhl : H.length = m2) (hB : w.heap.size ≤ B0) (hb : Below w.heap.size w x1) :
    Got w L' Q' cd f v M H (.pointer (some ⟨x1.heap.size, 0, none⟩)) (.pointer (some ⟨x1.heap.size + 1, 0, none⟩)) ((x1.alloc (objS (.slice A n c) (.slice B m d))).alloc (objA (.int .i64 cd) (.bool f) (.string v) (.slice A2 n2 c2) (.slice B2 m2 d2) (.int .u64 0))) :=
  got_mk ho hm hh hml hhl hB hb ((alloc_stay _ _).trans (alloc_stay _ _)) (alloc_old (heap_alloc_new _ _)) (alloc_two _ _ _) (.inr (Nat.le_refl _)) (.inr (Nat.le_succ _)) hb.size (Nat.le_succ_of_le hb.size) (by omega)
theorem gen_2 (ho : OwnS x1 B0 A n c B m d L' Q') (hm : x1.ownsRow B0 RP.tE RP.k (.slice A2 n2 c2) n2 (RP.enc M)) (hh : x1.ownsRow B0 RB.tE RB.k (.slice B2 m2 d2) m2 (RB.enc H)) (hml : M.length = n2) (hhl : H.length = m2) (hB : w.heap.size ≤ B0) (hb : Below w.heap.size w x1) :
    Got w L' Q' cd f v M H (.pointer (some ⟨x1.heap.size + 1, 0, none⟩)) (.pointer (some ⟨x1.heap.size, 0, none⟩)) ((x1.alloc (objA (.int .i64 cd) (.bool f) (.string v) (.slice A2 n2 c2) (.slice B2 m2 d2) (.int .u64 0))).alloc (objS (.slice A n c) (.slice B m d))) :=
  got_mk ho hm hh hml hhl hB hb ((alloc_stay _ _).trans (alloc_stay _ _)) (alloc_two _ _ _) (alloc_old (heap_alloc_new _ _)) (.inr (Nat.le_succ _)) (.inr (Nat.le_refl _)) (Nat.le_succ_of_le hb.size) hb.size (by omega)
theorem gen_3 (hS : x1.heap[N]? = some S0) (hN : w.heap.size ≤ N) (hN2 : N < B0) (ho : OwnS x1 B0 A n c B m d L' Q') (hm : x1.ownsRow B0 RP.tE RP.k (.slice A2 n2 c2) n2 (RP.enc M)) (hh : x1.ownsRow B0 RB.tE RB.k (.slice B2 m2 d2) m2 (RB.enc H)) (hml : M.length = n2) (hhl : H.length = m2) (hB : w.heap.size ≤ B0) (hb : Below w.heap.size w x1) :
    Got w L' Q' cd f v M H (.pointer (some ⟨N, 0, none⟩)) (.pointer (some ⟨x1.heap.size, 0, none⟩)) ((wrS x1 N (.slice A n c) (.slice B m d)).alloc (objA (.int .i64 cd) (.bool f) (.string v) (.slice A2 n2 c2) (.slice B2 m2 d2) (.int .u64 0))) := by
  have hl := lt_of_heap hS
  exact got_mk ho hm hh hml hhl hB hb ((stayL (wrS_stay _ _ _ _)).trans (alloc_stay _ _)) (alloc_old (wrS_at hS)) (by have := heap_alloc_new (wrS x1 N (.slice A n c) (.slice B m d)) (objA (.int .i64 cd) (.bool f) (.string v) (.slice A2 n2 c2) (.slice B2 m2 d2) (.int .u64 0)); rw [wrS_size] at this; exact this) (.inl hN2) (.inr (Nat.le_refl _)) hN hb.size (by omega)
theorem gen_5 (hA : x1.heap[K]? = some A0) (hK : w.heap.size ≤ K) (hK2 : K < B0) (ho : OwnS x1 B0 A n c B m d L' Q') (hm : x1.ownsRow B0 RP.tE RP.k (.slice A2 n2 c2) n2 (RP.enc M)) (hh : x1.ownsRow B0 RB.tE RB.k (.slice B2 m2 d2) m2 (RB.enc H)) (hml : M.length = n2) (hhl : H.length = m2) (hB : w.heap.size ≤ B0) (hb : Below w.heap.size w x1) :
    Got w L' Q' cd f v M H (.pointer (some ⟨x1.heap.size, 0, none⟩)) (.pointer (some ⟨K, 0, none⟩)) ((wrA x1 K (.int .i64 cd) (.bool f) (.string v) (.slice A2 n2 c2) (.slice B2 m2 d2) (.int .u64 0)).alloc (objS (.slice A n c) (.slice B m d))) := by
  have hl := lt_of_heap hA
  exact got_mk ho hm hh hml hhl hB hb ((stayR (wrA_stay _ _ _ _ _ _ _ _)).trans (alloc_stay _ _)) (by have := heap_alloc_new (wrA x1 K (.int .i64 cd) (.bool f) (.string v) (.slice A2 n2 c2) (.slice B2 m2 d2) (.int .u64 0)) (objS (.slice A n c) (.slice B m d)); rw [wrA_size] at this; exact this) (alloc_old (wrA_at hA)) (.inr (Nat.le_refl _)) (.inl hK2) hb.size hK (by omega)
theorem gen_4 (hS : x1.heap[N]? = some S0) (hN : w.heap.size ≤ N) (hN2 : N < B0) (hA : x1.heap[K]? = some A0) (hK : w.heap.size ≤ K) (hK2 : K < B0) (hne : N ≠ K) (ho : OwnS x1 B0 A n c B m d L' Q') (hm : x1.ownsRow B0 RP.tE RP.k (.slice A2 n2 c2) n2 (RP.enc M)) (hh : x1.ownsRow B0 RB.tE RB.k (.slice B2 m2 d2) m2 (RB.enc H)) (hml : M.length = n2) (hhl : H.length = m2) (hB : w.heap.size ≤ B0) (hb : Below w.heap.size w x1) :
    Got w L' Q' cd f v M H (.pointer (some ⟨N, 0, none⟩)) (.pointer (some ⟨K, 0, none⟩)) (wrA (wrS x1 N (.slice A n c) (.slice B m d)) K (.int .i64 cd) (.bool f) (.string v) (.slice A2 n2 c2) (.slice B2 m2 d2) (.int .u64 0)) :=
  got_mk ho hm hh hml hhl hB hb ((stayL (wrS_stay _ _ _ _)).trans (stayR (wrA_stay _ _ _ _ _ _ _ _))) (((wrA_stay _ _ _ _ _ _ _ _).block _ hne (by rw [wrS_size]; exact lt_of_heap hS)).trans (wrS_at hS)) (wrA_at (((wrS_stay _ _ _ _).block _ (fun e => hne e.symm) (lt_of_heap hA)).trans hA)) (.inl hN2) (.inl hK2) hN hK hne
end
theorem al1 (x : World) (o : Obj) : Below x.heap.size x (x.alloc o) := (Below.refl _ _).alloc (Nat.le_refl _) _
theorem al2 (x : World) (o p : Obj) : Below x.heap.size x ((x.alloc o).alloc p) := (al1 x o).alloc (by simp) _
theorem ne_of_vars {x : World} {N K : Nat} (h : x.heap[N]? = some S0) (k : x.heap[K]? = some A0) : N ≠ K := fun e => by
  rw [e, k] at h
  injection h with h
  injection h with h
  injection h with h
  injection h with _ h
  injection h with _ h
  cases h
theorem apM_len (c : Cal) (G : List Cal) (L : List Kv) : (apM c G L).length ≤ L.length := by
  unfold apM
  split
  · split
    · exact Nat.zero_le _
    · unfold prs
      split
      · exact List.length_filter_le _ _
      · exact Nat.zero_le _
  · exact Nat.zero_le _
theorem apH_len (c : Cal) (G : List Cal) (L : List Kv) (Q : List ByteArray) : (apH c G L Q).length ≤ G.length := by
  unfold apH
  split
  · split
    · rw [hits_len]; exact Nat.le_refl _
    · exact Nat.zero_le _
  · exact Nat.zero_le _
/-- Pairs and texts never lie in one block. -/
theorem OwnS.dis {w : World} {base : Nat} {A B : Option Addr} {n c m d : Nat} {L : List Kv} {Q : List ByteArray} (h : OwnS w base A n c B m d L Q) : ∀ k, (Value.slice A n c).ownBlock = some k → (Value.slice B m d).ownBlock ≠ some k := fun k h1 h2 => by
  rcases h.o1.2 with ⟨e, _⟩ | ⟨g1, c1, cur1, e1, _, hh1, _⟩
  · cases e; cases h1
  · rcases h.o2.2 with ⟨e, _⟩ | ⟨g2, c2, cur2, e2, _, hh2, _⟩
    · cases e; cases h2
    · cases e1; cases e2
      cases h1; cases h2
      rw [hh1] at hh2
      injection hh2 with hh2
      injection hh2 with _ hT
      revert hT
      decide

end Go.Proofs.Ytpmgnhijiodbaaa

/-
  Proved here: effects in slices; effects that came in.
  Conditions: none.
-/
namespace Go.Proofs.Ytpmgnhijiodbaaa
open Go Go.RowKit
set_option maxRecDepth 100000

/-! ### Effects -/
/-- An effect's own cells. -/
structure Ef where
  kd : Int
  key : ByteArray
  val : ByteArray
  id : Int
  ver : Int
  ep : Int
  gp : Int
def Ef.cells (x : Ef) : List Value := [.int .i64 x.kd, .string x.key, .string x.val, .int .u64 x.id, .int .u64 x.ver, .int .u64 x.ep, .int .i64 x.gp]
def Ef.agg (x : Ef) : Value := .agg #[.int .i64 x.kd, .string x.key, .string x.val, .int .u64 x.id, .int .u64 x.ver, .int .u64 x.ep, .int .i64 x.gp]
theorem Ef.agg_cells (x : Ef) : x.agg = .agg x.cells.toArray := rfl
theorem eff_info : (Try.prog.info? 34).map (fun i => (i.zero, i.size, i.bytes)) = some (some (.agg #[.int .i64 0, .string ⟨#[]⟩, .string ⟨#[]⟩, .int .u64 0, .int .u64 0, .int .u64 0, .int .i64 0]), 7, 72) := by kernel_rfl
theorem eff_info' : ∃ i, Try.prog.info? 34 = some i ∧ i.zero = some (.agg #[.int .i64 0, .string ⟨#[]⟩, .string ⟨#[]⟩, .int .u64 0, .int .u64 0, .int .u64 0, .int .i64 0]) ∧ i.size = 7 ∧ i.bytes = 72 := by
  obtain ⟨i, h1, h2⟩ := Option.map_eq_some_iff.1 eff_info
  simp only [Prod.mk.injEq] at h2
  exact ⟨i, h1, h2.1, h2.2.1, h2.2.2⟩
theorem zero_eff : (Try.prog.info? 34).bind (·.zero) = some (.agg #[.int .i64 0, .string ⟨#[]⟩, .string ⟨#[]⟩, .int .u64 0, .int .u64 0, .int .u64 0, .int .i64 0]) := by
  obtain ⟨i, h1, h2, _⟩ := eff_info'
  rw [h1]
  exact h2
theorem size_eff : (Try.prog.info? 34).map (·.size) = some 7 := by
  obtain ⟨i, h1, _, h2, _⟩ := eff_info'
  rw [h1]
  simp [h2]
theorem onesE (a : Int) (b c : ByteArray) (d e f g : Int) : (#[.int .i64 a, .string b, .string c, .int .u64 d, .int .u64 e, .int .u64 f, .int .i64 g] : Array Value).all (·.oneCell') = true := all_oneCell_toArray (cs := [.int .i64 a, .string b, .string c, .int .u64 d, .int .u64 e, .int .u64 f, .int .i64 g]) (fun u hu => by
  simp only [List.mem_cons, List.not_mem_nil, or_false] at hu
  rcases hu with rfl | rfl | rfl | rfl | rfl | rfl | rfl <;> rfl)
/-- Effects in a slice. -/
def RE : Rec Ef where
  tE := 34
  tS := 26
  k := 7
  by_ := 72
  zv := .agg #[.int .i64 0, .string ⟨#[]⟩, .string ⟨#[]⟩, .int .u64 0, .int .u64 0, .int .u64 0, .int .i64 0]
  cells := Ef.cells
  hk := by omega
  klen := fun _ => rfl
  one := fun x u hu => by
    simp only [Ef.cells, List.mem_cons, List.not_mem_nil, or_false] at hu
    rcases hu with rfl | rfl | rfl | rfl | rfl | rfl | rfl <;> rfl
  und := Try.underlying26
  info := eff_info'
  zk := by kernel_rfl
  small := by omega
/-- The seven cells of one effect in a row. -/
theorem effAt {w : World} {A : Option Addr} {l : List Ef} (h : RE.Row w A l) {i : Nat} {e : Ef} (hi : l[i]? = some e) : ∃ b off, A = some ⟨b, off, none⟩ ∧ b < w.heap.size ∧
    w.cell? ⟨b, off + i * 7, none⟩ = some (.int .i64 e.kd) ∧ w.cell? ⟨b, off + i * 7 + 1, none⟩ = some (.string e.key) ∧ w.cell? ⟨b, off + i * 7 + 2, none⟩ = some (.string e.val) ∧
    w.cell? ⟨b, off + i * 7 + 3, none⟩ = some (.int .u64 e.id) ∧ w.cell? ⟨b, off + i * 7 + 4, none⟩ = some (.int .u64 e.ver) ∧ w.cell? ⟨b, off + i * 7 + 5, none⟩ = some (.int .u64 e.ep) ∧ w.cell? ⟨b, off + i * 7 + 6, none⟩ = some (.int .i64 e.gp) := by
  obtain ⟨b, off, e1, hlt, hc⟩ := h.2 (by have := (List.getElem?_eq_some_iff.1 hi).1; omega)
  exact ⟨b, off, e1, hlt, hc i e hi 0 _ rfl, hc i e hi 1 _ rfl, hc i e hi 2 _ rfl, hc i e hi 3 _ rfl, hc i e hi 4 _ rfl, hc i e hi 5 _ rfl, hc i e hi 6 _ rfl⟩
/-- The effect x in a block of its own. -/
def EBox (w : World) (g : Nat) (x : Ef) : Prop := w.heap[g]? = some (.cells #[.int .i64 x.kd, .string x.key, .string x.val, .int .u64 x.id, .int .u64 x.ver, .int .u64 x.ep, .int .i64 x.gp] 34 (0, 0))
theorem EBox.below {w w' : World} {g B : Nat} {x : Ef} (h : EBox w g x) (hb : Below B w w') (hg : g < B) : EBox w' g x := (hb.block g hg).trans h
theorem EBox.lt {w : World} {g : Nat} {x : Ef} (h : EBox w g x) : g < w.heap.size := lt_of_heap h
theorem EBox.at_ {w : World} {g : Nat} {x : Ef} (h : EBox w g x) : w.cell? ⟨g, 0, none⟩ = some (.int .i64 x.kd) ∧ w.cell? ⟨g, 1, none⟩ = some (.string x.key) ∧ w.cell? ⟨g, 2, none⟩ = some (.string x.val) ∧ w.cell? ⟨g, 3, none⟩ = some (.int .u64 x.id) ∧ w.cell? ⟨g, 4, none⟩ = some (.int .u64 x.ver) ∧ w.cell? ⟨g, 5, none⟩ = some (.int .u64 x.ep) ∧ w.cell? ⟨g, 6, none⟩ = some (.int .i64 x.gp) := by
  unfold EBox at h
  refine ⟨?_, ?_, ?_, ?_, ?_, ?_, ?_⟩ <;> simp [World.cell?, h]
section
open Go.ChangeShapes Go.WideShapes Go.Deep
variable {H : Type} {enc : TypeId × Value → H} {w : World} {base : Nat} {spare : Nat → Bool} {held : Bool}
set_option maxRecDepth 100000 in
theorem eff_cells {fuel : Nat} {cs : List Value} {x : DataW H × List MemPlace} (h : DataW.trod enc Try.prog w base spare held fuel 34 cs = some x) : ∃ e : Ef, cs = RE.cells e ∧ True := by
  obtain ⟨xs, n, _, _, hsz, hxl, hg⟩ := DataW.trod_struct Try.underlying34 h
  have hsz5 : cs.length = 7 := hsz.trans (by kernel_rfl)
  have hx5 : xs.length = 7 := hxl
  have one : ∀ (j : Nat) (f : Field), j < 7 → f.offset = j → Try.prog.cellsOf f.type = 1 → DataW.trod enc Try.prog w base spare held n f.type ((cs.drop f.offset).take (Try.prog.cellsOf f.type)) = xs[j]? → ∃ y z, cs[j]? = some y ∧ DataW.trod enc Try.prog w base spare held n f.type [y] = some z := by
    intro j f hj ho hc ht
    rw [ho, hc, List.drop_eq_getElem_cons (by omega), List.take_succ_cons, List.take_zero, List.getElem?_eq_getElem (by omega)] at ht
    exact ⟨_, _, List.getElem?_eq_getElem (by omega), ht⟩
  obtain ⟨y0, z0, e0, t0⟩ := one 0 _ (by omega) (by rfl) (by kernel_rfl) (hg 0 _ rfl)
  obtain ⟨y1, z1, e1, t1⟩ := one 1 _ (by omega) (by rfl) (by kernel_rfl) (hg 1 _ rfl)
  obtain ⟨y2, z2, e2, t2⟩ := one 2 _ (by omega) (by rfl) (by kernel_rfl) (hg 2 _ rfl)
  obtain ⟨y3, z3, e3, t3⟩ := one 3 _ (by omega) (by rfl) (by kernel_rfl) (hg 3 _ rfl)
  obtain ⟨y4, z4, e4, t4⟩ := one 4 _ (by omega) (by rfl) (by kernel_rfl) (hg 4 _ rfl)
  obtain ⟨y5, z5, e5, t5⟩ := one 5 _ (by omega) (by rfl) (by kernel_rfl) (hg 5 _ rfl)
  obtain ⟨y6, z6, e6, t6⟩ := one 6 _ (by omega) (by rfl) (by kernel_rfl) (hg 6 _ rfl)
  obtain ⟨a0, q0, _, _⟩ := DataW.trod_int Try.underlying3 t0
  obtain ⟨a1, q1, _, _⟩ := DataW.trod_string Try.underlying9 t1
  obtain ⟨a2, q2, _, _⟩ := DataW.trod_string Try.underlying9 t2
  obtain ⟨a3, q3, _, _⟩ := DataW.trod_int Try.underlying27 t3
  obtain ⟨a4, q4, _, _⟩ := DataW.trod_int Try.underlying27 t4
  obtain ⟨a5, q5, _, _⟩ := DataW.trod_int Try.underlying27 t5
  obtain ⟨a6, q6, _, _⟩ := DataW.trod_int Try.underlying3 t6
  simp only [List.cons.injEq, and_true] at q0 q1 q2 q3 q4 q5 q6
  subst q0 q1 q2 q3 q4 q5 q6
  refine ⟨⟨a0, a1, a2, a3, a4, a5, a6⟩, ?_, trivial⟩
  apply List.ext_getElem?
  intro j
  rcases j with _ | _ | _ | _ | _ | _ | _ | j
  · exact e0
  · exact e1
  · exact e2
  · exact e3
  · exact e4
  · exact e5
  · exact e6
  · rw [List.getElem?_eq_none (by omega)]; simp [RE, Ef.cells]
set_option maxRecDepth 100000 in
/-- Effects that came in. -/
theorem isEffects_of {fuel : Nat} {a : Option Addr} {len cap : Nat} {x : DataW H × List MemPlace} (h : DataW.trod enc Try.prog w base (fun _ => true) held fuel 26 [.slice a len cap] = some x) : ∃ xs, RE.Is w a len cap xs := by
  obtain ⟨xs, h1, _⟩ := RE.is_of (fun _ => True) (by kernel_rfl) eff_cells h
  exact ⟨xs, h1⟩
end

end Go.Proofs.Ytpmgnhijiodbaaa

/-
  Proved here: Do, by the program.
  Conditions: stores of less than 999,900.
-/
namespace Go.Proofs.Ytpmgnhijiodbaaa
open Go Go.RowKit
set_option maxRecDepth 100000

/-- What an effect makes of a store's pairs, and of its texts. -/
def efL (e : Ef) (L : List Kv) : List Kv := if e.kd = 1 then setK L e.key e.val else if e.kd = 2 then delK L e.key else L
def efQ (e : Ef) (Q : List ByteArray) : List ByteArray := if e.kd = 3 then Q ++ [e.val] else if e.kd = 4 then Q.tail else Q
theorem ef_1 {e : Ef} (h : e.kd = 1) (L : List Kv) (Q : List ByteArray) : efL e L = setK L e.key e.val ∧ efQ e Q = Q := by
  unfold efL efQ
  rw [h]
  exact ⟨rfl, rfl⟩
theorem ef_2 {e : Ef} (h : e.kd = 2) (L : List Kv) (Q : List ByteArray) : efL e L = delK L e.key ∧ efQ e Q = Q := by
  unfold efL efQ
  rw [h]
  exact ⟨rfl, rfl⟩
theorem ef_3 {e : Ef} (h : e.kd = 3) (L : List Kv) (Q : List ByteArray) : efL e L = L ∧ efQ e Q = Q ++ [e.val] := by
  unfold efL efQ
  rw [h]
  exact ⟨rfl, rfl⟩
theorem ef_4 {e : Ef} (h : e.kd = 4) (L : List Kv) (Q : List ByteArray) : efL e L = L ∧ efQ e Q = Q.tail := by
  unfold efL efQ
  rw [h]
  exact ⟨rfl, rfl⟩
theorem ef_0 {e : Ef} (h1 : ¬ e.kd = 1) (h2 : ¬ e.kd = 2) (h3 : ¬ e.kd = 3) (h4 : ¬ e.kd = 4) (L : List Kv) (Q : List ByteArray) : efL e L = L ∧ efQ e Q = Q := by
  unfold efL efQ
  rw [if_neg h1, if_neg h2, if_neg h3, if_neg h4]
  exact ⟨rfl, rfl⟩
theorem ne_of_beq_false {a b : Int} (h : (a == b) = false) : ¬ a = b := fun e => by rw [e, beq_self_eq_true] at h; cases h
theorem popq_any {w : World} {p : Nat} {v1 v2 : Value} {L : List Kv} {Q : List ByteArray} (h : Shm w p v1 v2 L Q) : Calls Try.prog 21 #[.pointer (some ⟨p, 0, none⟩)] w fun e w' => (∃ x b, e = .returned (.tuple #[.string x, .bool b])) ∧ ShTo w p v1 v2 L Q.tail w' := by
  cases Q with
  | nil =>
    refine (pop15_nil h).mono ?_
    rintro e w' ⟨rfl, rfl⟩
    exact ⟨⟨_, _, rfl⟩, ShTo.refl h (Below.refl _ _)⟩
  | cons x Q =>
    refine (pop15_any h).mono ?_
    rintro e w' ⟨rfl, k⟩
    exact ⟨⟨_, _, rfl⟩, k⟩
set_option maxHeartbeats 3200000 in
theorem ido15_any {w : World} {A B : Option Addr} {n cp m d : Nat} {L : List Kv} {Q : List ByteArray} (h : Shv w A n cp B m d L Q) (hl : L.length + 100 < 1000000) (hq : Q.length + 100 < 1000000) (x : Ef) :
    Calls Try.prog 7 #[.agg #[.slice A n cp, .slice B m d], .agg #[.int .i64 x.kd, .string x.key, .string x.val, .int .u64 x.id, .int .u64 x.ver, .int .u64 x.ep, .int .i64 x.gp]] w (RefTo w (efL x L) (efQ x Q)) := by
  obtain ⟨gs, hgs⟩ : ∃ g, w.heap.size = g := ⟨_, rfl⟩
  obtain ⟨w0, hw0⟩ : ∃ w0, w.alloc (.cells #[.slice A n cp, .slice B m d] 25) = w0 := ⟨_, rfl⟩
  have HSX : Hid (w0.heap[gs]? = some (.cells #[.slice A n cp, .slice B m d] 25 (0, 0))) := by rw [← hw0, ← hgs]; exact heap_alloc_new w _
  have HSB : Hid (Below gs w w0) := by rw [← hw0, ← hgs]; exact (Below.refl _ _).alloc (Nat.le_refl _) _
  have HW0 : Hid (w0.heap.size = gs + 1) := by rw [← hw0, ← hgs]; show _ = _; simp
  have h0 := h.below (hgs ▸ HSB.out)
  obtain ⟨g, hg⟩ : ∃ g, w0.heap.size = g := ⟨_, rfl⟩
  obtain ⟨w1, hw1⟩ : ∃ w1, w0.alloc (.cells #[.int .i64 x.kd, .string x.key, .string x.val, .int .u64 x.id, .int .u64 x.ver, .int .u64 x.ep, .int .i64 x.gp] 34) = w1 := ⟨_, rfl⟩
  have HXg : Hid (EBox w1 g x) := by rw [← hw1, ← hg]; exact heap_alloc_new w0 _
  have HBg : Hid (Below g w0 w1) := by rw [← hw1, ← hg]; exact (Below.refl _ _).alloc (Nat.le_refl _) _
  have hgg : g = gs + 1 := hg.symm.trans HW0.out
  have h1 := h0.below (hg ▸ HBg.out)
  have HSX1 := Lib.hid ((HBg.out.block gs (by omega)).trans HSX.out)
  obtain ⟨g4, hg4⟩ : ∃ g1, w1.heap.size = g1 := ⟨_, rfl⟩
  have HG4 := Lib.hid hg4
  have HL : Hid (g < g4) := hg4 ▸ HXg.out.lt
  have HZS := Lib.hid zero_shelf
  have HBW : Hid (Below gs w w1) := HSB.out.trans (HBg.out.mono (by omega))
  have HGG : Hid (g = gs + 1) := hgg
  have HGS : Hid (w.heap.size = gs) := hgs
  have HLM : Hid (L.length + 100 < 1000000 ∧ Q.length + 100 < 1000000) := ⟨hl, hq⟩
  have HV1 := Lib.hid h1
  obtain ⟨p0, p1⟩ := cells2 HSX1.out
  obtain ⟨R, hR⟩ : ∃ R, RefTo w (efL x L) (efQ x Q) = R := ⟨_, rfl⟩
  have HRR := Lib.hid hR
  rw [hR]
  clear h h0 h1 hl hq hgg hg4 hR
  go_enter Try.func7, Try.ntmps7
  go_wp2_with (first
    | ((with_reducible show wpList _ _ _ (⟨some 4, .alloc _, _, _, _, _⟩ :: _) _ _); refine wpList_alloc_var (o := ⟨some 4, _, _, _, _, _⟩) rfl 25 rfl g4 HG4.out _ HZS.out ?_; intro x2 X2 B1; obtain ⟨r0, r1⟩ := cells2 ((B1.out.block gs (by have := HL.out; have := HGG.out; omega)).trans HSX1.out))
    | fail)
  have HLL : Hid (gs < g ∧ g < g4 ∧ g4 < x2.heap.size) := ⟨by have := HGG.out; omega, HL.out, lt_of_heap X2.out⟩
  have HV2 := Lib.hid (HV1.out.below (HG4.out.symm ▸ B1.out))
  have HXg2 := Lib.hid (HXg.out.below B1.out HL.out)
  have HX4 := Lib.hid X2.out
  have HBW2 : Hid (Below gs w x2) := HBW.out.trans (B1.out.mono (by have := HLL.out; omega))
  clear hw0 hw1 hgs hg p0 p1 r0 r1 X2 B1 HL HV1 HXg HSX1 HSX HSB HW0 HBg HBW HG4
  have HCS := Lib.hid (copyshelf_any HV2.out)
  refine HCS.out.mono ?_
  rintro e x3 ⟨A1, a1, B1, b1, rfl, o1, o2, one, hb3⟩
  obtain ⟨N3, hN3⟩ : ∃ N, x3.heap.size = N := ⟨_, rfl⟩
  have HN3 := Lib.hid hN3
  obtain ⟨N2, hN2⟩ : ∃ N, x2.heap.size = N := ⟨_, rfl⟩
  rw [hN2] at o1 o2 hb3 HLL
  have HN23 : Hid (N2 ≤ N3) := by rw [← hN2, ← hN3]; exact hN2 ▸ hb3.size
  have HB3 := Lib.hid hb3
  have HN2 := Lib.hid hN2
  have HO1 := Lib.hid o1
  have HO2 := Lib.hid o2
  have HNE := Lib.hid one
  clear o1 o2 one hb3 hN3 hN2
  have HXg3 := Lib.hid (HXg2.out.below HB3.out (by have := HLL.out; omega))
  have HX43 := Lib.hid ((HB3.out.block g4 (by have := HLL.out; omega)).trans HX4.out)
  obtain ⟨c0, c1, c2, c3, c4, c5, c6⟩ := HXg3.out.at_
  have HFIN : Hid (∀ y2 x4 u1 u2 z L' Q', Below N3 x3 y2 → N3 < y2.heap.size → Shm x4 N3 u1 u2 L' Q' → Stay (shOwn N3 (.slice A1 L.length a1) (.slice B1 Q.length b1)) y2 x4 → (∀ k, shOwn N3 u1 u2 k → shOwn N3 (.slice A1 L.length a1) (.slice B1 Q.length b1) k ∨ y2.heap.size ≤ k) → Turns g4 g4 x4 z → efL x L = L' → efQ x Q = Q' → R (.returned (.agg #[u1, u2])) z) := fun y2 x4 u1 u2 z L' Q' k1 k2 k3 k4 k5 k6 e1 e2 => by
    obtain ⟨A9, c9, B9, d9, q1, q2, -⟩ := k3.forms
    subst q1 q2
    have hn := HLL.out
    have hn3 := HN23.out
    have how : ∀ k, shOwn N3 (.slice A1 L.length a1) (.slice B1 Q.length b1) k → N2 ≤ k := fun k hk => by
      rcases hk with e | e | e
      · omega
      · exact own_ge HO1.out k e
      · exact own_ge HO2.out k e
    have how2 : ∀ k, shOwn N3 (.slice A9 L'.length c9) (.slice B9 Q'.length d9) k → N2 ≤ k := fun k hk => by
      rcases k5 k hk with e | e
      · exact how k e
      · omega
    have hby : Below N2 x2 y2 := HB3.out.trans (k1.mono hn3)
    have hb4 : Below N2 x2 x4 := hby.trans (k4.below how (by omega))
    have hz := (HBW2.out.trans (hb4.mono (show gs ≤ N2 by omega))).trans (turn_below k6 (show gs ≤ g4 by omega) (by have := k4.size; omega))
    rw [← HRR.out, e1, e2]
    refine ⟨A9, L'.length, c9, B9, Q'.length, d9, rfl, ⟨?_, ?_, rfl, rfl⟩, by rw [HGS.out]; exact hz⟩
    · rw [HGS.out]
      exact own_base (own_same k3.o1 (fun k hk => k6.block k (fun e => by have := how2 k (.inr (.inl hk)); omega) (fun e => by have := how2 k (.inr (.inl hk)); omega) (own_ltN k3.o1 hk))) (fun k hk => by have := how2 k (.inr (.inl hk)); omega)
    · rw [HGS.out]
      exact own_base (own_same k3.o2 (fun k hk => k6.block k (fun e => by have := how2 k (.inr (.inr hk)); omega) (fun e => by have := how2 k (.inr (.inr hk)); omega) (own_ltN k3.o2 hk))) (fun k hk => by have := how2 k (.inr (.inr hk)); omega)
  have HX4N : Hid (∀ y2 x4, Below N3 x3 y2 → Stay (shOwn N3 (.slice A1 L.length a1) (.slice B1 Q.length b1)) y2 x4 → x4.heap[g4]? = some (.cells #[.slice none 0 0, .slice none 0 0] 25 (0, 0))) := fun y2 x4 k1 k4 => by
    have hn := HLL.out
    have hn3 := HN23.out
    have hy := (k1.block g4 (by omega)).trans HX43.out
    refine (k4.block g4 (fun hk => ?_) (lt_of_heap hy)).trans hy
    rcases hk with e | e | e
    · omega
    · have := own_ge HO1.out _ e; omega
    · have := own_ge HO2.out _ e; omega
  have HKD : Hid (x.kd = 1 ∨ x.kd = 2 ∨ x.kd = 3 ∨ x.kd = 4 ∨ ((x.kd == 1) = false ∧ (x.kd == 2) = false ∧ (x.kd == 3) = false ∧ (x.kd == 4) = false)) := by
    show _ ∨ _
    simp only [beq_eq_false_iff_ne]
    omega
  obtain ⟨kd, key, val, id, ver, ep, gp⟩ := x
  rcases HKD.out with h | h | h | h | ⟨hz1, hz2, hz3, hz4⟩
  · obtain rfl : kd = 1 := h
    clear HKD
    go_wp2_with (first
      | ((with_reducible show wpList _ _ _ (⟨some 5, .alloc _, _, _, _, _⟩ :: _) _ _); refine wpList_alloc_var (o := ⟨some 5, _, _, _, _, _⟩) rfl 25 rfl N3 HN3.out _ HZS.out ?_; intro y1 Y1 C1)
      | ((with_reducible show wpList _ _ _ (⟨none, .store _ (.tmp 5) _, _, _, _, _⟩ :: _) _ _); refine wpList_store_whole (o := ⟨none, .store 25 (.tmp 5) (.tmp 7), _, _, _, _⟩) rfl _ _ _ rfl rfl N3 #[.slice A1 L.length a1, .slice B1 Q.length b1] rfl rfl 25 _ Y1.out size_shelf rfl (onesV _ _ _ _ _ _) ?_; intro y2 Y2 C2; have HC2 : Hid (Below N3 x3 y2) := C1.out.trans C2.out; obtain ⟨d0, d1, d2, d3, d4, d5, d6⟩ := (HXg3.out.below HC2.out (by have := HLL.out; have := HN23.out; omega)).at_; clear c0 c1 c2 c3 c4 c5 c6)
      | fail)
    have HSH : Hid (Shm y2 N3 (.slice A1 L.length a1) (.slice B1 Q.length b1) L Q) := ⟨Y2.out, own_mono (own_keep HO1.out (HN3.out.symm ▸ HC2.out)) (Nat.zero_le _), own_mono (own_keep HO2.out (HN3.out.symm ▸ HC2.out)) (Nat.zero_le _), fun e => by have := own_ltN HO1.out e; have := HN3.out; omega, fun e => by have := own_ltN HO2.out e; have := HN3.out; omega, HNE.out, by have := HLM.out.1; omega, by have := HLM.out.2; omega⟩
    have HLY : Hid (N3 < y2.heap.size) := lt_of_heap Y2.out
    refine (set15_any HSH.out (by have := HLM.out.1; omega) key val).mono ?_
    rintro e x4 ⟨rfl, hto⟩
    obtain ⟨q1, q2⟩ := ef_1 (e := ⟨1, key, val, id, ver, ep, gp⟩) rfl L Q
    obtain ⟨L9, Q9, e1, e2, hto⟩ : ∃ L9 Q9, efL (⟨1, key, val, id, ver, ep, gp⟩ : Ef) L = L9 ∧ efQ (⟨1, key, val, id, ver, ep, gp⟩ : Ef) Q = Q9 ∧ ShTo y2 N3 (.slice A1 L.length a1) (.slice B1 Q.length b1) L9 Q9 x4 := ⟨_, _, q1, q2, hto⟩
    have HE1 := Lib.hid e1
    have HE2 := Lib.hid e2
    clear q1 q2 e1 e2
    obtain ⟨u1, u2, k1, k2, k3⟩ := hto
    obtain ⟨A9, c9, B9, d9, rfl, rfl, -⟩ := k1.forms
    have HK1 := Lib.hid k1
    have HK2 := Lib.hid k2
    have HK3 := Lib.hid k3
    have HX44 := Lib.hid (HX4N.out y2 x4 HC2.out k2)
    obtain ⟨m0, m1⟩ := cells2 k1.mem
    clear k1 k2 k3
    go_wp2_with (first
      | ((with_reducible show wpList _ _ _ (⟨none, .store _ (.tmp 4) _, _, _, _, _⟩ :: _) _ _); refine wpList_store_only (o := ⟨none, .store 25 (.tmp 4) (.tmp 30), _, _, _, _⟩) rfl _ _ _ rfl rfl g4 #[.slice A9 _ c9, .slice B9 _ d9] rfl rfl 25 _ HX44.out size_shelf rfl (onesV _ _ _ _ _ _) ?_; intro z1 Z1 T1)
      | fail)
    refine bodyPost_ret (results_v1 (cs := [.slice A9 _ c9, .slice B9 _ d9]) rfl Try.underlying25 rfl Z1.out size_shelf) rfl ?_
    exact HFIN.out y2 x4 _ _ z1 _ _ HC2.out HLY.out HK1.out HK2.out HK3.out T1.out HE1.out HE2.out
  · obtain rfl : kd = 2 := h
    clear HKD
    go_wp2_with (first
      | ((with_reducible show wpList _ _ _ (⟨some 5, .alloc _, _, _, _, _⟩ :: _) _ _); refine wpList_alloc_var (o := ⟨some 5, _, _, _, _, _⟩) rfl 25 rfl N3 HN3.out _ HZS.out ?_; intro y1 Y1 C1)
      | ((with_reducible show wpList _ _ _ (⟨none, .store _ (.tmp 5) _, _, _, _, _⟩ :: _) _ _); refine wpList_store_whole (o := ⟨none, .store 25 (.tmp 5) (.tmp 7), _, _, _, _⟩) rfl _ _ _ rfl rfl N3 #[.slice A1 L.length a1, .slice B1 Q.length b1] rfl rfl 25 _ Y1.out size_shelf rfl (onesV _ _ _ _ _ _) ?_; intro y2 Y2 C2; have HC2 : Hid (Below N3 x3 y2) := C1.out.trans C2.out; obtain ⟨d0, d1, d2, d3, d4, d5, d6⟩ := (HXg3.out.below HC2.out (by have := HLL.out; have := HN23.out; omega)).at_; clear c0 c1 c2 c3 c4 c5 c6)
      | fail)
    have HSH : Hid (Shm y2 N3 (.slice A1 L.length a1) (.slice B1 Q.length b1) L Q) := ⟨Y2.out, own_mono (own_keep HO1.out (HN3.out.symm ▸ HC2.out)) (Nat.zero_le _), own_mono (own_keep HO2.out (HN3.out.symm ▸ HC2.out)) (Nat.zero_le _), fun e => by have := own_ltN HO1.out e; have := HN3.out; omega, fun e => by have := own_ltN HO2.out e; have := HN3.out; omega, HNE.out, by have := HLM.out.1; omega, by have := HLM.out.2; omega⟩
    have HLY : Hid (N3 < y2.heap.size) := lt_of_heap Y2.out
    refine (drop15_any HSH.out key).mono ?_
    rintro e x4 ⟨rfl, hto⟩
    obtain ⟨q1, q2⟩ := ef_2 (e := ⟨2, key, val, id, ver, ep, gp⟩) rfl L Q
    obtain ⟨L9, Q9, e1, e2, hto⟩ : ∃ L9 Q9, efL (⟨2, key, val, id, ver, ep, gp⟩ : Ef) L = L9 ∧ efQ (⟨2, key, val, id, ver, ep, gp⟩ : Ef) Q = Q9 ∧ ShTo y2 N3 (.slice A1 L.length a1) (.slice B1 Q.length b1) L9 Q9 x4 := ⟨_, _, q1, q2, hto⟩
    have HE1 := Lib.hid e1
    have HE2 := Lib.hid e2
    clear q1 q2 e1 e2
    obtain ⟨u1, u2, k1, k2, k3⟩ := hto
    obtain ⟨A9, c9, B9, d9, rfl, rfl, -⟩ := k1.forms
    have HK1 := Lib.hid k1
    have HK2 := Lib.hid k2
    have HK3 := Lib.hid k3
    have HX44 := Lib.hid (HX4N.out y2 x4 HC2.out k2)
    obtain ⟨m0, m1⟩ := cells2 k1.mem
    clear k1 k2 k3
    go_wp2_with (first
      | ((with_reducible show wpList _ _ _ (⟨none, .store _ (.tmp 4) _, _, _, _, _⟩ :: _) _ _); refine wpList_store_only (o := ⟨none, .store 25 (.tmp 4) (.tmp 30), _, _, _, _⟩) rfl _ _ _ rfl rfl g4 #[.slice A9 _ c9, .slice B9 _ d9] rfl rfl 25 _ HX44.out size_shelf rfl (onesV _ _ _ _ _ _) ?_; intro z1 Z1 T1)
      | fail)
    refine bodyPost_ret (results_v1 (cs := [.slice A9 _ c9, .slice B9 _ d9]) rfl Try.underlying25 rfl Z1.out size_shelf) rfl ?_
    exact HFIN.out y2 x4 _ _ z1 _ _ HC2.out HLY.out HK1.out HK2.out HK3.out T1.out HE1.out HE2.out
  · obtain rfl : kd = 3 := h
    clear HKD
    go_wp2_with (first
      | ((with_reducible show wpList _ _ _ (⟨some 5, .alloc _, _, _, _, _⟩ :: _) _ _); refine wpList_alloc_var (o := ⟨some 5, _, _, _, _, _⟩) rfl 25 rfl N3 HN3.out _ HZS.out ?_; intro y1 Y1 C1)
      | ((with_reducible show wpList _ _ _ (⟨none, .store _ (.tmp 5) _, _, _, _, _⟩ :: _) _ _); refine wpList_store_whole (o := ⟨none, .store 25 (.tmp 5) (.tmp 7), _, _, _, _⟩) rfl _ _ _ rfl rfl N3 #[.slice A1 L.length a1, .slice B1 Q.length b1] rfl rfl 25 _ Y1.out size_shelf rfl (onesV _ _ _ _ _ _) ?_; intro y2 Y2 C2; have HC2 : Hid (Below N3 x3 y2) := C1.out.trans C2.out; obtain ⟨d0, d1, d2, d3, d4, d5, d6⟩ := (HXg3.out.below HC2.out (by have := HLL.out; have := HN23.out; omega)).at_; clear c0 c1 c2 c3 c4 c5 c6)
      | fail)
    have HSH : Hid (Shm y2 N3 (.slice A1 L.length a1) (.slice B1 Q.length b1) L Q) := ⟨Y2.out, own_mono (own_keep HO1.out (HN3.out.symm ▸ HC2.out)) (Nat.zero_le _), own_mono (own_keep HO2.out (HN3.out.symm ▸ HC2.out)) (Nat.zero_le _), fun e => by have := own_ltN HO1.out e; have := HN3.out; omega, fun e => by have := own_ltN HO2.out e; have := HN3.out; omega, HNE.out, by have := HLM.out.1; omega, by have := HLM.out.2; omega⟩
    have HLY : Hid (N3 < y2.heap.size) := lt_of_heap Y2.out
    refine (push15_any HSH.out (by have := HLM.out.2; omega) val).mono ?_
    rintro e x4 ⟨rfl, hto⟩
    obtain ⟨q1, q2⟩ := ef_3 (e := ⟨3, key, val, id, ver, ep, gp⟩) rfl L Q
    obtain ⟨L9, Q9, e1, e2, hto⟩ : ∃ L9 Q9, efL (⟨3, key, val, id, ver, ep, gp⟩ : Ef) L = L9 ∧ efQ (⟨3, key, val, id, ver, ep, gp⟩ : Ef) Q = Q9 ∧ ShTo y2 N3 (.slice A1 L.length a1) (.slice B1 Q.length b1) L9 Q9 x4 := ⟨_, _, q1, q2, hto⟩
    have HE1 := Lib.hid e1
    have HE2 := Lib.hid e2
    clear q1 q2 e1 e2
    obtain ⟨u1, u2, k1, k2, k3⟩ := hto
    obtain ⟨A9, c9, B9, d9, rfl, rfl, -⟩ := k1.forms
    have HK1 := Lib.hid k1
    have HK2 := Lib.hid k2
    have HK3 := Lib.hid k3
    have HX44 := Lib.hid (HX4N.out y2 x4 HC2.out k2)
    obtain ⟨m0, m1⟩ := cells2 k1.mem
    clear k1 k2 k3
    go_wp2_with (first
      | ((with_reducible show wpList _ _ _ (⟨none, .store _ (.tmp 4) _, _, _, _, _⟩ :: _) _ _); refine wpList_store_only (o := ⟨none, .store 25 (.tmp 4) (.tmp 30), _, _, _, _⟩) rfl _ _ _ rfl rfl g4 #[.slice A9 _ c9, .slice B9 _ d9] rfl rfl 25 _ HX44.out size_shelf rfl (onesV _ _ _ _ _ _) ?_; intro z1 Z1 T1)
      | fail)
    refine bodyPost_ret (results_v1 (cs := [.slice A9 _ c9, .slice B9 _ d9]) rfl Try.underlying25 rfl Z1.out size_shelf) rfl ?_
    exact HFIN.out y2 x4 _ _ z1 _ _ HC2.out HLY.out HK1.out HK2.out HK3.out T1.out HE1.out HE2.out
  · obtain rfl : kd = 4 := h
    clear HKD
    go_wp2_with (first
      | ((with_reducible show wpList _ _ _ (⟨some 5, .alloc _, _, _, _, _⟩ :: _) _ _); refine wpList_alloc_var (o := ⟨some 5, _, _, _, _, _⟩) rfl 25 rfl N3 HN3.out _ HZS.out ?_; intro y1 Y1 C1)
      | ((with_reducible show wpList _ _ _ (⟨none, .store _ (.tmp 5) _, _, _, _, _⟩ :: _) _ _); refine wpList_store_whole (o := ⟨none, .store 25 (.tmp 5) (.tmp 7), _, _, _, _⟩) rfl _ _ _ rfl rfl N3 #[.slice A1 L.length a1, .slice B1 Q.length b1] rfl rfl 25 _ Y1.out size_shelf rfl (onesV _ _ _ _ _ _) ?_; intro y2 Y2 C2; have HC2 : Hid (Below N3 x3 y2) := C1.out.trans C2.out; obtain ⟨d0, d1, d2, d3, d4, d5, d6⟩ := (HXg3.out.below HC2.out (by have := HLL.out; have := HN23.out; omega)).at_; clear c0 c1 c2 c3 c4 c5 c6)
      | fail)
    have HSH : Hid (Shm y2 N3 (.slice A1 L.length a1) (.slice B1 Q.length b1) L Q) := ⟨Y2.out, own_mono (own_keep HO1.out (HN3.out.symm ▸ HC2.out)) (Nat.zero_le _), own_mono (own_keep HO2.out (HN3.out.symm ▸ HC2.out)) (Nat.zero_le _), fun e => by have := own_ltN HO1.out e; have := HN3.out; omega, fun e => by have := own_ltN HO2.out e; have := HN3.out; omega, HNE.out, by have := HLM.out.1; omega, by have := HLM.out.2; omega⟩
    have HLY : Hid (N3 < y2.heap.size) := lt_of_heap Y2.out
    refine (popq_any HSH.out).mono ?_
    rintro e x4 ⟨⟨px, pb, rfl⟩, hto⟩
    obtain ⟨q1, q2⟩ := ef_4 (e := ⟨4, key, val, id, ver, ep, gp⟩) rfl L Q
    obtain ⟨L9, Q9, e1, e2, hto⟩ : ∃ L9 Q9, efL (⟨4, key, val, id, ver, ep, gp⟩ : Ef) L = L9 ∧ efQ (⟨4, key, val, id, ver, ep, gp⟩ : Ef) Q = Q9 ∧ ShTo y2 N3 (.slice A1 L.length a1) (.slice B1 Q.length b1) L9 Q9 x4 := ⟨_, _, q1, q2, hto⟩
    have HE1 := Lib.hid e1
    have HE2 := Lib.hid e2
    clear q1 q2 e1 e2
    obtain ⟨u1, u2, k1, k2, k3⟩ := hto
    obtain ⟨A9, c9, B9, d9, rfl, rfl, -⟩ := k1.forms
    have HK1 := Lib.hid k1
    have HK2 := Lib.hid k2
    have HK3 := Lib.hid k3
    have HX44 := Lib.hid (HX4N.out y2 x4 HC2.out k2)
    obtain ⟨m0, m1⟩ := cells2 k1.mem
    clear k1 k2 k3
    go_wp2_with (first
      | ((with_reducible show wpList _ _ _ (⟨none, .store _ (.tmp 4) _, _, _, _, _⟩ :: _) _ _); refine wpList_store_only (o := ⟨none, .store 25 (.tmp 4) (.tmp 30), _, _, _, _⟩) rfl _ _ _ rfl rfl g4 #[.slice A9 _ c9, .slice B9 _ d9] rfl rfl 25 _ HX44.out size_shelf rfl (onesV _ _ _ _ _ _) ?_; intro z1 Z1 T1)
      | fail)
    refine bodyPost_ret (results_v1 (cs := [.slice A9 _ c9, .slice B9 _ d9]) rfl Try.underlying25 rfl Z1.out size_shelf) rfl ?_
    exact HFIN.out y2 x4 _ _ z1 _ _ HC2.out HLY.out HK1.out HK2.out HK3.out T1.out HE1.out HE2.out
  · have KZ := Lib.hid (And.intro hz1 (And.intro hz2 (And.intro hz3 hz4)))
    clear HKD
    go_wp2_with (first
      | ((with_reducible show wpList _ _ _ (⟨some 5, .alloc _, _, _, _, _⟩ :: _) _ _); refine wpList_alloc_var (o := ⟨some 5, _, _, _, _, _⟩) rfl 25 rfl N3 HN3.out _ HZS.out ?_; intro y1 Y1 C1)
      | ((with_reducible show wpList _ _ _ (⟨none, .store _ (.tmp 5) _, _, _, _, _⟩ :: _) _ _); refine wpList_store_whole (o := ⟨none, .store 25 (.tmp 5) (.tmp 7), _, _, _, _⟩) rfl _ _ _ rfl rfl N3 #[.slice A1 L.length a1, .slice B1 Q.length b1] rfl rfl 25 _ Y1.out size_shelf rfl (onesV _ _ _ _ _ _) ?_; intro y2 Y2 C2; have HC2 : Hid (Below N3 x3 y2) := C1.out.trans C2.out; obtain ⟨d0, d1, d2, d3, d4, d5, d6⟩ := (HXg3.out.below HC2.out (by have := HLL.out; have := HN23.out; omega)).at_; clear c0 c1 c2 c3 c4 c5 c6; have HSH : Hid (Shm y2 N3 (.slice A1 L.length a1) (.slice B1 Q.length b1) L Q) := ⟨Y2.out, own_mono (own_keep HO1.out (HN3.out.symm ▸ HC2.out)) (Nat.zero_le _), own_mono (own_keep HO2.out (HN3.out.symm ▸ HC2.out)) (Nat.zero_le _), fun e => (by have := own_ltN HO1.out e; have := HN3.out; omega), fun e => (by have := own_ltN HO2.out e; have := HN3.out; omega), HNE.out, (by have := HLM.out.1; omega), (by have := HLM.out.2; omega)⟩; have HLY : Hid (N3 < y2.heap.size) := lt_of_heap Y2.out; have HX44 := Lib.hid (HX4N.out y2 y2 HC2.out (Stay.of_below (Below.refl _ _))); obtain ⟨m0, m1⟩ := cells2 HSH.out.mem)
      | ((with_reducible show wpList _ _ _ (⟨none, .store _ (.tmp 4) _, _, _, _, _⟩ :: _) _ _); refine wpList_store_only (o := ⟨none, .store 25 (.tmp 4) (.tmp 30), _, _, _, _⟩) rfl _ _ _ rfl rfl g4 #[.slice A1 L.length a1, .slice B1 Q.length b1] rfl rfl 25 _ HX44.out size_shelf rfl (onesV _ _ _ _ _ _) ?_; intro z1 Z1 T1)
      | fail)
    refine bodyPost_ret (results_v1 (cs := [.slice A1 L.length a1, .slice B1 Q.length b1]) rfl Try.underlying25 rfl Z1.out size_shelf) rfl ?_
    obtain ⟨q1, q2⟩ := ef_0 (e := ⟨kd, key, val, id, ver, ep, gp⟩) (ne_of_beq_false KZ.out.1) (ne_of_beq_false KZ.out.2.1) (ne_of_beq_false KZ.out.2.2.1) (ne_of_beq_false KZ.out.2.2.2) L Q
    exact HFIN.out y2 y2 _ _ z1 _ _ HC2.out HLY.out HSH.out (Stay.of_below (Below.refl _ _)) (fun _ hk => .inl hk) T1.out q1 q2

end Go.Proofs.Ytpmgnhijiodbaaa

/-
  Proved here: Do, by the chapter's own.
  Conditions: stores of less than 400,000 pairs.
-/
namespace Go.Proofs.Ytpmgnhijiodbaaa
open Go Go.RowKit
set_option maxRecDepth 100000

/-- A store of one's own, as an effect leaves it. -/
def RDoTo (w : World) (base : Nat) (L : List Kv) (Q : List ByteArray) (e : Ending) (w' : World) : Prop := ∃ A n c B m d, e = .returned (.agg #[.slice A n c, .slice B m d]) ∧ OwnS w' base A n c B m d L Q ∧ Below w.heap.size w w'
set_option maxHeartbeats 3200000 in
theorem rdo15_any {w : World} {base : Nat} {A B : Option Addr} {n cp m d : Nat} {L : List Kv} {Q : List ByteArray} (h : OwnS w base A n cp B m d L Q) (hb : base ≤ w.heap.size) (hl : L.length < 400000) (hq : Q.length < 900000) (x : Ef) :
    Calls Try.prog 8 #[.agg #[.slice A n cp, .slice B m d], .agg #[.int .i64 x.kd, .string x.key, .string x.val, .int .u64 x.id, .int .u64 x.ver, .int .u64 x.ep, .int .i64 x.gp]] w (RDoTo w base (efL x L) (efQ x Q)) := by
  obtain ⟨gs, hgs⟩ : ∃ g, w.heap.size = g := ⟨_, rfl⟩
  obtain ⟨w0, hw0⟩ : ∃ w0, w.alloc (.cells #[.slice A n cp, .slice B m d] 25) = w0 := ⟨_, rfl⟩
  have HSX : Hid (w0.heap[gs]? = some (.cells #[.slice A n cp, .slice B m d] 25 (0, 0))) := by rw [← hw0, ← hgs]; exact heap_alloc_new w _
  have HSB : Hid (Below gs w w0) := by rw [← hw0, ← hgs]; exact (Below.refl _ _).alloc (Nat.le_refl _) _
  have HW0 : Hid (w0.heap.size = gs + 1) := by rw [← hw0, ← hgs]; show _ = _; simp
  have h0 := h.below (hgs ▸ HSB.out)
  obtain ⟨g, hg⟩ : ∃ g, w0.heap.size = g := ⟨_, rfl⟩
  obtain ⟨w1, hw1⟩ : ∃ w1, w0.alloc (.cells #[.int .i64 x.kd, .string x.key, .string x.val, .int .u64 x.id, .int .u64 x.ver, .int .u64 x.ep, .int .i64 x.gp] 34) = w1 := ⟨_, rfl⟩
  have HXg : Hid (EBox w1 g x) := by rw [← hw1, ← hg]; exact heap_alloc_new w0 _
  have HBg : Hid (Below g w0 w1) := by rw [← hw1, ← hg]; exact (Below.refl _ _).alloc (Nat.le_refl _) _
  have hgg : g = gs + 1 := hg.symm.trans HW0.out
  have h1 := h0.below (hg ▸ HBg.out)
  have HSX1 := Lib.hid ((HBg.out.block gs (by omega)).trans HSX.out)
  obtain ⟨g4, hg4⟩ : ∃ g1, w1.heap.size = g1 := ⟨_, rfl⟩
  have HG4 := Lib.hid hg4
  have HL : Hid (g < g4) := hg4 ▸ HXg.out.lt
  have HZS := Lib.hid zero_shelf
  have HBW : Hid (Below gs w w1) := HSB.out.trans (HBg.out.mono (by omega))
  have HGG : Hid (g = gs + 1) := hgg
  have HGS : Hid (w.heap.size = gs) := hgs
  have HBA : Hid (base ≤ gs) := hgs ▸ hb
  have HLM : Hid (L.length < 400000 ∧ Q.length < 900000) := ⟨hl, hq⟩
  have HV1 := Lib.hid h1
  have HCD : Hid (m ≤ d ∧ d ≤ maxLen) := by
    obtain ⟨_, B', d', e2, k1, k2, _⟩ := Rec.row_of_own h.o2 (by omega)
    cases e2
    exact ⟨k1, k2⟩
  obtain ⟨p0, p1⟩ := cells2 HSX1.out
  obtain ⟨R, hR⟩ : ∃ R, RDoTo w base (efL x L) (efQ x Q) = R := ⟨_, rfl⟩
  have HRR := Lib.hid hR
  rw [hR]
  clear h h0 h1 hl hq hgg hg4 hR hb
  go_enter Try.func8, Try.ntmps8
  have HFIN : Hid (∀ x2 x4 z A9 n9 c9 B9 m9 d9 L' Q', Below g4 w1 x2 → g4 < x2.heap.size → OwnS x4 x2.heap.size A9 n9 c9 B9 m9 d9 L' Q' → Below x2.heap.size x2 x4 → Turns g4 g4 x4 z → efL x L = L' → efQ x Q = Q' → R (.returned (.agg #[.slice A9 n9 c9, .slice B9 m9 d9])) z) := fun x2 x4 z A9 n9 c9 B9 m9 d9 L' Q' k1 k2 k3 k4 k5 e1 e2 => by
    have hgl := HL.out
    have hgx := HGG.out
    have hba := HBA.out
    have hz := (HBW.out.trans ((k1.trans (k4.mono (Nat.le_of_lt k2))).mono (show gs ≤ g4 by omega))).trans (turn_below k5 (show gs ≤ g4 by omega) (by have := k4.size; omega))
    rw [← HRR.out, e1, e2]
    exact ⟨A9, n9, c9, B9, m9, d9, rfl, (k3.turn k5 k2).mono (by omega), by rw [HGS.out]; exact hz⟩
  have HFI0 : Hid (∀ x2 z, Below g4 w1 x2 → g4 < x2.heap.size → Turns g4 g4 x2 z → efL x L = L → efQ x Q = Q → R (.returned (.agg #[.slice A n cp, .slice B m d])) z) := fun x2 z k1 k2 k5 e1 e2 => by
    have hgl := HL.out
    have hgx := HGG.out
    have hba := HBA.out
    have hlow : Below g4 w1 z := k1.trans (turn_below k5 (Nat.le_refl _) (Nat.le_of_lt k2))
    have hz := HBW.out.trans (hlow.mono (show gs ≤ g4 by omega))
    rw [← HRR.out, e1, e2]
    exact ⟨A, n, cp, B, m, d, rfl, HV1.out.below (HG4.out.symm ▸ hlow), by rw [HGS.out]; exact hz⟩
  have HKD : Hid (x.kd = 1 ∨ x.kd = 2 ∨ x.kd = 3 ∨ x.kd = 4 ∨ ((x.kd == 1) = false ∧ (x.kd == 2) = false ∧ (x.kd == 3) = false ∧ (x.kd == 4) = false)) := by
    show _ ∨ _
    simp only [beq_eq_false_iff_ne]
    omega
  obtain ⟨c0, c1, c2, c3, c4, c5, c6⟩ := HXg.out.at_
  obtain ⟨kd, key, val, id, ver, ep, gp⟩ := x
  rcases HKD.out with h | h | h | h | ⟨hz1, hz2, hz3, hz4⟩
  · obtain rfl : kd = 1 := h
    clear HKD
    go_wp2_with (first
      | ((with_reducible show wpList _ _ _ (⟨some 4, .alloc _, _, _, _, _⟩ :: _) _ _); refine wpList_alloc_var (o := ⟨some 4, _, _, _, _, _⟩) rfl 25 rfl g4 HG4.out _ HZS.out ?_; intro x2 X2 B1; have HLX : Hid (g4 < x2.heap.size) := lt_of_heap X2.out; have HV2 := Lib.hid ((HV1.out.below (HG4.out.symm ▸ B1.out)).shv (by have := HLM.out.1; omega) (by have := HLM.out.2; omega)); obtain ⟨r0, r1⟩ := cells2 ((B1.out.block gs (by have := HL.out; have := HGG.out; omega)).trans HSX1.out); obtain ⟨d0, d1, d2, d3, d4, d5, d6⟩ := (HXg.out.below B1.out HL.out).at_; clear c0 c1 c2 c3 c4 c5 c6 p0 p1)
      | fail)
    refine (rput15_any HV2.out HLM.out.1 HLM.out.2 key val).mono ?_
    intro e x4 hto
    obtain ⟨q1, q2⟩ := ef_1 (e := ⟨1, key, val, id, ver, ep, gp⟩) rfl L Q
    obtain ⟨L9, Q9, e1, e2, hto⟩ : ∃ L9 Q9, efL (⟨1, key, val, id, ver, ep, gp⟩ : Ef) L = L9 ∧ efQ (⟨1, key, val, id, ver, ep, gp⟩ : Ef) Q = Q9 ∧ RefTo x2 L9 Q9 e x4 := ⟨_, _, q1, q2, hto⟩
    have HE1 := Lib.hid e1
    have HE2 := Lib.hid e2
    clear q1 q2 e1 e2
    obtain ⟨A9, n9, c9, B9, m9, d9, rfl, k1, k2⟩ := hto
    have HK1 := Lib.hid k1
    have HK2 := Lib.hid k2
    have HX44 := Lib.hid ((k2.block g4 HLX.out).trans X2.out)
    clear k1 k2
    go_wp2_with (first
      | ((with_reducible show wpList _ _ _ (⟨none, .store _ (.tmp 4) _, _, _, _, _⟩ :: _) _ _); refine wpList_store_only (o := ⟨none, .store 25 (.tmp 4) (.tmp 14), _, _, _, _⟩) rfl _ _ _ rfl rfl g4 #[.slice A9 n9 c9, .slice B9 m9 d9] rfl rfl 25 _ HX44.out size_shelf rfl (onesV _ _ _ _ _ _) ?_; intro z1 Z1 T1)
      | fail)
    refine bodyPost_ret (results_v1 (cs := [.slice A9 n9 c9, .slice B9 m9 d9]) rfl Try.underlying25 rfl Z1.out size_shelf) rfl ?_
    exact HFIN.out x2 x4 z1 _ _ _ _ _ _ _ _ B1.out HLX.out HK1.out HK2.out T1.out HE1.out HE2.out
  · obtain rfl : kd = 2 := h
    clear HKD
    go_wp2_with (first
      | ((with_reducible show wpList _ _ _ (⟨some 4, .alloc _, _, _, _, _⟩ :: _) _ _); refine wpList_alloc_var (o := ⟨some 4, _, _, _, _, _⟩) rfl 25 rfl g4 HG4.out _ HZS.out ?_; intro x2 X2 B1; have HLX : Hid (g4 < x2.heap.size) := lt_of_heap X2.out; have HV2 := Lib.hid ((HV1.out.below (HG4.out.symm ▸ B1.out)).shv (by have := HLM.out.1; omega) (by have := HLM.out.2; omega)); obtain ⟨r0, r1⟩ := cells2 ((B1.out.block gs (by have := HL.out; have := HGG.out; omega)).trans HSX1.out); obtain ⟨d0, d1, d2, d3, d4, d5, d6⟩ := (HXg.out.below B1.out HL.out).at_; clear c0 c1 c2 c3 c4 c5 c6 p0 p1)
      | fail)
    refine (rdel15_any HV2.out (by have := HLM.out.1; omega) HLM.out.2 key).mono ?_
    intro e x4 hto
    obtain ⟨q1, q2⟩ := ef_2 (e := ⟨2, key, val, id, ver, ep, gp⟩) rfl L Q
    obtain ⟨L9, Q9, e1, e2, hto⟩ : ∃ L9 Q9, efL (⟨2, key, val, id, ver, ep, gp⟩ : Ef) L = L9 ∧ efQ (⟨2, key, val, id, ver, ep, gp⟩ : Ef) Q = Q9 ∧ RefTo x2 L9 Q9 e x4 := ⟨_, _, q1, q2, hto⟩
    have HE1 := Lib.hid e1
    have HE2 := Lib.hid e2
    clear q1 q2 e1 e2
    obtain ⟨A9, n9, c9, B9, m9, d9, rfl, k1, k2⟩ := hto
    have HK1 := Lib.hid k1
    have HK2 := Lib.hid k2
    have HX44 := Lib.hid ((k2.block g4 HLX.out).trans X2.out)
    clear k1 k2
    go_wp2_with (first
      | ((with_reducible show wpList _ _ _ (⟨none, .store _ (.tmp 4) _, _, _, _, _⟩ :: _) _ _); refine wpList_store_only (o := ⟨none, .store 25 (.tmp 4) (.tmp 20), _, _, _, _⟩) rfl _ _ _ rfl rfl g4 #[.slice A9 n9 c9, .slice B9 m9 d9] rfl rfl 25 _ HX44.out size_shelf rfl (onesV _ _ _ _ _ _) ?_; intro z1 Z1 T1)
      | fail)
    refine bodyPost_ret (results_v1 (cs := [.slice A9 n9 c9, .slice B9 m9 d9]) rfl Try.underlying25 rfl Z1.out size_shelf) rfl ?_
    exact HFIN.out x2 x4 z1 _ _ _ _ _ _ _ _ B1.out HLX.out HK1.out HK2.out T1.out HE1.out HE2.out
  · obtain rfl : kd = 3 := h
    clear HKD
    go_wp2_with (first
      | ((with_reducible show wpList _ _ _ (⟨some 4, .alloc _, _, _, _, _⟩ :: _) _ _); refine wpList_alloc_var (o := ⟨some 4, _, _, _, _, _⟩) rfl 25 rfl g4 HG4.out _ HZS.out ?_; intro x2 X2 B1; have HLX : Hid (g4 < x2.heap.size) := lt_of_heap X2.out; have HV2 := Lib.hid ((HV1.out.below (HG4.out.symm ▸ B1.out)).shv (by have := HLM.out.1; omega) (by have := HLM.out.2; omega)); obtain ⟨r0, r1⟩ := cells2 ((B1.out.block gs (by have := HL.out; have := HGG.out; omega)).trans HSX1.out); obtain ⟨d0, d1, d2, d3, d4, d5, d6⟩ := (HXg.out.below B1.out HL.out).at_; clear c0 c1 c2 c3 c4 c5 c6 p0 p1)
      | fail)
    refine (rpush15_any HV2.out HLM.out.2 val).mono ?_
    intro e x4 hto
    obtain ⟨q1, q2⟩ := ef_3 (e := ⟨3, key, val, id, ver, ep, gp⟩) rfl L Q
    obtain ⟨L9, Q9, e1, e2, hto⟩ : ∃ L9 Q9, efL (⟨3, key, val, id, ver, ep, gp⟩ : Ef) L = L9 ∧ efQ (⟨3, key, val, id, ver, ep, gp⟩ : Ef) Q = Q9 ∧ RefTo x2 L9 Q9 e x4 := ⟨_, _, q1, q2, hto⟩
    have HE1 := Lib.hid e1
    have HE2 := Lib.hid e2
    clear q1 q2 e1 e2
    obtain ⟨A9, n9, c9, B9, m9, d9, rfl, k1, k2⟩ := hto
    have HK1 := Lib.hid k1
    have HK2 := Lib.hid k2
    have HX44 := Lib.hid ((k2.block g4 HLX.out).trans X2.out)
    clear k1 k2
    go_wp2_with (first
      | ((with_reducible show wpList _ _ _ (⟨none, .store _ (.tmp 4) _, _, _, _, _⟩ :: _) _ _); refine wpList_store_only (o := ⟨none, .store 25 (.tmp 4) (.tmp 26), _, _, _, _⟩) rfl _ _ _ rfl rfl g4 #[.slice A9 n9 c9, .slice B9 m9 d9] rfl rfl 25 _ HX44.out size_shelf rfl (onesV _ _ _ _ _ _) ?_; intro z1 Z1 T1)
      | fail)
    refine bodyPost_ret (results_v1 (cs := [.slice A9 n9 c9, .slice B9 m9 d9]) rfl Try.underlying25 rfl Z1.out size_shelf) rfl ?_
    exact HFIN.out x2 x4 z1 _ _ _ _ _ _ _ _ B1.out HLX.out HK1.out HK2.out T1.out HE1.out HE2.out
  · obtain rfl : kd = 4 := h
    clear HKD
    go_wp2_with (first
      | ((with_reducible show wpList _ _ _ (⟨some 4, .alloc _, _, _, _, _⟩ :: _) _ _); refine wpList_alloc_var (o := ⟨some 4, _, _, _, _, _⟩) rfl 25 rfl g4 HG4.out _ HZS.out ?_; intro x2 X2 B1; have HLX : Hid (g4 < x2.heap.size) := lt_of_heap X2.out; have HV2 := Lib.hid ((HV1.out.below (HG4.out.symm ▸ B1.out)).shv (by have := HLM.out.1; omega) (by have := HLM.out.2; omega)); obtain ⟨r0, r1⟩ := cells2 ((B1.out.block gs (by have := HL.out; have := HGG.out; omega)).trans HSX1.out); obtain ⟨d0, d1, d2, d3, d4, d5, d6⟩ := (HXg.out.below B1.out HL.out).at_; clear c0 c1 c2 c3 c4 c5 c6 p0 p1)
      | fail)
    refine (rpop15_any HV2.out HLM.out.2 HCD.out.1 HCD.out.2).mono ?_
    intro e x4 hto
    obtain ⟨q1, q2⟩ := ef_4 (e := ⟨4, key, val, id, ver, ep, gp⟩) rfl L Q
    obtain ⟨L9, Q9, e1, e2, hto⟩ : ∃ L9 Q9, efL (⟨4, key, val, id, ver, ep, gp⟩ : Ef) L = L9 ∧ efQ (⟨4, key, val, id, ver, ep, gp⟩ : Ef) Q = Q9 ∧ RefTo x2 L9 Q9 e x4 := ⟨_, _, q1, q2, hto⟩
    have HE1 := Lib.hid e1
    have HE2 := Lib.hid e2
    clear q1 q2 e1 e2
    obtain ⟨A9, n9, c9, B9, m9, d9, rfl, k1, k2⟩ := hto
    have HK1 := Lib.hid k1
    have HK2 := Lib.hid k2
    have HX44 := Lib.hid ((k2.block g4 HLX.out).trans X2.out)
    clear k1 k2
    go_wp2_with (first
      | ((with_reducible show wpList _ _ _ (⟨none, .store _ (.tmp 4) _, _, _, _, _⟩ :: _) _ _); refine wpList_store_only (o := ⟨none, .store 25 (.tmp 4) (.tmp 30), _, _, _, _⟩) rfl _ _ _ rfl rfl g4 #[.slice A9 n9 c9, .slice B9 m9 d9] rfl rfl 25 _ HX44.out size_shelf rfl (onesV _ _ _ _ _ _) ?_; intro z1 Z1 T1)
      | fail)
    refine bodyPost_ret (results_v1 (cs := [.slice A9 n9 c9, .slice B9 m9 d9]) rfl Try.underlying25 rfl Z1.out size_shelf) rfl ?_
    exact HFIN.out x2 x4 z1 _ _ _ _ _ _ _ _ B1.out HLX.out HK1.out HK2.out T1.out HE1.out HE2.out
  · have KZ := Lib.hid (And.intro hz1 (And.intro hz2 (And.intro hz3 hz4)))
    clear HKD
    go_wp2_with (first
      | ((with_reducible show wpList _ _ _ (⟨some 4, .alloc _, _, _, _, _⟩ :: _) _ _); refine wpList_alloc_var (o := ⟨some 4, _, _, _, _, _⟩) rfl 25 rfl g4 HG4.out _ HZS.out ?_; intro x2 X2 B1; have HLX : Hid (g4 < x2.heap.size) := lt_of_heap X2.out; have HV2 := Lib.hid ((HV1.out.below (HG4.out.symm ▸ B1.out)).shv (by have := HLM.out.1; omega) (by have := HLM.out.2; omega)); obtain ⟨r0, r1⟩ := cells2 ((B1.out.block gs (by have := HL.out; have := HGG.out; omega)).trans HSX1.out); obtain ⟨d0, d1, d2, d3, d4, d5, d6⟩ := (HXg.out.below B1.out HL.out).at_; clear c0 c1 c2 c3 c4 c5 c6 p0 p1)
      | ((with_reducible show wpList _ _ _ (⟨none, .store _ (.tmp 4) _, _, _, _, _⟩ :: _) _ _); refine wpList_store_only (o := ⟨none, .store 25 (.tmp 4) (.tmp 31), _, _, _, _⟩) rfl _ _ _ rfl rfl g4 #[.slice A n cp, .slice B m d] rfl rfl 25 _ X2.out size_shelf rfl (onesV _ _ _ _ _ _) ?_; intro z1 Z1 T1)
      | fail)
    refine bodyPost_ret (results_v1 (cs := [.slice A n cp, .slice B m d]) rfl Try.underlying25 rfl Z1.out size_shelf) rfl ?_
    obtain ⟨q1, q2⟩ := ef_0 (e := ⟨kd, key, val, id, ver, ep, gp⟩) (ne_of_beq_false KZ.out.1) (ne_of_beq_false KZ.out.2.1) (ne_of_beq_false KZ.out.2.2.1) (ne_of_beq_false KZ.out.2.2.2) L Q
    exact HFI0.out x2 z1 B1.out HLX.out T1.out q1 q2

end Go.Proofs.Ytpmgnhijiodbaaa

/-
  Proved here: Replay, by the chapter's own.
  Conditions: at most 1,000 effects.
-/
namespace Go.Proofs.Ytpmgnhijiodbaaa
open Go Go.RowKit
set_option maxRecDepth 100000

theorem efL_len (x : Ef) (L : List Kv) : (efL x L).length ≤ L.length + 1 := by
  unfold efL
  split
  · exact setK_len L x.key x.val
  · split
    · exact Nat.le_succ_of_le (List.length_filter_le (fun y => !eqKv x.key y) L)
    · exact Nat.le_succ _
theorem efQ_len (x : Ef) (Q : List ByteArray) : (efQ x Q).length ≤ Q.length + 1 := by
  unfold efQ
  split
  · simp
  · split
    · rw [List.length_tail]; omega
    · exact Nat.le_succ _
/-- One effect of a script that may be too late. -/
def stE (up : Int) (s : List Kv × List ByteArray) (x : Ef) : List Kv × List ByteArray := if decide (x.ep ≤ up) = true then (efL x s.1, efQ x s.2) else s
/-- What the effects up to an epoch make of an empty store. -/
def rpS (up : Int) (E : List Ef) : List Kv × List ByteArray := E.foldl (stE up) ([], [])
theorem stE_len (up : Int) (s : List Kv × List ByteArray) (x : Ef) : (stE up s x).1.length ≤ s.1.length + 1 ∧ (stE up s x).2.length ≤ s.2.length + 1 := by
  unfold stE
  split
  · exact ⟨efL_len _ _, efQ_len _ _⟩
  · exact ⟨Nat.le_succ _, Nat.le_succ _⟩
theorem fold_len (up : Int) (E : List Ef) (s : List Kv × List ByteArray) : (E.foldl (stE up) s).1.length ≤ s.1.length + E.length ∧ (E.foldl (stE up) s).2.length ≤ s.2.length + E.length := by
  induction E generalizing s with
  | nil => exact ⟨Nat.le_refl _, Nat.le_refl _⟩
  | cons x E ih =>
    have h1 := ih (stE up s x)
    have h2 := stE_len up s x
    simp only [List.foldl_cons, List.length_cons]
    omega
theorem rpS_len (up : Int) (E : List Ef) : (rpS up E).1.length ≤ E.length ∧ (rpS up E).2.length ≤ E.length := by
  have h := fold_len up E ([], [])
  simp only [List.length_nil, Nat.zero_add] at h
  exact h
theorem rpS_take {up : Int} {E : List Ef} {i : Nat} {x : Ef} (h : E[i]? = some x) : rpS up (E.take (i + 1)) = stE up (rpS up (E.take i)) x := by
  unfold rpS
  rw [List.take_add_one, h]
  simp
set_option maxHeartbeats 3200000 in
theorem rreplay15_any {w : World} {A : Option Addr} {n c : Nat} {E : List Ef} (h : RE.Row w A E) (hn : E.length = n) (hl : n ≤ 1000) (up : Int) : Calls Try.prog 11 #[.slice A n c, .int .u64 up] w (RefTo w (rpS up E).1 (rpS up E).2) := by
  obtain ⟨g, hg⟩ : ∃ g, w.heap.size = g := ⟨_, rfl⟩
  have HG := Lib.hid hg
  have HZ := Lib.hid zero_shelf
  have HR := Lib.hid h
  have HN := Lib.hid hn
  obtain ⟨R, hR⟩ : ∃ R, RefTo w (rpS up E).1 (rpS up E).2 = R := ⟨_, rfl⟩
  have HFIN : Hid (∀ v z b A' n' c' B' m' d', g + 1 ≤ b → Below g w v → g < v.heap.size → OwnS v b A' n' c' B' m' d' (rpS up E).1 (rpS up E).2 → Turns g g v z → R (.returned (.agg #[.slice A' n' c', .slice B' m' d'])) z) := fun v z b A' n' c' B' m' d' k0 k1 k2 k3 k4 => by
    rw [← hR]
    exact ⟨_, _, _, _, _, _, rfl, (k3.turn k4 k0).mono (by omega), by rw [hg]; exact k1.trans (turn_below k4 (Nat.le_refl _) (Nat.le_of_lt k2))⟩
  rw [hR]
  clear h hn hR hg
  go_enter Try.func11, Try.ntmps11
  go_wp2_with (first
    | ((with_reducible show wpList _ _ _ (⟨some 4, .alloc _, _, _, _, _⟩ :: _) _ _); refine wpList_alloc_var (o := ⟨some 4, _, _, _, _, _⟩) rfl 25 rfl g HG.out _ HZ.out ?_; intro v1 X4 B4; obtain ⟨g5, hg5⟩ : ∃ z, v1.heap.size = z := ⟨_, rfl⟩; have HG5 := Lib.hid hg5; have HL5 : Hid (g < g5) := (by rw [← hg5]; exact lt_of_heap X4.out); clear hg5)
    | ((with_reducible show wpList _ _ _ (⟨some 5, .alloc _, _, _, _, _⟩ :: _) _ _); refine wpList_alloc_var (o := ⟨some 5, _, _, _, _, _⟩) rfl 25 rfl g5 HG5.out _ HZ.out ?_; intro v2 X5 B5)
    | fail)
  have HX42 := Lib.hid ((B5.out.block g HL5.out).trans X4.out)
  have HBV : Hid (Below g w v2) := B4.out.trans (B5.out.mono (Nat.le_of_lt HL5.out))
  have HRV : Hid (RE.Row v2 A E) := HR.out.below (HG.out.symm ▸ HBV.out)
  have HLV : Hid (g5 < v2.heap.size) := lt_of_heap X5.out
  have HOV : Hid (OwnS v2 (g5 + 1) none 0 0 none 0 0 [] []) := ⟨World.ownsRow_nil _ _ _ _, World.ownsRow_nil _ _ _ _, rfl, rfl⟩
  have HAA : Hid (∀ b off, 0 < E.length → A = some ⟨b, off, none⟩ → b < g) := fun b off hpos e => by
    obtain ⟨b2, off2, e2, hlt, _⟩ := HR.out.2 hpos
    rw [e] at e2
    cases e2
    have := HG.out
    omega
  go_loopg [6] n (fun gk s6 wx => ∃ (i : Nat) (A9 : Option Addr) (n9 c9 : Nat) (B9 : Option Addr) (m9 d9 : Nat), i + gk = n ∧ s6 = .int .i64 i ∧ Hid (wx.heap[g5]? = some (.cells #[.slice A9 n9 c9, .slice B9 m9 d9] 25 (0, 0))) ∧ Hid (OwnS wx (g5 + 1) A9 n9 c9 B9 m9 d9 (rpS up (E.take i)).1 (rpS up (E.take i)).2) ∧ Hid (Below g5 v2 wx))
  case atStart => exact ⟨0, none, 0, 0, none, 0, 0, by omega, rfl, X5, HOV, Below.refl _ _⟩
  case round =>
    obtain ⟨i, A9, n9, c9, B9, m9, d9, hig, rfl, HXr, HOr, HW⟩ := hrel
    obtain ⟨q0, q1⟩ := cells2 HXr.out
    have HX4r := Lib.hid ((HW.out.block g HL5.out).trans HX42.out)
    have HRr : Hid (RE.Row wr A E) := ⟨HRV.out.1, fun hpos => by
      obtain ⟨b2, off2, e2, _, hc2⟩ := HR.out.2 hpos
      have hb2 := HAA.out b2 off2 hpos e2
      obtain ⟨b3, off3, e3, hlt3, hc3⟩ := HRV.out.2 hpos
      rw [e3] at e2
      cases e2
      have h5 := HL5.out
      exact ⟨b2, off2, e3, Nat.lt_of_lt_of_le hlt3 HW.out.size, fun ii xx hx jj vv hv => (HW.out.cell (p := ⟨b2, off2 + ii * RE.k + jj, none⟩) (show b2 < g5 by omega)).trans (hc3 ii xx hx jj vv hv)⟩⟩
    have HLr : Hid (g5 < wr.heap.size) := lt_of_heap HXr.out
    cases gk with
    | zero =>
      obtain rfl : i = n := by omega
      have hii : ¬ (i : Int) < (i : Int) := by omega
      have HTK : Hid (E.take i = E) := by rw [← HN.out]; exact List.take_length
      rw [HTK.out] at HOr
      go_wp2_with (first
        | ((with_reducible show wpList _ _ _ (⟨none, .store _ (.tmp 4) _, _, _, _, _⟩ :: _) _ _); refine wpList_store_only (o := ⟨none, .store 25 (.tmp 4) (.tmp 26), _, _, _, _⟩) rfl _ _ _ rfl rfl g #[.slice A9 n9 c9, .slice B9 m9 d9] rfl rfl 25 _ HX4r.out size_shelf rfl (onesV _ _ _ _ _ _) ?_; intro v9 X9 T9)
        | fail)
      refine bodyPost_ret (results_v1 (cs := [.slice A9 n9 c9, .slice B9 m9 d9]) rfl Try.underlying25 rfl X9.out size_shelf) rfl ?_
      exact HFIN.out _ _ _ _ _ _ _ _ _ (Nat.succ_le_succ (Nat.le_of_lt HL5.out)) (HBV.out.trans (HW.out.mono (Nat.le_of_lt HL5.out))) (Nat.lt_trans HL5.out HLr.out) HOr.out T9.out
    | succ gk =>
      have hii : (i : Int) < (n : Int) := by omega
      have hi0 : (0 : Int) ≤ (i : Int) := by omega
      obtain ⟨x, hx⟩ : ∃ x, E[i]? = some x := ⟨_, List.getElem?_eq_getElem (by have := HN.out; omega)⟩
      obtain ⟨b1, o1, e1, hb1, k0, k1, k2, k3, k4, k5, k6⟩ := effAt HRr.out hx
      subst e1
      have HS := Lib.hid (rpS_take (up := up) hx)
      have HLN : Hid ((rpS up (E.take i)).1.length ≤ 1000 ∧ (rpS up (E.take i)).2.length ≤ 1000) := by
        have h1 := rpS_len up (E.take i)
        rw [List.length_take] at h1
        exact ⟨by omega, by omega⟩
      clear hx
      cases hz : decide (x.ep ≤ up) with
      | false =>
        have hzz : ¬ x.ep ≤ up := of_decide_eq_false hz
        have HE : Hid (rpS up (E.take (i + 1)) = rpS up (E.take i)) := by rw [HS.out]; unfold stE; rw [hz]; rfl
        go_wp2
        go_roundg gk
        case measure => omega
        case rel => exact ⟨i + 1, A9, n9, c9, B9, m9, d9, by omega, by go_num, HXr, by show OwnS _ _ _ _ _ _ _ _ _ _; rw [HE.out]; exact HOr.out, HW⟩
      | true =>
        have hzz : x.ep ≤ up := of_decide_eq_true hz
        have HE : Hid (rpS up (E.take (i + 1)) = (efL x (rpS up (E.take i)).1, efQ x (rpS up (E.take i)).2)) := by rw [HS.out]; unfold stE; rw [hz]; rfl
        have HDO : Hid (Calls Try.prog 8 #[.agg #[.slice A9 n9 c9, .slice B9 m9 d9], .agg #[.int .i64 x.kd, .string x.key, .string x.val, .int .u64 x.id, .int .u64 x.ver, .int .u64 x.ep, .int .i64 x.gp]] wr.drew (RDoTo wr.drew (g5 + 1) (efL x (rpS up (E.take i)).1) (efQ x (rpS up (E.take i)).2))) := rdo15_any (HOr.out.below (Below.refl _ _).drew) HLr.out (by have := HLN.out.1; omega) (by have := HLN.out.2; omega) x
        clear hz
        go_wp2
        go_region_with (go_at_call 8; refine HDO.out.mono ?_; rintro e W ⟨A3, n3, c3, B3, m3, d3, rfl, kk1, kk2⟩; have HK1 := Lib.hid kk1; have HK2 : Hid (Below wr.heap.size wr W) := (Below.refl _ _).drew.trans kk2; have HX5w := Lib.hid ((HK2.out.block g5 HLr.out).trans HXr.out); clear kk1 kk2; obtain ⟨s0, s1⟩ := cells2 HX5w.out; have f0 : W.frozen? ⟨g5, 0, none⟩ = false := (by have hh := HX5w.out; simp [World.frozen?, hh]); have f1 : W.frozen? ⟨g5, 1, none⟩ = false := (by have hh := HX5w.out; simp [World.frozen?, hh]))
        all_goals
          go_wp2
          go_roundg gk
          case measure => omega
          case rel =>
            have hs := set2 (a := .slice A3 n3 c3) (b := .slice B3 m3 d3) HX5w.out
            have hk : ∀ k, k ≠ g5 → ((W.setCell ⟨g5, 0, none⟩ (.slice A3 n3 c3)).setCell ⟨g5, 1, none⟩ (.slice B3 m3 d3)).heap[k]? = W.heap[k]? := fun k hk => by
              rw [Below.heap_setCell _ _ _ _ hk, Below.heap_setCell _ _ _ _ hk]
            refine ⟨i + 1, A3, n3, c3, B3, m3, d3, by omega, by go_num, hs, ?_, ((HW.out.trans (HK2.out.mono (Nat.le_of_lt HLr.out))).setCell (Nat.le_refl _) _).setCell (Nat.le_refl _) _⟩
            show OwnS _ _ _ _ _ _ _ _ _ _
            rw [HE.out]
            exact ⟨own_same HK1.out.o1 (fun k e => hk k (fun e2 => by have := own_ge HK1.out.o1 k e; omega)), own_same HK1.out.o2 (fun k e => hk k (fun e2 => by have := own_ge HK1.out.o2 k e; omega)), HK1.out.n1, HK1.out.n2⟩

end Go.Proofs.Ytpmgnhijiodbaaa
