/-
  Proved here: the chapter's own Apply of any call; a store written over; what regions with calls leave.
  Conditions: rows of at most 300,000.
-/
import Derived.Test.YtimpigponjkfkaaRefB15
import Derived.Test.YtimpigponjkfkaaGot15
import Derived.Deep.CutRange
namespace Go.Proofs.Ytimpigponjkfkaa
open Go Go.RowKit
set_option maxRecDepth 100000

/-- What 't, b := Apply(..)' of the chapter's own leaves behind w, in any order. -/
def GotR (w : World) (A : Option Addr) (n : Nat) (B : Option Addr) (m : Nat) (L' : List Kv) (Q' : List ByteArray) (f : Bool) (s9 s10 : Value) (wx : World) : Prop :=
  ∃ gS gA A' n' c' B' m' d' cd v A2 n2 c2 B2 m2 d2, s9 = .pointer (some ⟨gS, 0, none⟩) ∧ s10 = .pointer (some ⟨gA, 0, none⟩) ∧ wx.heap[gS]? = some (.cells #[.slice A' n' c', .slice B' m' d'] 29 (0, 0)) ∧ wx.heap[gA]? = some (.cells #[.int .i64 cd, .bool f, .string v, .slice A2 n2 c2, .slice B2 m2 d2, .int .u64 0] 40 (0, 0)) ∧
    Shv wx A' n' c' B' m' d' L' Q' ∧ (∀ lo hi, hi ≤ w.heap.size → Apt A n lo hi → Apt A' n' lo hi) ∧ (∀ lo hi, hi ≤ w.heap.size → Apt B m lo hi → Apt B' m' lo hi) ∧ w.heap.size ≤ gS ∧ w.heap.size ≤ gA ∧ Below w.heap.size w wx
theorem Rec.Row.far {α : Type} {R : Rec α} {w w' : World} {A : Option Addr} {l : List α} {n lo hi gS gA : Nat} (h : R.Row w A l) (hn : l.length = n) (ha : Apt A n lo hi) (hs : Stay (fun k => k = gS ∨ k = gA) w w') (h1 : (lo ≤ gS ∧ gS < hi) ∨ w.heap.size ≤ gS) (h2 : (lo ≤ gA ∧ gA < hi) ∨ w.heap.size ≤ gA) : R.Row w' A l := by
  rcases Nat.eq_zero_or_pos n with h0 | h0
  · obtain rfl : l = [] := List.eq_nil_of_length_eq_zero (by omega)
    exact R.row_nil _ _
  · exact h.same hs.size (fun x hx hb => hs.block _ (fun e => by rcases ha h0 x hx with k | k <;> rcases e with e | e <;> omega) hb)
section
variable {w x1 wx : World} {L' : List Kv} {Q' : List ByteArray} {cd : Int} {f : Bool} {v : ByteArray} {A : Option Addr} {n : Nat} {B : Option Addr} {m : Nat} {A' : Option Addr} {n' c' : Nat} {B' : Option Addr} {m' d' : Nat} {A2 : Option Addr} {n2 c2 : Nat} {B2 : Option Addr} {m2 d2 : Nat}
theorem gotr_mk {B0 gS gA : Nat} (hv : Shv x1 A' n' c' B' m' d' L' Q') (pA : ∀ lo hi, hi ≤ B0 → Apt A n lo hi → Apt A' n' lo hi) (pB : ∀ lo hi, hi ≤ B0 → Apt B m lo hi → Apt B' m' lo hi) (aA : ∀ hi, Apt A n w.heap.size hi) (aB : ∀ hi, Apt B m w.heap.size hi) (hB0 : w.heap.size ≤ B0)
    (hb : Below w.heap.size w x1) (hst : Stay (fun k => k = gS ∨ k = gA) x1 wx) (hS : wx.heap[gS]? = some (.cells #[.slice A' n' c', .slice B' m' d'] 29 (0, 0))) (hA : wx.heap[gA]? = some (.cells #[.int .i64 cd, .bool f, .string v, .slice A2 n2 c2, .slice B2 m2 d2, .int .u64 0] 40 (0, 0)))
    (h1 : gS < B0 ∨ x1.heap.size ≤ gS) (h2 : gA < B0 ∨ x1.heap.size ≤ gA) (h3 : w.heap.size ≤ gS) (h4 : w.heap.size ≤ gA) (_ : gS ≠ gA) :
    GotR w A n B m L' Q' f (.pointer (some ⟨gS, 0, none⟩)) (.pointer (some ⟨gA, 0, none⟩)) wx :=
  ⟨gS, gA, A', n', c', B', m', d', cd, v, A2, n2, c2, B2, m2, d2, rfl, rfl, hS, hA, ⟨hv.r1.far hv.n1 (pA w.heap.size B0 (Nat.le_refl _) (aA B0)) hst (h1.imp (fun e => ⟨h3, e⟩) id) (h2.imp (fun e => ⟨h4, e⟩) id), hv.r2.far hv.n2 (pB w.heap.size B0 (Nat.le_refl _) (aB B0)) hst (h1.imp (fun e => ⟨h3, e⟩) id) (h2.imp (fun e => ⟨h4, e⟩) id), hv.n1, hv.n2, hv.z1, hv.z2⟩,
    fun lo hi h => pA lo hi (Nat.le_trans h hB0), fun lo hi h => pB lo hi (Nat.le_trans h hB0), h3, h4, hb.trans (hst.below (fun k hk => by rcases hk with e | e <;> omega) hb.size)⟩
theorem gotr_1 (hv : Shv x1 A' n' c' B' m' d' L' Q') (pA : ∀ lo hi, hi ≤ w.heap.size → Apt A n lo hi → Apt A' n' lo hi) (pB : ∀ lo hi, hi ≤ w.heap.size → Apt B m lo hi → Apt B' m' lo hi) (aA : ∀ hi, Apt A n w.heap.size hi) (aB : ∀ hi, Apt B m w.heap.size hi) (hb : Below w.drew.heap.size w.drew x1) :
    GotR w A n B m L' Q' f (.pointer (some ⟨x1.heap.size, 0, none⟩)) (.pointer (some ⟨x1.heap.size + 1, 0, none⟩)) ((x1.alloc (objS (.slice A' n' c') (.slice B' m' d'))).alloc (objA (.int .i64 cd) (.bool f) (.string v) (.slice A2 n2 c2) (.slice B2 m2 d2) (.int .u64 0))) :=
  gotr_mk hv pA pB aA aB (Nat.le_refl _) ((got_b (.inl rfl)).trans hb) ((alloc_stay _ _).trans (alloc_stay _ _)) (alloc_old (heap_alloc_new _ _)) (alloc_two _ _ _) (.inr (Nat.le_refl _)) (.inr (Nat.le_succ _)) hb.size (Nat.le_succ_of_le hb.size) (by omega)
theorem gotr_2 (hv : Shv x1 A' n' c' B' m' d' L' Q') (pA : ∀ lo hi, hi ≤ w.heap.size → Apt A n lo hi → Apt A' n' lo hi) (pB : ∀ lo hi, hi ≤ w.heap.size → Apt B m lo hi → Apt B' m' lo hi) (aA : ∀ hi, Apt A n w.heap.size hi) (aB : ∀ hi, Apt B m w.heap.size hi) (hb : Below w.drew.heap.size w.drew x1) :
    GotR w A n B m L' Q' f (.pointer (some ⟨x1.heap.size + 1, 0, none⟩)) (.pointer (some ⟨x1.heap.size, 0, none⟩)) ((x1.alloc (objA (.int .i64 cd) (.bool f) (.string v) (.slice A2 n2 c2) (.slice B2 m2 d2) (.int .u64 0))).alloc (objS (.slice A' n' c') (.slice B' m' d'))) :=
  gotr_mk hv pA pB aA aB (Nat.le_refl _) ((got_b (.inl rfl)).trans hb) ((alloc_stay _ _).trans (alloc_stay _ _)) (alloc_two _ _ _) (alloc_old (heap_alloc_new _ _)) (.inr (Nat.le_succ _)) (.inr (Nat.le_refl _)) (Nat.le_succ_of_le hb.size) hb.size (by omega)
theorem gotr_3 (hv : Shv x1 A' n' c' B' m' d' L' Q') (pA : ∀ lo hi, hi ≤ (w.drew.alloc S0).heap.size → Apt A n lo hi → Apt A' n' lo hi) (pB : ∀ lo hi, hi ≤ (w.drew.alloc S0).heap.size → Apt B m lo hi → Apt B' m' lo hi) (aA : ∀ hi, Apt A n w.heap.size hi) (aB : ∀ hi, Apt B m w.heap.size hi) (hb : Below (w.drew.alloc S0).heap.size (w.drew.alloc S0) x1) :
    GotR w A n B m L' Q' f (.pointer (some ⟨w.heap.size, 0, none⟩)) (.pointer (some ⟨x1.heap.size, 0, none⟩)) ((wrS x1 w.heap.size (.slice A' n' c') (.slice B' m' d')).alloc (objA (.int .i64 cd) (.bool f) (.string v) (.slice A2 n2 c2) (.slice B2 m2 d2) (.int .u64 0))) := by
  have hz := hb.size
  have he : (w.drew.alloc S0).heap.size = w.heap.size + 1 := by simp
  exact gotr_mk hv pA pB aA aB (by omega) ((got_b (.inr (.inl rfl))).trans (hb.mono (by omega))) ((stayL (wrS_stay _ _ _ _)).trans (alloc_stay _ _)) (alloc_old (wrS_at (got_w2 hb))) (by have := heap_alloc_new (wrS x1 w.heap.size (.slice A' n' c') (.slice B' m' d')) (objA (.int .i64 cd) (.bool f) (.string v) (.slice A2 n2 c2) (.slice B2 m2 d2) (.int .u64 0)); rw [wrS_size] at this; exact this) (.inl (by omega)) (.inr (Nat.le_refl _)) (Nat.le_refl _) (by omega) (by omega)
theorem gotr_4 (hv : Shv x1 A' n' c' B' m' d' L' Q') (pA : ∀ lo hi, hi ≤ ((w.drew.alloc S0).alloc A0).heap.size → Apt A n lo hi → Apt A' n' lo hi) (pB : ∀ lo hi, hi ≤ ((w.drew.alloc S0).alloc A0).heap.size → Apt B m lo hi → Apt B' m' lo hi) (aA : ∀ hi, Apt A n w.heap.size hi) (aB : ∀ hi, Apt B m w.heap.size hi) (hb : Below ((w.drew.alloc S0).alloc A0).heap.size ((w.drew.alloc S0).alloc A0) x1) :
    GotR w A n B m L' Q' f (.pointer (some ⟨w.heap.size, 0, none⟩)) (.pointer (some ⟨w.heap.size + 1, 0, none⟩)) (wrA (wrS x1 w.heap.size (.slice A' n' c') (.slice B' m' d')) (w.heap.size + 1) (.int .i64 cd) (.bool f) (.string v) (.slice A2 n2 c2) (.slice B2 m2 d2) (.int .u64 0)) := by
  have hz := hb.size
  have he : ((w.drew.alloc S0).alloc A0).heap.size = w.heap.size + 2 := by simp
  have hl : w.heap.size < x1.heap.size := by omega
  have hl2 : w.heap.size + 1 < x1.heap.size := by omega
  exact gotr_mk hv pA pB aA aB (by omega) ((got_b (.inr (.inr (.inr (.inl rfl))))).trans (hb.mono (by omega))) ((stayL (wrS_stay _ _ _ _)).trans (stayR (wrA_stay _ _ _ _ _ _ _ _))) (((wrA_stay _ _ _ _ _ _ _ _).block _ (by omega) (by rw [wrS_size]; exact hl)).trans (wrS_at (got_w4 hb).1)) (wrA_at (((wrS_stay _ _ _ _).block _ (by omega) hl2).trans (got_w4 hb).2)) (.inl (by omega)) (.inl (by omega)) (Nat.le_refl _) (by omega) (by omega)
theorem gotr_5 (hv : Shv x1 A' n' c' B' m' d' L' Q') (pA : ∀ lo hi, hi ≤ (w.drew.alloc A0).heap.size → Apt A n lo hi → Apt A' n' lo hi) (pB : ∀ lo hi, hi ≤ (w.drew.alloc A0).heap.size → Apt B m lo hi → Apt B' m' lo hi) (aA : ∀ hi, Apt A n w.heap.size hi) (aB : ∀ hi, Apt B m w.heap.size hi) (hb : Below (w.drew.alloc A0).heap.size (w.drew.alloc A0) x1) :
    GotR w A n B m L' Q' f (.pointer (some ⟨x1.heap.size, 0, none⟩)) (.pointer (some ⟨w.heap.size, 0, none⟩)) ((wrA x1 w.heap.size (.int .i64 cd) (.bool f) (.string v) (.slice A2 n2 c2) (.slice B2 m2 d2) (.int .u64 0)).alloc (objS (.slice A' n' c') (.slice B' m' d'))) := by
  have hz := hb.size
  have he : (w.drew.alloc A0).heap.size = w.heap.size + 1 := by simp
  exact gotr_mk hv pA pB aA aB (by omega) ((got_b (.inr (.inr (.inl rfl)))).trans (hb.mono (by omega))) ((stayR (wrA_stay _ _ _ _ _ _ _ _)).trans (alloc_stay _ _)) (by have := heap_alloc_new (wrA x1 w.heap.size (.int .i64 cd) (.bool f) (.string v) (.slice A2 n2 c2) (.slice B2 m2 d2) (.int .u64 0)) (objS (.slice A' n' c') (.slice B' m' d')); rw [wrA_size] at this; exact this) (alloc_old (wrA_at (got_w3 hb))) (.inr (Nat.le_refl _)) (.inl (by omega)) (by omega) (Nat.le_refl _) (by omega)
theorem gotr_6 (hv : Shv x1 A' n' c' B' m' d' L' Q') (pA : ∀ lo hi, hi ≤ ((w.drew.alloc A0).alloc S0).heap.size → Apt A n lo hi → Apt A' n' lo hi) (pB : ∀ lo hi, hi ≤ ((w.drew.alloc A0).alloc S0).heap.size → Apt B m lo hi → Apt B' m' lo hi) (aA : ∀ hi, Apt A n w.heap.size hi) (aB : ∀ hi, Apt B m w.heap.size hi) (hb : Below ((w.drew.alloc A0).alloc S0).heap.size ((w.drew.alloc A0).alloc S0) x1) :
    GotR w A n B m L' Q' f (.pointer (some ⟨w.heap.size + 1, 0, none⟩)) (.pointer (some ⟨w.heap.size, 0, none⟩)) (wrA (wrS x1 (w.heap.size + 1) (.slice A' n' c') (.slice B' m' d')) w.heap.size (.int .i64 cd) (.bool f) (.string v) (.slice A2 n2 c2) (.slice B2 m2 d2) (.int .u64 0)) := by
  have hz := hb.size
  have he : ((w.drew.alloc A0).alloc S0).heap.size = w.heap.size + 2 := by simp
  have hl : w.heap.size < x1.heap.size := by omega
  have hl2 : w.heap.size + 1 < x1.heap.size := by omega
  exact gotr_mk hv pA pB aA aB (by omega) ((got_b (.inr (.inr (.inr (.inr rfl))))).trans (hb.mono (by omega))) ((stayL (wrS_stay _ _ _ _)).trans (stayR (wrA_stay _ _ _ _ _ _ _ _))) (((wrA_stay _ _ _ _ _ _ _ _).block _ (by omega) (by rw [wrS_size]; exact hl2)).trans (wrS_at (got_w5 hb).2)) (wrA_at (((wrS_stay _ _ _ _).block _ (by omega) hl).trans (got_w5 hb).1)) (.inl (by omega)) (.inl (by omega)) (by omega) (Nat.le_refl _) (by omega)
end
section
variable {g g3 g4 g5 g6 : Nat} {w x y : World} {c : Cal} {A : Option Addr} {n cc : Nat} {B : Option Addr} {m d : Nat} {L : List Kv} {Q : List ByteArray} {a0 a1 a2 a3 a4 a5 : Value}
/-- One hit more of a group's answer. -/
theorem RW.hit {A9 : Option Addr} {k9 c9 : Nat} {H : List Bool} (h : RW g g3 g4 g5 g6 w c A n cc B m d L Q a0 a1 a2 a3 (.slice A9 k9 c9) a5 x) (ho : x.ownsRow (g6 + 1) RB.tE RB.k (.slice A9 k9 c9) k9 (RB.enc H)) (hm : H.length = k9) (hl : k9 < 1000000) (ha : ∀ k, (Value.slice A9 k9 c9).ownBlock = some k → Apt A n k (k + 1) ∧ Apt B m k (k + 1)) (b : Bool) :
    ∃ A' c' W, (Builtin.append_ #[37, 37] 37 #[.slice A9 k9 c9, .slice (some ⟨x.heap.size, 0, none⟩) 1 1]).run Try.prog (x.alloc (.cells #[.bool b] 4)) = .ok (.slice A' (k9 + 1) c') W ∧ W.cell? ⟨g6, 4, none⟩ = some (.slice A9 k9 c9) ∧ W.frozen? ⟨g6, 4, none⟩ = false ∧
      RW g g3 g4 g5 g6 w c A n cc B m d L Q a0 a1 a2 a3 (.slice A' (k9 + 1) c') a5 (W.setCell ⟨g6, 4, none⟩ (.slice A' (k9 + 1) c')) ∧ (W.setCell ⟨g6, 4, none⟩ (.slice A' (k9 + 1) c')).ownsRow (g6 + 1) RB.tE RB.k (.slice A' (k9 + 1) c') (k9 + 1) (RB.enc (H ++ [b])) ∧ (∀ k, (Value.slice A' (k9 + 1) c').ownBlock = some k → Apt A n k (k + 1) ∧ Apt B m k (k + 1)) := by
  obtain ⟨u, W, e1, e2, e3, e4, _⟩ := RB.run_app_one x (g6 + 1) k9 _ H b ho (by omega) h.lt 37
  obtain ⟨_, A', c', rfl, _⟩ := Rec.row_of_own e2 (by rw [List.length_append, hm]; show k9 + 1 ≤ _; omega)
  have hst := Stay.of_grown e3
  have o1 := h.o1; have o2 := h.o2; have o3 := h.o3; have o4 := h.o4
  have hbk : ∀ k, k ≤ g6 → k < x.heap.size → W.heap[k]? = x.heap[k]? := fun k hk hl => hst.block k (fun e => by have := own_ge ho k e; omega) hl
  have hsh : Shv W A n cc B m d L Q := by
    cases hob : (Value.slice A9 k9 c9).ownBlock with
    | none => exact h.sh.keep (lo := 0) (hi := 0) (fun _ _ _ => .inr (Nat.zero_le _)) (fun _ _ _ => .inr (Nat.zero_le _)) (hst.mono (fun k _ e => by rw [hob] at e; cases e))
    | some k => exact h.sh.keep (ha k hob).1 (ha k hob).2 (hst.mono (fun j _ e => by rw [hob] at e; cases e; omega))
  have hbel : Below g w W := h.bel.trans (hst.below (fun k e => by have := own_ge ho k e; omega) (Nat.le_of_lt (lt_of_heap h.h2)))
  have h1 : RW g g3 g4 g5 g6 w c A n cc B m d L Q a0 a1 a2 a3 (.slice A9 k9 c9) a5 W := ⟨o1, o2, o3, o4, (hbk _ (by omega) (lt_of_heap h.h2)).trans h.h2, (hbk _ (by omega) (lt_of_heap h.h3)).trans h.h3, (hbk _ (by omega) (lt_of_heap h.h4)).trans h.h4, (hbk _ (by omega) (lt_of_heap h.h5)).trans h.h5, (hbk _ (by omega) (lt_of_heap h.h6)).trans h.h6, hsh, h.ap, h.aq, hbel⟩
  have hh := h1.h6
  refine ⟨A', c', W, e1, by simp [World.cell?, hh], by simp [World.frozen?, hh], h1.ans (Stay.setCell (S := fun k => k = g6) _ g6 4 _ rfl) (heap_setCell_same _ g6 4 _ _ _ h1.h6), own_same e2 (fun k hk => Below.heap_setCell _ _ _ _ (by have := own_ge e2 k hk; show k ≠ g6; omega)), fun k hk => ?_⟩
  rcases e4 with e | e
  · exact ha k (e.symm.trans hk)
  · rw [e] at hk
    cases hk
    refine ⟨fun hp z hz => ?_, fun hp z hz => ?_⟩
    · obtain ⟨b1, o, e, hlt, _⟩ := h.sh.r1.2 (by rw [h.sh.n1]; exact hp)
      rw [hz] at e; cases e
      exact .inl (Nat.lt_succ_of_lt hlt)
    · obtain ⟨b1, o, e, hlt, _⟩ := h.sh.r2.2 (by rw [h.sh.n2]; exact hp)
      rw [hz] at e; cases e
      exact .inl (Nat.lt_succ_of_lt hlt)
end
/-- The chapter's own Apply of a member of a good group. -/
theorem rap_mem {v : World} {A B : Option Addr} {n cc m d : Nat} {L0 : List Kv} {Q0 : List ByteArray} {c : Cal} {G : List Cal} {i : Nat} {x : Cal} (h : Shv v A n cc B m d (gL (G.take i) L0) (gQ (G.take i) Q0)) (hl : (gL (G.take i) L0).length < 400000) (hq : (gQ (G.take i) Q0).length < 900000) (hx : G[i]? = some x) (hg : goodN { c with kd := 7 } G = 0) (hG : Grp v { c with kd := 7 } G) :
    Calls Try.prog 20 #[.agg #[.slice A n cc, .slice B m d], .agg #[.int .i64 x.kd, .string x.key, .string x.val, .string x.to_, .slice x.ga x.gn x.gc]] v (RApTo v A n B m (gL (G.take (i + 1)) L0) (gQ (G.take (i + 1)) Q0) 0 (fnd x (gL (G.take i) L0) (gQ (G.take i) Q0)) ⟨#[]⟩ [] []) := by
  have hm := List.mem_of_getElem? hx
  obtain ⟨g1, g2⟩ := mem_good hg rfl hm
  have hup : grpUp G G.length = true := by
    have hf := good_kind hg
    have hb : grpB G = true := hf
    unfold grpB at hb
    simp only [Bool.and_eq_true] at hb
    exact hb.2
  have hk := mem_kind hup hx
  have hgr : Grp v x [] := grp_flat v (hG.flat x hm)
  rw [gL_succ hx, gQ_succ hx]
  obtain ⟨kd, key, val, to_, ga, gn, gc⟩ := x
  rcases hk with e | e | e
  · obtain rfl : kd = 2 := e
    exact rap_2 h hl hq key val to_ ga gn gc [] hgr g1
  · obtain rfl : kd = 3 := e
    exact rap_3 h (by omega) hq key val to_ ga gn gc [] hgr g1
  · obtain rfl : kd = 4 := e
    exact rap_4 h hq key val to_ ga gn gc [] hgr g1
set_option maxHeartbeats 6400000 in
theorem rap_7 {w : World} {A B : Option Addr} {n cc m d : Nat} {L : List Kv} {Q : List ByteArray} (h : Shv w A n cc B m d L Q) (hl : L.length < 300000) (hq : Q.length < 300000) (key val to_ : ByteArray) (ga : Option Addr) (gn gc : Nat) (G : List Cal) (hG : Grp w ⟨7, key, val, to_, ga, gn, gc⟩ G) (hgd : goodN ⟨7, key, val, to_, ga, gn, gc⟩ G = 0) : Calls Try.prog 20 #[.agg #[.slice A n cc, .slice B m d], .agg #[.int .i64 7, .string key, .string val, .string to_, .slice ga gn gc]] w (RApTo w A n B m (gL G L) (gQ G Q) 0 false ⟨#[]⟩ [] (hitsG G L Q)) := by
  obtain ⟨g, hg⟩ : ∃ g, w.heap.size = g := ⟨_, rfl⟩
  obtain ⟨w1, hw1⟩ : ∃ w1, w.alloc (.cells #[.slice A n cc, .slice B m d] 29) = w1 := ⟨_, rfl⟩
  have HX : Hid (w1.heap[g]? = some (.cells #[.slice A n cc, .slice B m d] 29 (0, 0))) := by rw [← hw1, ← hg]; exact heap_alloc_new w _
  have HB1 : Hid (Below g w w1) := by rw [← hw1, ← hg]; exact (Below.refl _ _).alloc (Nat.le_refl _) _
  obtain ⟨g3, hg3⟩ : ∃ z, w1.heap.size = z := ⟨_, rfl⟩
  obtain ⟨w2, hw2⟩ : ∃ w2, w1.alloc (.cells #[.int .i64 7, .string key, .string val, .string to_, .slice ga gn gc] 24) = w2 := ⟨_, rfl⟩
  have HX3 : Hid (w2.heap[g3]? = some (.cells #[.int .i64 7, .string key, .string val, .string to_, .slice ga gn gc] 24 (0, 0))) := by rw [← hw2, ← hg3]; exact heap_alloc_new w1 _
  have HB2 : Hid (Below g3 w1 w2) := by rw [← hw2, ← hg3]; exact (Below.refl _ _).alloc (Nat.le_refl _) _
  have HL3 : Hid (g < g3) := hg3 ▸ lt_of_heap HX.out
  obtain ⟨g4, hg4⟩ : ∃ z, w2.heap.size = z := ⟨_, rfl⟩
  have HG4 := Lib.hid hg4
  have HL4 : Hid (g3 < g4) := hg4 ▸ lt_of_heap HX3.out
  have HZS := Lib.hid zero_shelf
  have HZA := Lib.hid zero_answer
  have HSV : Hid (∀ v, Below g w v → Shv v A n cc B m d L Q) := fun v hv => h.below (hg.symm ▸ hv)
  have HGR : Hid (∀ v, Below g w v → Grp v ⟨7, key, val, to_, ga, gn, gc⟩ G) := fun v hv => hG.below (hg.symm ▸ hv)
  have HGO : Hid (∀ v, Below g w v → Calls Try.prog 16 #[.agg #[.int .i64 7, .string key, .string val, .string to_, .slice ga gn gc]] v fun e w' => e = .returned (.int .i64 (goodN ⟨7, key, val, to_, ga, gn, gc⟩ G)) ∧ Below v.heap.size v w') := fun v hv => rgood_any ⟨7, key, val, to_, ga, gn, gc⟩ G v (HGR.out v hv)
  have HAO : Hid (∀ hi, Apt A n g hi ∧ Apt B m g hi) := fun hi => hg ▸ ⟨Apt.old h.r1 h.n1, Apt.old h.r2 h.n2⟩
  have HG0 := Lib.hid hg
  obtain ⟨R, hR⟩ : ∃ R, RApTo w A n B m (gL G L) (gQ G Q) 0 false ⟨#[]⟩ [] (hitsG G L Q) = R := ⟨_, rfl⟩
  have HFIN : Hid (∀ g3 g4 g5 g6 A1 n1 c1 B1 m1 d1 a0 a1 a2 a3 a4 a5 A2 n2 c2 B2 m2 d2 x W, RW g g3 g4 g5 g6 w ⟨7, key, val, to_, ga, gn, gc⟩ A1 n1 c1 B1 m1 d1 (gL G L) (gQ G Q) a0 a1 a2 a3 a4 a5 x → (∀ lo hi, hi ≤ g → Apt A n lo hi → Apt A1 n1 lo hi) → (∀ lo hi, hi ≤ g → Apt B m lo hi → Apt B1 m1 lo hi) → RP.Row x A2 [] → List.length [] = n2 → Apt A2 n2 g (g6 + 1) → RB.Row x B2 (hitsG G L Q) → List.length (hitsG G L Q) = m2 → Apt B2 m2 g (g6 + 1) → Stay (fun k => k = g4 ∨ k = g5) x W → R (.returned (.tuple #[.agg #[.slice A1 n1 c1, .slice B1 m1 d1], .agg #[.int .i64 0, .bool false, .string ⟨#[]⟩, .slice A2 n2 c2, .slice B2 m2 d2, .int .u64 0]])) W) := fun g3 g4 g5 g6 A1 n1 c1 B1 m1 d1 a0 a1 a2 a3 a4 a5 A2 n2 c2 B2 m2 d2 x W k1 k2 k3 k4 k5 k6 k7 k8 k9 k10 => by
    rw [← hR]
    exact rap_end k1 HG0.out k2 k3 k4 k5 k6 k7 k8 k9 k10
  have HAI : Hid (∀ lo hi, hi ≤ g → Apt A n lo hi → Apt A n lo hi) := fun _ _ _ h => h
  have HBI : Hid (∀ lo hi, hi ≤ g → Apt B m lo hi → Apt B m lo hi) := fun _ _ _ h => h
  have HLN : Hid (G.length = gn) := hG.len
  have HG3 : Hid (G.length ≤ 3) := by
    have hf := good_kind hgd
    unfold formC at hf
    have hb : grpB G = true := hf
    unfold grpB at hb
    simp only [Bool.and_eq_true, decide_eq_true_eq] at hb
    exact hb.1.2
  have HLL : Hid (∀ i, (gL (G.take i) L).length ≤ 1048576 ∧ (gQ (G.take i) Q).length ≤ 1048576 ∧ (gL (G.take i) L).length < 400000 ∧ (gQ (G.take i) Q).length < 900000) := fun i => by
    have h1 := gL_len (G.take i) L
    have h2 := gQ_len (G.take i) Q
    rw [List.length_take] at h1 h2
    have h3 := HG3.out
    exact ⟨by omega, by omega, by omega, by omega⟩
  have HAM : Hid (∀ (v : World) (A1 : Option Addr) (n1 c1 : Nat) (B1 : Option Addr) (m1 d1 : Nat) (i : Nat) (x : Cal), G[i]? = some x → Below g w v → Shv v A1 n1 c1 B1 m1 d1 (gL (G.take i) L) (gQ (G.take i) Q) → Calls Try.prog 20 #[.agg #[.slice A1 n1 c1, .slice B1 m1 d1], .agg #[.int .i64 x.kd, .string x.key, .string x.val, .string x.to_, .slice x.ga x.gn x.gc]] v (RApTo v A1 n1 B1 m1 (gL (G.take (i + 1)) L) (gQ (G.take (i + 1)) Q) 0 (fnd x (gL (G.take i) L) (gQ (G.take i) Q)) ⟨#[]⟩ [] [])) := fun v A1 n1 c1 B1 m1 d1 i x hx hv hs => rap_mem (c := ⟨7, key, val, to_, ga, gn, gc⟩) hs (HLL.out i).2.2.1 (HLL.out i).2.2.2 hx hgd (HGR.out v hv)
  have HHT : Hid (∀ i x, G[i]? = some x → (hitsG G L Q).take (i + 1) = (hitsG G L Q).take i ++ [fnd x (gL (G.take i) L) (gQ (G.take i) Q)]) := fun i x hx => by
    rw [List.take_add_one, hits_at hx]
    rfl
  have HHL : Hid ((hitsG G L Q).length = G.length) := hits_len G L Q
  have HHI : Hid (∀ i, i ≤ gn → ((hitsG G L Q).take i).length = i) := fun i hi => by
    rw [List.length_take, HHL.out, HLN.out]
    exact Nat.min_eq_left hi
  have hgn : gn ≤ 3 := by have := HLN.out; have := HG3.out; omega
  have HGD := Lib.hid hgd
  rw [hR]
  obtain ⟨b0, b1⟩ := cells2 HX.out
  clear h hR hG hgd hg4 hl hq
  go_enter Try.func20, Try.ntmps20
  go_wp2_with (first
    | ((with_reducible show wpList _ _ _ (⟨some 4, .alloc _, _, _, _, _⟩ :: _) _ _); refine wpList_alloc_var (o := ⟨some 4, _, _, _, _, _⟩) rfl 29 rfl g4 HG4.out _ HZS.out ?_; intro v4 X4 B4; obtain ⟨g5, hg5⟩ : ∃ z, v4.heap.size = z := ⟨_, rfl⟩; have HG5 := Lib.hid hg5; have HL5 : Hid (g4 < g5) := hg5 ▸ lt_of_heap X4.out; clear hg5)
    | ((with_reducible show wpList _ _ _ (⟨some 5, .alloc _, _, _, _, _⟩ :: _) _ _); refine wpList_alloc_var (o := ⟨some 5, _, _, _, _, _⟩) rfl 40 rfl g5 HG5.out _ HZA.out ?_; intro v5 X5 B5; obtain ⟨g6, hg6⟩ : ∃ z, v5.heap.size = z := ⟨_, rfl⟩; have HG6 := Lib.hid hg6; have HL6 : Hid (g5 < g6) := hg6 ▸ lt_of_heap X5.out; clear hg6)
    | ((with_reducible show wpList _ _ _ (⟨some 6, .alloc _, _, _, _, _⟩ :: _) _ _); refine wpList_alloc_var (o := ⟨some 6, _, _, _, _, _⟩) rfl 40 rfl g6 HG6.out _ HZA.out ?_; intro v6 X6 B6; have HR6 : Hid (RW g g3 g4 g5 g6 w ⟨7, key, val, to_, ga, gn, gc⟩ A n cc B m d L Q _ _ _ _ _ _ v6) := rw_start HL3.out HL4.out HL5.out HL6.out HX.out HB1.out HX3.out HB2.out X4.out B4.out X5.out B5.out X6.out B6.out HSV.out (HAO.out _).1 (HAO.out _).2; clear b0 b1; obtain ⟨c0, c1, c2, c3, c4⟩ := cells5 HR6.out.h3)
    | fail)
  refine (HGO.out v6 HR6.out.bel).mono ?_
  clear hg hw1 hg3 hw2
  rintro e v7 ⟨rfl, hb⟩
  have HR7 := Lib.hid (HR6.out.below hb)
  clear hb c0 c1 c2 c3 c4
  rw [HGD.out]
  obtain ⟨p0, p1⟩ := cells2 HR7.out.h2
  obtain ⟨c0, c1, c2, c3, c4⟩ := cells5 HR7.out.h3
  go_wp2_with fail
  clear p0 p1 c0 c1 c2 c3 c4
  go_loopg [9, 10, 11] gn (fun gk s9 s10 s11 wx => ∃ (i : Nat) (A1 : Option Addr) (n1 c1 : Nat) (B1 : Option Addr) (m1 d1 : Nat) (A9 : Option Addr) (c9 : Nat), i + gk = gn ∧ s9 = .int .i64 i ∧ Hid (RW g g3 g4 g5 g6 w ⟨7, key, val, to_, ga, gn, gc⟩ A1 n1 c1 B1 m1 d1 (gL (G.take i) L) (gQ (G.take i) Q) (.int .i64 0) (.bool false) (.string ⟨#[]⟩) (.slice none 0 0) (.slice A9 i c9) (.int .u64 0) wx) ∧ Hid (wx.ownsRow (g6 + 1) RB.tE RB.k (.slice A9 i c9) i (RB.enc ((hitsG G L Q).take i))) ∧ Hid (∀ lo hi, hi ≤ g → Apt A n lo hi → Apt A1 n1 lo hi) ∧ Hid (∀ lo hi, hi ≤ g → Apt B m lo hi → Apt B1 m1 lo hi) ∧ Hid (∀ k, (Value.slice A9 i c9).ownBlock = some k → Apt A1 n1 k (k + 1) ∧ Apt B1 m1 k (k + 1)))
  case atStart => exact ⟨0, A, n, cc, B, m, d, none, 0, by omega, rfl, HR7, World.ownsRow_nil _ _ _ _, HAI.out, HBI.out, fun k e => by cases e⟩
  case round =>
    obtain ⟨i, A1, n1, c1, B1, m1, d1, A9, c9, hig, rfl, HRr, HOr, HPA, HPB, HAH⟩ := hrel
    obtain ⟨p0, p1⟩ := cells2 HRr.out.h2
    obtain ⟨-, -, -, -, c4⟩ := cells5 HRr.out.h3
    cases gk with
    | zero =>
      obtain rfl : i = gn := by omega
      have hii : ¬ (i : Int) < (i : Int) := by omega
      have HT1 : Hid (G.take i = G) := by show _ = _; rw [← HLN.out, List.take_length]
      have HT2 : Hid ((hitsG G L Q).take i = hitsG G L Q) := by show _ = _; rw [← HLN.out, ← HHL.out, List.take_length]
      rw [HT1.out] at HRr
      rw [HT2.out] at HOr
      have HHN : Hid ((hitsG G L Q).length = i) := HHL.out.trans HLN.out
      obtain ⟨-, _, _, ee, -, -, hrow, -, -⟩ := Rec.row_of_own HOr.out (by have := HHN.out; omega)
      cases ee
      have HRM := Lib.hid hrow
      clear hrow p0 p1
      obtain ⟨p0, p1⟩ := cells2 HRr.out.h2
      obtain ⟨z0, z1⟩ := cells2 HRr.out.h4
      obtain ⟨y0, y1, y2, y3, y4, y5⟩ := cells6 HRr.out.h5
      obtain ⟨q0, q1, q2, q3, q4, q5⟩ := cells6 HRr.out.h6
      have fzz0 : wr.frozen? ⟨g4, 0, none⟩ = false := (by { have hh := HRr.out.h4; simp [World.frozen?, hh] })
      have fzz1 : wr.frozen? ⟨g4, 1, none⟩ = false := (by { have hh := HRr.out.h4; simp [World.frozen?, hh] })
      have fzy0 : wr.frozen? ⟨g5, 0, none⟩ = false := (by { have hh := HRr.out.h5; simp [World.frozen?, hh] })
      have fzy1 : wr.frozen? ⟨g5, 1, none⟩ = false := (by { have hh := HRr.out.h5; simp [World.frozen?, hh] })
      have fzy2 : wr.frozen? ⟨g5, 2, none⟩ = false := (by { have hh := HRr.out.h5; simp [World.frozen?, hh] })
      have fzy3 : wr.frozen? ⟨g5, 3, none⟩ = false := (by { have hh := HRr.out.h5; simp [World.frozen?, hh] })
      have fzy4 : wr.frozen? ⟨g5, 4, none⟩ = false := (by { have hh := HRr.out.h5; simp [World.frozen?, hh] })
      have fzy5 : wr.frozen? ⟨g5, 5, none⟩ = false := (by { have hh := HRr.out.h5; simp [World.frozen?, hh] })
      have d45 : ¬ g5 = g4 := Nat.ne_of_gt HL5.out
      have d54 : ¬ g4 = g5 := Nat.ne_of_lt HL5.out
      have d46 : ¬ g4 = g6 := Nat.ne_of_lt (Nat.lt_trans HL5.out HL6.out)
      have d64 : ¬ g6 = g4 := fun e => d46 e.symm
      have d56 : ¬ g5 = g6 := Nat.ne_of_lt HL6.out
      have d65 : ¬ g6 = g5 := fun e => d56 e.symm
      have dg4 : ¬ g = g4 := Nat.ne_of_lt (Nat.lt_trans HL3.out HL4.out)
      have d4g : ¬ g4 = g := fun e => dg4 e.symm
      have dg5 : ¬ g = g5 := Nat.ne_of_lt (Nat.lt_trans HL3.out (Nat.lt_trans HL4.out HL5.out))
      have d5g : ¬ g5 = g := fun e => dg5 e.symm
      go_upto_region 35 with fail
      go_region
      all_goals
        go_wp2
        obtain ⟨t4, t5, tst⟩ := out8 (s0 := .slice A1 n1 c1) (s1 := .slice B1 m1 d1) (a := .int .i64 0) (b := .bool false) (c := .string ⟨#[]⟩) (d := .slice none 0 0) (e := .slice A9 i c9) (f := .int .u64 0) HRr.out.h4 HRr.out.h5 d54
        refine bodyPost_ret (results_v2 rfl Try.underlying29 Try.underlying40 rfl rfl t4 size_shelf t5 size_answer) rfl ?_
        exact HFIN.out _ _ _ _ _ _ _ _ _ _ _ _ _ _ _ _ _ _ _ _ _ _ _ _ HRr.out HPA.out HPB.out (RP.row_nil _ _) rfl (Apt.nil _ _ _) HRM.out HHN.out (Apt.own HOr.out (Nat.le_refl _)) tst
    | succ gk =>
      have hii : (i : Int) < (gn : Int) := by omega
      have hi0 : (0 : Int) ≤ (i : Int) := by omega
      obtain ⟨x, hx⟩ : ∃ x, G[i]? = some x := ⟨_, List.getElem?_eq_getElem (by have := HLN.out; omega)⟩
      obtain ⟨b1, o1, e1, hb1, k0, k1, k2, k3, k4⟩ := callAt (HGR.out wr HRr.out.bel).row hx
      dsimp only at e1
      subst e1
      have HXI := Lib.hid hx
      have HB1L := Lib.hid hb1
      have gl : g < wr.heap.size := lt_of_heap HRr.out.h2
      have g3l : g3 < wr.heap.size := lt_of_heap HRr.out.h3
      have HKV : Hid (∀ V, Below wr.heap.size wr V → V.cell? ⟨g, 0, none⟩ = some (.slice A1 n1 c1) ∧ V.cell? ⟨g, 1, none⟩ = some (.slice B1 m1 d1) ∧ V.cell? ⟨g3, 4, none⟩ = some (.slice (some ⟨b1, o1, none⟩) gn gc) ∧ V.cell? ⟨b1, o1 + i * 5, none⟩ = some (.int .i64 x.kd) ∧ V.cell? ⟨b1, o1 + i * 5 + 1, none⟩ = some (.string x.key) ∧ V.cell? ⟨b1, o1 + i * 5 + 2, none⟩ = some (.string x.val) ∧ V.cell? ⟨b1, o1 + i * 5 + 3, none⟩ = some (.string x.to_) ∧ V.cell? ⟨b1, o1 + i * 5 + 4, none⟩ = some (.slice x.ga x.gn x.gc)) := fun V h3 => ⟨(h3.cell (p := ⟨g, 0, none⟩) gl).trans p0, (h3.cell (p := ⟨g, 1, none⟩) gl).trans p1, (h3.cell (p := ⟨g3, 4, none⟩) g3l).trans c4, (h3.cell (p := ⟨b1, _, none⟩) hb1).trans k0, (h3.cell (p := ⟨b1, _, none⟩) hb1).trans k1, (h3.cell (p := ⟨b1, _, none⟩) hb1).trans k2, (h3.cell (p := ⟨b1, _, none⟩) hb1).trans k3, (h3.cell (p := ⟨b1, _, none⟩) hb1).trans k4⟩
      have HKE : Hid (∀ W V, Below wr.heap.size wr W → Below W.heap.size W V → V.cell? ⟨g, 0, none⟩ = some (.slice A1 n1 c1) ∧ V.cell? ⟨g, 1, none⟩ = some (.slice B1 m1 d1) ∧ V.cell? ⟨g3, 4, none⟩ = some (.slice (some ⟨b1, o1, none⟩) gn gc) ∧ V.cell? ⟨b1, o1 + i * 5, none⟩ = some (.int .i64 x.kd) ∧ V.cell? ⟨b1, o1 + i * 5 + 1, none⟩ = some (.string x.key) ∧ V.cell? ⟨b1, o1 + i * 5 + 2, none⟩ = some (.string x.val) ∧ V.cell? ⟨b1, o1 + i * 5 + 3, none⟩ = some (.string x.to_) ∧ V.cell? ⟨b1, o1 + i * 5 + 4, none⟩ = some (.slice x.ga x.gn x.gc)) := fun W V h1 h2 => HKV.out V (h1.trans (h2.mono h1.size))
      have HSW : Hid (∀ V, Below wr.heap.size wr V → Shv V A1 n1 c1 B1 m1 d1 (gL (G.take i) L) (gQ (G.take i) Q)) := fun V h => HRr.out.sh.below h
      have HBW : Hid (∀ V, Below wr.heap.size wr V → Below g w V) := fun V h => HRr.out.bel.trans (h.mono (Nat.le_of_lt gl))
      have HAA : Hid (∀ hi, Apt A1 n1 wr.heap.size hi) := fun hi => Apt.old HRr.out.sh.r1 HRr.out.sh.n1
      have HAB : Hid (∀ hi, Apt B1 m1 wr.heap.size hi) := fun hi => Apt.old HRr.out.sh.r2 HRr.out.sh.n2
      have HG6L : Hid (g6 < wr.heap.size) := HRr.out.lt
      have hN1 : ¬ g = wr.heap.size := Nat.ne_of_lt gl
      have hN2 : ¬ g3 = wr.heap.size := Nat.ne_of_lt g3l
      have hN3 : ¬ b1 = wr.heap.size := Nat.ne_of_lt hb1
      have hM1 : ¬ wr.heap.size = g := fun e => hN1 e.symm
      have hM2 : ¬ wr.heap.size = g3 := fun e => hN2 e.symm
      have hM3 : ¬ wr.heap.size = b1 := fun e => hN3 e.symm
      have hM4 : ¬ wr.heap.size + 1 = g := by omega
      have hM5 : ¬ wr.heap.size + 1 = g3 := by omega
      have hM6 : ¬ wr.heap.size + 1 = b1 := by omega
      have HNX : Hid (∀ z, wr.heap.size < z → ¬ z = g ∧ ¬ z = g3 ∧ ¬ z = b1) := fun z hz => ⟨by omega, by omega, by omega⟩
      clear hx hb1 gl g3l
      go_upto_region 32 with fail
      go_cut [10, 11] from 129 to 153 (fun s10 s11 wx => GotR wr A1 n1 B1 m1 (gL (G.take (i + 1)) L) (gQ (G.take (i + 1)) Q) (fnd x (gL (G.take i) L) (gQ (G.take i) Q)) s10 s11 wx)
      case first =>
        go_region_held3 (fun V => V.cell? ⟨g, 0, none⟩ = some (.slice A1 n1 c1) ∧ V.cell? ⟨g, 1, none⟩ = some (.slice B1 m1 d1) ∧ V.cell? ⟨g3, 4, none⟩ = some (.slice (some ⟨b1, o1, none⟩) gn gc) ∧ V.cell? ⟨b1, o1 + i * 5, none⟩ = some (.int .i64 x.kd) ∧ V.cell? ⟨b1, o1 + i * 5 + 1, none⟩ = some (.string x.key) ∧ V.cell? ⟨b1, o1 + i * 5 + 2, none⟩ = some (.string x.val) ∧ V.cell? ⟨b1, o1 + i * 5 + 3, none⟩ = some (.string x.to_) ∧ V.cell? ⟨b1, o1 + i * 5 + 4, none⟩ = some (.slice x.ga x.gn x.gc)) (go_keep)
          (first
          | (go_at_call 20; refine (HAM.out wr.drew _ _ _ _ _ _ _ _ HXI.out (HBW.out _ (got_b (.inl rfl))) (HSW.out _ (got_b (.inl rfl)))).mono ?_; rintro e x1 ⟨A', n', c', B', m', d', A2, n2, c2, B2, m2, d2, rfl, hv, pA, pB, -, -, -, -, hb⟩; obtain ⟨t0, t1, t2, t3, t4, t5, t6, t7⟩ := HKE.out wr.drew x1 (got_b (.inl rfl)) hb)
          | (go_at_call 20; refine (HAM.out (wr.drew.alloc S0) _ _ _ _ _ _ _ _ HXI.out (HBW.out _ (got_b (.inr (.inl rfl)))) (HSW.out _ (got_b (.inr (.inl rfl))))).mono ?_; rintro e x1 ⟨A', n', c', B', m', d', A2, n2, c2, B2, m2, d2, rfl, hv, pA, pB, -, -, -, -, hb⟩; obtain ⟨t0, t1, t2, t3, t4, t5, t6, t7⟩ := HKE.out (wr.drew.alloc S0) x1 (got_b (.inr (.inl rfl))) hb; obtain ⟨s0, s1, sf⟩ := svar (got_w2 hb); obtain ⟨ne1, ne2⟩ := got_n2 hb; obtain ⟨ne3, ne4, ne5⟩ := HNX.out _ ne1)
          | (go_at_call 20; refine (HAM.out (wr.drew.alloc A0) _ _ _ _ _ _ _ _ HXI.out (HBW.out _ (got_b (.inr (.inr (.inl rfl))))) (HSW.out _ (got_b (.inr (.inr (.inl rfl)))))).mono ?_; rintro e x1 ⟨A', n', c', B', m', d', A2, n2, c2, B2, m2, d2, rfl, hv, pA, pB, -, -, -, -, hb⟩; obtain ⟨t0, t1, t2, t3, t4, t5, t6, t7⟩ := HKE.out (wr.drew.alloc A0) x1 (got_b (.inr (.inr (.inl rfl)))) hb; obtain ⟨a0, a1, a2, a3, a4, a5, af⟩ := avar (got_w3 hb); obtain ⟨ne1, ne2⟩ := got_n3 hb; obtain ⟨ne3, ne4, ne5⟩ := HNX.out _ ne1)
          | (go_at_call 20; refine (HAM.out ((wr.drew.alloc S0).alloc A0) _ _ _ _ _ _ _ _ HXI.out (HBW.out _ (got_b (.inr (.inr (.inr (.inl rfl)))))) (HSW.out _ (got_b (.inr (.inr (.inr (.inl rfl))))))).mono ?_; rintro e x1 ⟨A', n', c', B', m', d', A2, n2, c2, B2, m2, d2, rfl, hv, pA, pB, -, -, -, -, hb⟩; obtain ⟨t0, t1, t2, t3, t4, t5, t6, t7⟩ := HKE.out ((wr.drew.alloc S0).alloc A0) x1 (got_b (.inr (.inr (.inr (.inl rfl))))) hb; obtain ⟨s0, s1, sf⟩ := svar (got_w4 hb).1; obtain ⟨a0, a1, a2, a3, a4, a5, af⟩ := avar (got_w4 hb).2)
          | (go_at_call 20; refine (HAM.out ((wr.drew.alloc A0).alloc S0) _ _ _ _ _ _ _ _ HXI.out (HBW.out _ (got_b (.inr (.inr (.inr (.inr rfl)))))) (HSW.out _ (got_b (.inr (.inr (.inr (.inr rfl))))))).mono ?_; rintro e x1 ⟨A', n', c', B', m', d', A2, n2, c2, B2, m2, d2, rfl, hv, pA, pB, -, -, -, -, hb⟩; obtain ⟨t0, t1, t2, t3, t4, t5, t6, t7⟩ := HKE.out ((wr.drew.alloc A0).alloc S0) x1 (got_b (.inr (.inr (.inr (.inr rfl))))) hb; obtain ⟨a0, a1, a2, a3, a4, a5, af⟩ := avar (got_w5 hb).1; obtain ⟨s0, s1, sf⟩ := svar (got_w5 hb).2)
          | fail)
        · go_wp2
          go_meet
          case rel => exact gotr_1 hv pA pB HAA.out HAB.out hb
        · go_wp2
          go_meet
          case rel => exact gotr_2 hv pA pB HAA.out HAB.out hb
        · go_wp2
          go_meet
          case rel => exact gotr_3 hv pA pB HAA.out HAB.out hb
        · go_wp2
          go_meet
          case rel => exact gotr_4 hv pA pB HAA.out HAB.out hb
        · go_wp2
          go_meet
          case rel => exact gotr_5 hv pA pB HAA.out HAB.out hb
        · go_wp2
          go_meet
          case rel => exact gotr_6 hv pA pB HAA.out HAB.out hb
      case rest =>
        obtain ⟨gS, gA, A', n', c', B', m', d', cd, v, A2, n2, c2, B2, m2, d2, rfl, rfl, hS, hA, hsv, pA, pB, hlS, hlA, hb⟩ := hcut
        have HS := Lib.hid hS
        have HA := Lib.hid hA
        have HV := Lib.hid hsv
        have HQA := Lib.hid pA
        have HQB := Lib.hid pB
        have HRc := Lib.hid (HRr.out.below hb)
        have HOc := Lib.hid (own_keep HOr.out hb)
        have HTH := Lib.hid (HHT.out i x HXI.out)
        have hAg : ¬ gA = g := by have := HG6L.out; have := HRr.out.o1; have := HRr.out.o2; have := HRr.out.o3; have := HRr.out.o4; omega
        have HPA2 : Hid (∀ lo hi, hi ≤ g → Apt A n lo hi → Apt A' n' lo hi) := fun lo hi h1 h2 => HQA.out lo hi (Nat.le_trans h1 (Nat.le_of_lt (lt_of_heap HRr.out.h2))) (HPA.out lo hi h1 h2)
        have HPB2 : Hid (∀ lo hi, hi ≤ g → Apt B m lo hi → Apt B' m' lo hi) := fun lo hi h1 h2 => HQB.out lo hi (Nat.le_trans h1 (Nat.le_of_lt (lt_of_heap HRr.out.h2))) (HPB.out lo hi h1 h2)
        have HAH2 : Hid (∀ k, (Value.slice A9 i c9).ownBlock = some k → Apt A' n' k (k + 1) ∧ Apt B' m' k (k + 1)) := fun k hk => by
          have hl := own_ltN HOr.out hk
          exact ⟨HQA.out k (k + 1) hl (HAH.out k hk).1, HQB.out k (k + 1) hl (HAH.out k hk).2⟩
        obtain ⟨q0, q1⟩ := cells2 hS
        obtain ⟨-, y1, -, -, -, -⟩ := cells6 hA
        clear hS hA hsv pA pB hlS hlA hb p0 p1 c4 k0 k1 k2 k3 k4 hN1 hN2 hN3 hM1 hM2 hM3 hM4 hM5 hM6
        generalize fnd x (gL (G.take i) L) (gQ (G.take i) Q) = F at *
        go_wp2_with (first
          | ((with_reducible show wpList _ _ _ (⟨none, .store _ (.tmp 2) _, _, _, _, _⟩ :: _) _ _); refine wpList_store_only (o := ⟨none, .store 29 (.tmp 2) (.tmp 146), _, _, _, _⟩) rfl _ _ _ rfl rfl g #[.slice A' n' c', .slice B' m' d'] rfl rfl 29 _ HRc.out.h2 size_shelf rfl (onesV _ _ _ _ _ _) ?_; intro x9 X9 T9; have HR9 := Lib.hid (HRc.out.put (stay_of_turns T9.out) HV.out (HQA.out g (g6 + 1) HG6L.out HRr.out.ap) (HQB.out g (g6 + 1) HG6L.out HRr.out.aq) X9.out); have HO9 : Hid (x9.ownsRow (g6 + 1) RB.tE RB.k (.slice A9 i c9) i (RB.enc ((hitsG G L Q).take i))) := own_same HOc.out (fun k hk => T9.out.block k (by have := own_ge HOc.out k hk; have := HRr.out.o1; have := HRr.out.o2; have := HRr.out.o3; have := HRr.out.o4; omega) (by have := own_ge HOc.out k hk; have := HRr.out.o1; have := HRr.out.o2; have := HRr.out.o3; have := HRr.out.o4; omega) (own_ltN HOc.out hk)); have HA9 := Lib.hid ((T9.out.block gA hAg hAg (lt_of_heap HA.out)).trans HA.out); obtain ⟨-, z1, -, -, -, -⟩ := cells6 HA9.out; obtain ⟨-, -, -, -, r4, -⟩ := cells6 HR9.out.h6; obtain ⟨A3, c3, W, r1, f1, f2, rw3, ow3, ah3⟩ := RW.hit HR9.out HO9.out (HHI.out i (by omega)) (by omega) HAH2.out F; have HRUN := Lib.hid r1; have HRW3 := Lib.hid rw3; have HOW3 := Lib.hid ow3; have HAH3 := Lib.hid ah3; clear r1 rw3 ow3 ah3)
          | (at_builtin; refine wpList_app rfl (.tmp 148) (.tmp 151) 37 rfl rfl rfl HRUN.out ?_)
          | fail)
        go_roundg gk
        case measure => omega
        case rel => exact ⟨i + 1, A', n', c', B', m', d', A3, c3, by omega, by go_num, HRW3, by show World.ownsRow _ _ _ _ _ _ _; rw [HTH.out]; exact HOW3.out, HPA2, HPB2, HAH3⟩
/-- The chapter's own Apply of any call (of a group without groups). -/
theorem rapply_any {w : World} {A B : Option Addr} {n cc m d : Nat} {L : List Kv} {Q : List ByteArray} (h : Shv w A n cc B m d L Q) (hl : L.length < 300000) (hq : Q.length < 300000) (hc : m ≤ d) (hdm : d ≤ maxLen) (c : Cal) (G : List Cal) (hG : Grp w c G) :
    Calls Try.prog 20 #[.agg #[.slice A n cc, .slice B m d], .agg #[.int .i64 c.kd, .string c.key, .string c.val, .string c.to_, .slice c.ga c.gn c.gc]] w (RApTo w A n B m (apL c G L) (apQ c G Q) (goodN c G) (apF c G L Q) (apV c G L Q) (apM c G L) (apH c G L Q)) := by
  obtain ⟨kd, key, val, to_, ga, gn, gc⟩ := c
  by_cases hg : goodN ⟨kd, key, val, to_, ga, gn, gc⟩ G = 0
  · obtain ⟨k, hk, hkd, h6⟩ := form_kind (good_kind hg)
    dsimp only at hkd
    by_cases h7 : k = 6
    · subst h7
      obtain rfl : kd = 7 := by rw [hkd]; rfl
      obtain ⟨q1, q2, q3, q4, q5, q6⟩ := ap_grp hg rfl L Q
      rw [q1, q2, q3, q4, q5, q6, hg]
      exact rap_7 h hl hq key val to_ ga gn gc G hG hg
    · have e7 : (kd == 7) = false := by rw [hkd, beq_eq_false_iff_ne]; omega
      obtain ⟨q1, q2, q3, q4, q5, q6⟩ := ap_good hg e7 L Q
      rw [q1, q2, q3, q4, q5, q6, hg]
      match k, hk, hkd, h7 with
      | 0, _, hkd, _ => obtain rfl : kd = 1 := by rw [hkd]; rfl
                        exact rap_1 h key val to_ ga gn gc G hG hg
      | 1, _, hkd, _ => obtain rfl : kd = 2 := by rw [hkd]; rfl
                        exact rap_2 h (by omega) (by omega) key val to_ ga gn gc G hG hg
      | 2, _, hkd, _ => obtain rfl : kd = 3 := by rw [hkd]; rfl
                        exact rap_3 h (by omega) (by omega) key val to_ ga gn gc G hG hg
      | 3, _, hkd, _ => obtain rfl : kd = 4 := by rw [hkd]; rfl
                        exact rap_4 h (by omega) key val to_ ga gn gc G hG hg
      | 4, _, hkd, _ => obtain rfl : kd = 5 := by rw [hkd]; rfl
                        exact rap_5 h (by omega) hc hdm key val to_ ga gn gc G hG hg
      | 5, _, hkd, _ => obtain rfl : kd = 6 := by rw [hkd]; rfl
                        exact rap_6 h (by omega) key val to_ ga gn gc G hG hg
      | 6, _, _, h7 => exact absurd rfl h7
      | 7, _, hkd, _ => obtain rfl : kd = 8 := by rw [hkd]; rfl
                        exact rap_8 h key val to_ ga gn gc G hG hg
  · obtain ⟨q1, q2, q3, q4, q5, q6⟩ := ap_bad hg L Q
    rw [q1, q2, q3, q4, q5, q6]
    exact rap_bad h kd key val to_ ga gn gc G hG hg
theorem pairOwn {w : World} {B n c : Nat} {A : Option Addr} {M : List Kv} (h : w.ownsRow B RP.tE RP.k (.slice A n c) n (RP.enc M)) (hl : M.length ≤ 1048576) {i : Nat} {e : Kv} (hz : M[i]? = some e) : ∃ b, A = some ⟨b, 0, none⟩ ∧ B ≤ b ∧ b < w.heap.size ∧ w.cell? ⟨b, i * 2, none⟩ = some (.string e.k) ∧ w.cell? ⟨b, i * 2 + 1, none⟩ = some (.string e.v) ∧ (∀ j, w.frozen? ⟨b, j, none⟩ = false) ∧ (Value.slice A n c).ownBlock = some b := by
  obtain ⟨_, A', c', ee, a1, a2, a3, a4, a5⟩ := Rec.row_of_own h hl
  cases ee
  obtain ⟨b, o1, eA, hb1, k0, k1⟩ := pairAt a3 hz
  have hb0 := a5 _ eA
  have e0 : o1 = 0 := by have := hb0.2.2.1; injection this
  subst e0
  have e1 : 0 + i * 2 = i * 2 := Nat.zero_add _
  rw [e1] at k0 k1
  subst eA
  exact ⟨b, rfl, hb0.1, hb1, k0, k1, fun j => h.frozenAt j, hb0.2.2.2⟩
theorem textOwn {w : World} {B n c : Nat} {A : Option Addr} {M : List ByteArray} (h : w.ownsRow B RS.tE RS.k (.slice A n c) n (RS.enc M)) (hl : M.length ≤ 1048576) {i : Nat} {e : ByteArray} (hz : M[i]? = some e) : ∃ b, A = some ⟨b, 0, none⟩ ∧ B ≤ b ∧ b < w.heap.size ∧ w.cell? ⟨b, i, none⟩ = some (.string e) ∧ (∀ j, w.frozen? ⟨b, j, none⟩ = false) ∧ (Value.slice A n c).ownBlock = some b := by
  obtain ⟨_, A', c', ee, a1, a2, a3, a4, a5⟩ := Rec.row_of_own h hl
  cases ee
  obtain ⟨b, o1, eA, hb1, k0⟩ := textAt a3 hz
  have hb0 := a5 _ eA
  have e0 : o1 = 0 := by have := hb0.2.2.1; injection this
  subst e0
  have e1 : 0 + i = i := Nat.zero_add _
  rw [e1] at k0
  subst eA
  exact ⟨b, rfl, hb0.1, hb1, k0, fun j => h.frozenAt j, hb0.2.2.2⟩
def overT : ByteArray := ⟨#[111, 118, 101, 114]⟩
set_option maxHeartbeats 3200000 in
/-- A store of one's own written over. -/
theorem overs_any {w : World} {base : Nat} {A B : Option Addr} {n c m d : Nat} {L : List Kv} {Q : List ByteArray} (h : OwnS w base A n c B m d L Q) (hl : L.length ≤ 100000) (hq : Q.length ≤ 100000) (hb : base ≤ w.heap.size) (hne : ∀ k, (Value.slice A n c).ownBlock = some k → (Value.slice B m d).ownBlock ≠ some k) :
    Calls Try.prog 27 #[.agg #[.slice A n c, .slice B m d]] w fun e w' => e = .returned (.tuple #[]) ∧ Below base w w' := by
  obtain ⟨g, hg⟩ : ∃ g, w.heap.size = g := ⟨_, rfl⟩
  obtain ⟨w1, hw1⟩ : ∃ w1, w.alloc (.cells #[.slice A n c, .slice B m d] 29) = w1 := ⟨_, rfl⟩
  have HX : Hid (w1.heap[g]? = some (.cells #[.slice A n c, .slice B m d] 29 (0, 0))) := by rw [← hw1, ← hg]; exact heap_alloc_new w _
  have HB1 : Hid (Below g w w1) := by rw [← hw1, ← hg]; exact (Below.refl _ _).alloc (Nat.le_refl _) _
  have HO1 : Hid (OwnS w1 base A n c B m d L Q) := h.below (hg ▸ HB1.out)
  have HBG : Hid (base ≤ g) := hg ▸ hb
  have HAG : Hid (∀ k, (Value.slice A n c).ownBlock = some k → k < g) := fun k hk => hg ▸ own_ltN h.o1 hk
  have HQG : Hid (∀ k, (Value.slice B m d).ownBlock = some k → k < g) := fun k hk => hg ▸ own_ltN h.o2 hk
  have HNE := Lib.hid hne
  have HLN : Hid (L.length = n) := h.n1
  have HQN : Hid (Q.length = m) := h.n2
  have hnb : n ≤ 100000 := by have := h.n1; omega
  have hmb : m ≤ 100000 := by have := h.n2; omega
  obtain ⟨p0, p1⟩ := cells2 HX.out
  clear h hl hq hb hne
  go_enter Try.func27, Try.ntmps27
  go_wp2_with fail
  clear hg hw1 p0 p1
  go_loopg [2] n (fun gk s2 wx => ∃ (i : Nat) (M : List Kv), i + gk = n ∧ s2 = .int .i64 i ∧ M.length = n ∧ Hid (wx.heap[g]? = some (.cells #[.slice A n c, .slice B m d] 29 (0, 0))) ∧ Hid (OwnS wx base A n c B m d M Q) ∧ Hid (Below base w wx))
  case atStart => exact ⟨0, L, by omega, rfl, HLN.out, HX, HO1, HB1.out.mono HBG.out⟩
  case round =>
    obtain ⟨i, M, hig, rfl, hM, HXr, HOr, HW⟩ := hrel
    have HM := Lib.hid hM
    clear hM
    obtain ⟨p0, p1⟩ := cells2 HXr.out
    cases gk with
    | succ gk =>
      have hii : (i : Int) < (n : Int) := by omega
      have hi0 : (0 : Int) ≤ (i : Int) := by omega
      obtain ⟨x, hx⟩ : ∃ x, M[i]? = some x := ⟨_, List.getElem?_eq_getElem (by have := HM.out; omega)⟩
      obtain ⟨b, eA, hbb, hb1, k0, k1, kf, hob⟩ := pairOwn HOr.out.o1 (by have := HM.out; omega) hx
      have HOB := Lib.hid hob
      have HBB := Lib.hid hbb
      have HBL : Hid (b < g) := HAG.out b hob
      have hgb : ¬ g = b := by have := HBL.out; omega
      have hbg : ¬ b = g := by have := HBL.out; omega
      subst eA
      have HSET : Hid ((((wr.setCell ⟨b, i * 2, none⟩ (.string overT)).setCell ⟨b, i * 2 + 1, none⟩ (.string ⟨#[]⟩))).ownsRow base RP.tE RP.k (.slice (some ⟨b, 0, none⟩) n c) n (RP.enc (M.set i ⟨overT, ⟨#[]⟩⟩))) := Rec.own_set (R := RP) (i := i) (n := n) HOr.out.o1 HM.out (by omega) ⟨overT, ⟨#[]⟩⟩
      have kf0 := kf (i * 2)
      have kf1 := kf (i * 2 + 1)
      clear hx hbb hb1 hob kf
      go_wp2
      have HTX : Hid (∀ k, k ≠ b → ((wr.setCell ⟨b, i * 2, none⟩ (.string overT)).setCell ⟨b, i * 2 + 1, none⟩ (.string ⟨#[]⟩)).heap[k]? = wr.heap[k]?) := fun k hk => by rw [Below.heap_setCell _ _ _ _ hk, Below.heap_setCell _ _ _ _ hk]
      go_roundg gk
      case measure => omega
      case rel => exact ⟨i + 1, M.set i ⟨overT, ⟨#[]⟩⟩, by omega, by go_num, by rw [List.length_set]; exact HM.out, (HTX.out g hgb).trans HXr.out, ⟨HSET.out, own_same HOr.out.o2 (fun k hk => HTX.out k (fun e => HNE.out b HOB.out (e ▸ hk))), by rw [List.length_set]; exact HM.out, HOr.out.n2⟩, (HW.out.setCell (p := ⟨b, _, none⟩) HBB.out _).setCell (p := ⟨b, _, none⟩) HBB.out _⟩
    | zero =>
      obtain rfl : i = n := by omega
      have hii : ¬ (i : Int) < (i : Int) := by omega
      go_wp2_with fail
      go_loopg [3] m (fun gk s3 wx => ∃ (j : Nat) (M2 : List ByteArray), j + gk = m ∧ s3 = .int .i64 j ∧ M2.length = m ∧ Hid (wx.heap[g]? = some (.cells #[.slice A i c, .slice B m d] 29 (0, 0))) ∧ Hid (wx.ownsRow base RS.tE RS.k (.slice B m d) m (RS.enc M2)) ∧ Hid (Below base w wx))
      case atStart => exact ⟨0, Q, by omega, rfl, HQN.out, HXr, HOr.out.o2, HW⟩
      case round =>
        obtain ⟨j, M2, hjg, rfl, hM2, HXq, HOq, HW2⟩ := hrel
        have HM2 := Lib.hid hM2
        clear hM2 p0 p1
        obtain ⟨p0, p1⟩ := cells2 HXq.out
        cases gk with
        | zero =>
          obtain rfl : j = m := by omega
          have hjj : ¬ (j : Int) < (j : Int) := by omega
          go_wp2
          refine bodyPost_end (results_none rfl _ _ _) rfl ?_
          exact ⟨rfl, HW2.out⟩
        | succ gk =>
          have hjj : (j : Int) < (m : Int) := by omega
          have hj0 : (0 : Int) ≤ (j : Int) := by omega
          obtain ⟨x, hx⟩ : ∃ x, M2[j]? = some x := ⟨_, List.getElem?_eq_getElem (by have := HM2.out; omega)⟩
          obtain ⟨b, eA, hbb, hb1, k0, kf, hob⟩ := textOwn HOq.out (by have := HM2.out; omega) hx
          have HBB := Lib.hid hbb
          have HBL : Hid (b < g) := HQG.out b hob
          have hgb : ¬ g = b := by have := HBL.out; omega
          have hbg : ¬ b = g := by have := HBL.out; omega
          subst eA
          have HSET : Hid ((wr.setCell ⟨b, j * 1, none⟩ (.string overT)).ownsRow base RS.tE RS.k (.slice (some ⟨b, 0, none⟩) m d) m (RS.enc (M2.set j overT))) := Rec.own_set (R := RS) (i := j) (n := m) HOq.out HM2.out (by omega) overT
          rw [Nat.mul_one] at HSET
          have kf0 := kf j
          clear hx hbb hb1 hob kf
          go_wp2
          have HTX : Hid (∀ k, k ≠ b → (wr.setCell ⟨b, j, none⟩ (.string overT)).heap[k]? = wr.heap[k]?) := fun k hk => Below.heap_setCell _ _ _ _ hk
          go_roundg gk
          case measure => omega
          case rel => exact ⟨j + 1, M2.set j overT, by omega, by go_num, by rw [List.length_set]; exact HM2.out, (HTX.out g hgb).trans HXq.out, HSET, HW2.out.setCell (p := ⟨b, _, none⟩) HBB.out _⟩
section
variable {w x1 : World} {L' : List Kv} {Q' : List ByteArray} {cd : Int} {f : Bool} {v : ByteArray} {M : List Kv} {H : List Bool} {A : Option Addr} {n c : Nat} {B : Option Addr} {m d : Nat} {A2 : Option Addr} {n2 c2 : Nat} {B2 : Option Addr} {m2 d2 : Nat} {B0 N K : Nat}
/-- The variables made behind the call, or ahead of it, wherever. -/
theorem gen_1 (ho : OwnS x1 B0 A n c B m d L' Q') (hm : x1.ownsRow B0 RP.tE RP.k (.slice A2 n2 c2) n2 (RP.enc M)) (hh : x1.ownsRow B0 RB.tE RB.k (.slice B2 m2 d2) m2 (RB.enc H)) (hml : M.length = n2) (hhl : H.length = m2) (hB : w.heap.size ≤ B0) (hb : Below w.heap.size w x1) :
    Got w L' Q' cd f v M H (.pointer (some ⟨x1.heap.size, 0, none⟩)) (.pointer (some ⟨x1.heap.size + 1, 0, none⟩)) ((x1.alloc (objS (.slice A n c) (.slice B m d))).alloc (objA (.int .i64 cd) (.bool f) (.string v) (.slice A2 n2 c2) (.slice B2 m2 d2) (.int .u64 0))) :=
  got_mk ho hm hh hml hhl hB hb ((alloc_stay _ _).trans (alloc_stay _ _)) (alloc_old (heap_alloc_new _ _)) (alloc_two _ _ _) (.inr (Nat.le_refl _)) (.inr (Nat.le_succ _)) hb.size (Nat.le_succ_of_le hb.size) (by omega)
theorem gen_2 (ho : OwnS x1 B0 A n c B m d L' Q') (hm : x1.ownsRow B0 RP.tE RP.k (.slice A2 n2 c2) n2 (RP.enc M)) (hh : x1.ownsRow B0 RB.tE RB.k (.slice B2 m2 d2) m2 (RB.enc H)) (hml : M.length = n2) (hhl : H.length = m2) (hB : w.heap.size ≤ B0) (hb : Below w.heap.size w x1) :
    Got w L' Q' cd f v M H (.pointer (some ⟨x1.heap.size + 1, 0, none⟩)) (.pointer (some ⟨x1.heap.size, 0, none⟩)) ((x1.alloc (objA (.int .i64 cd) (.bool f) (.string v) (.slice A2 n2 c2) (.slice B2 m2 d2) (.int .u64 0))).alloc (objS (.slice A n c) (.slice B m d))) :=
  got_mk ho hm hh hml hhl hB hb ((alloc_stay _ _).trans (alloc_stay _ _)) (alloc_two _ _ _) (alloc_old (heap_alloc_new _ _)) (.inr (Nat.le_succ _)) (.inr (Nat.le_refl _)) (Nat.le_succ_of_le hb.size) hb.size (by omega)
theorem gen_3 (hS : x1.heap[N]? = some S0) (hN : w.heap.size ≤ N) (hN2 : N < B0) (ho : OwnS x1 B0 A n c B m d L' Q') (hm : x1.ownsRow B0 RP.tE RP.k (.slice A2 n2 c2) n2 (RP.enc M)) (hh : x1.ownsRow B0 RB.tE RB.k (.slice B2 m2 d2) m2 (RB.enc H)) (hml : M.length = n2) (hhl : H.length = m2) (hB : w.heap.size ≤ B0) (hb : Below w.heap.size w x1) :
    Got w L' Q' cd f v M H (.pointer (some ⟨N, 0, none⟩)) (.pointer (some ⟨x1.heap.size, 0, none⟩)) ((wrS x1 N (.slice A n c) (.slice B m d)).alloc (objA (.int .i64 cd) (.bool f) (.string v) (.slice A2 n2 c2) (.slice B2 m2 d2) (.int .u64 0))) := by
  have hl := lt_of_heap hS
  exact got_mk ho hm hh hml hhl hB hb ((stayL (wrS_stay _ _ _ _)).trans (alloc_stay _ _)) (alloc_old (wrS_at hS)) (by have := heap_alloc_new (wrS x1 N (.slice A n c) (.slice B m d)) (objA (.int .i64 cd) (.bool f) (.string v) (.slice A2 n2 c2) (.slice B2 m2 d2) (.int .u64 0)); rw [wrS_size] at this; exact this) (.inl hN2) (.inr (Nat.le_refl _)) hN hb.size (by omega)
theorem gen_5 (hA : x1.heap[K]? = some A0) (hK : w.heap.size ≤ K) (hK2 : K < B0) (ho : OwnS x1 B0 A n c B m d L' Q') (hm : x1.ownsRow B0 RP.tE RP.k (.slice A2 n2 c2) n2 (RP.enc M)) (hh : x1.ownsRow B0 RB.tE RB.k (.slice B2 m2 d2) m2 (RB.enc H)) (hml : M.length = n2) (hhl : H.length = m2) (hB : w.heap.size ≤ B0) (hb : Below w.heap.size w x1) :
    Got w L' Q' cd f v M H (.pointer (some ⟨x1.heap.size, 0, none⟩)) (.pointer (some ⟨K, 0, none⟩)) ((wrA x1 K (.int .i64 cd) (.bool f) (.string v) (.slice A2 n2 c2) (.slice B2 m2 d2) (.int .u64 0)).alloc (objS (.slice A n c) (.slice B m d))) := by
  have hl := lt_of_heap hA
  exact got_mk ho hm hh hml hhl hB hb ((stayR (wrA_stay _ _ _ _ _ _ _ _)).trans (alloc_stay _ _)) (by have := heap_alloc_new (wrA x1 K (.int .i64 cd) (.bool f) (.string v) (.slice A2 n2 c2) (.slice B2 m2 d2) (.int .u64 0)) (objS (.slice A n c) (.slice B m d)); rw [wrA_size] at this; exact this) (alloc_old (wrA_at hA)) (.inr (Nat.le_refl _)) (.inl hK2) hb.size hK (by omega)
theorem gen_4 (hS : x1.heap[N]? = some S0) (hN : w.heap.size ≤ N) (hN2 : N < B0) (hA : x1.heap[K]? = some A0) (hK : w.heap.size ≤ K) (hK2 : K < B0) (hne : N ≠ K) (ho : OwnS x1 B0 A n c B m d L' Q') (hm : x1.ownsRow B0 RP.tE RP.k (.slice A2 n2 c2) n2 (RP.enc M)) (hh : x1.ownsRow B0 RB.tE RB.k (.slice B2 m2 d2) m2 (RB.enc H)) (hml : M.length = n2) (hhl : H.length = m2) (hB : w.heap.size ≤ B0) (hb : Below w.heap.size w x1) :
    Got w L' Q' cd f v M H (.pointer (some ⟨N, 0, none⟩)) (.pointer (some ⟨K, 0, none⟩)) (wrA (wrS x1 N (.slice A n c) (.slice B m d)) K (.int .i64 cd) (.bool f) (.string v) (.slice A2 n2 c2) (.slice B2 m2 d2) (.int .u64 0)) :=
  got_mk ho hm hh hml hhl hB hb ((stayL (wrS_stay _ _ _ _)).trans (stayR (wrA_stay _ _ _ _ _ _ _ _))) (((wrA_stay _ _ _ _ _ _ _ _).block _ hne (by rw [wrS_size]; exact lt_of_heap hS)).trans (wrS_at hS)) (wrA_at (((wrS_stay _ _ _ _).block _ (fun e => hne e.symm) (lt_of_heap hA)).trans hA)) (.inl hN2) (.inl hK2) hN hK hne
end
theorem al1 (x : World) (o : Obj) : Below x.heap.size x (x.alloc o) := (Below.refl _ _).alloc (Nat.le_refl _) _
theorem al2 (x : World) (o p : Obj) : Below x.heap.size x ((x.alloc o).alloc p) := (al1 x o).alloc (by simp) _
theorem ne_of_vars {x : World} {N K : Nat} (h : x.heap[N]? = some S0) (k : x.heap[K]? = some A0) : N ≠ K := fun e => by
  rw [e, k] at h
  injection h with h
  injection h with h
  injection h with h
  injection h with _ h
  injection h with _ h
  cases h
theorem apM_len (c : Cal) (G : List Cal) (L : List Kv) : (apM c G L).length ≤ L.length := by
  unfold apM
  split
  · split
    · exact Nat.zero_le _
    · unfold prs
      split
      · exact List.length_filter_le _ _
      · exact Nat.zero_le _
  · exact Nat.zero_le _
theorem apH_len (c : Cal) (G : List Cal) (L : List Kv) (Q : List ByteArray) : (apH c G L Q).length ≤ G.length := by
  unfold apH
  split
  · split
    · rw [hits_len]; exact Nat.le_refl _
    · exact Nat.zero_le _
  · exact Nat.zero_le _
/-- Pairs and texts never lie in one block. -/
theorem OwnS.dis {w : World} {base : Nat} {A B : Option Addr} {n c m d : Nat} {L : List Kv} {Q : List ByteArray} (h : OwnS w base A n c B m d L Q) : ∀ k, (Value.slice A n c).ownBlock = some k → (Value.slice B m d).ownBlock ≠ some k := fun k h1 h2 => by
  rcases h.o1.2 with ⟨e, _⟩ | ⟨g1, c1, cur1, e1, _, hh1, _⟩
  · cases e; cases h1
  · rcases h.o2.2 with ⟨e, _⟩ | ⟨g2, c2, cur2, e2, _, hh2, _⟩
    · cases e; cases h2
    · cases e1; cases e2
      cases h1; cases h2
      rw [hh1] at hh2
      injection hh2 with hh2
      injection hh2 with _ hT
      revert hT
      decide

end Go.Proofs.Ytimpigponjkfkaa
