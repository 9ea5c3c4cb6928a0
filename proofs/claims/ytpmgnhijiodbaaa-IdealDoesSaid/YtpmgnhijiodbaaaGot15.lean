/-
  Proved here: what a region of Apply leaves, in any order; the calls of a good group.
  Conditions: none.
-/
import Derived.Test.YtpmgnhijiodbaaaLCopy15
import Derived.Deep.Cut
import Derived.Deep.CutRange
import Derived.Deep.RegionHeld3
namespace Go.Proofs.Ytpmgnhijiodbaaa
open Go Go.RowKit
set_option maxRecDepth 100000

/-- What 'x, a := Apply(..)' leaves behind w in any order: two blocks, the store and the answer. -/
def Got (w : World) (L' : List Kv) (Q' : List ByteArray) (cd : Int) (f : Bool) (v : ByteArray) (M : List Kv) (H : List Bool) (s9 s10 : Value) (wx : World) : Prop :=
  ∃ gS gA A n c B m d A2 n2 c2 B2 m2 d2, s9 = .pointer (some ⟨gS, 0, none⟩) ∧ s10 = .pointer (some ⟨gA, 0, none⟩) ∧ wx.heap[gS]? = some (.cells #[.slice A n c, .slice B m d] 25 (0, 0)) ∧ wx.heap[gA]? = some (.cells #[.int .i64 cd, .bool f, .string v, .slice A2 n2 c2, .slice B2 m2 d2, .int .u64 0] 46 (0, 0)) ∧
    OwnS wx w.heap.size A n c B m d L' Q' ∧ wx.ownsRow w.heap.size RP.tE RP.k (.slice A2 n2 c2) n2 (RP.enc M) ∧ wx.ownsRow w.heap.size RB.tE RB.k (.slice B2 m2 d2) m2 (RB.enc H) ∧ M.length = n2 ∧ H.length = m2 ∧ w.heap.size ≤ gS ∧ w.heap.size ≤ gA ∧ gS ≠ gA ∧ Below w.heap.size w wx
theorem mem_good {c : Cal} {G : List Cal} (hg : goodN c G = 0) (h7 : c.kd = 7) {x : Cal} (hx : x ∈ G) : goodN x [] = 0 ∧ (x.kd == 7) = false := by
  have hf : formC c G = true := good_kind hg
  have hb : grpB G = true := by
    unfold formC at hf
    rw [h7] at hf
    exact hf
  have hl : longC c G = false := by
    unfold goodN at hg
    rw [hf, if_pos rfl] at hg
    cases h : longC c G with
    | false => rfl
    | true => rw [h] at hg; cases hg
  have hl' : G.any longF = false := by
    unfold longC at hl
    rw [h7] at hl
    exact hl
  have hlx : longF x = false := by
    cases h : longF x with
    | false => rfl
    | true => rw [List.any_eq_true.2 ⟨x, hx, h⟩] at hl'; cases hl'
  have hup : grpUp G G.length = true := by
    unfold grpB at hb
    simp only [Bool.and_eq_true] at hb
    exact hb.2
  obtain ⟨i, hi, e⟩ := List.getElem_of_mem hx
  have ha := List.all_eq_true.1 hup i (List.mem_range.2 hi)
  unfold okAt at ha
  rw [List.getElem?_eq_getElem hi, e] at ha
  simp only [Bool.and_eq_true] at ha
  have hm : memB x = true := ha.1
  have hk : x.kd = 2 ∨ x.kd = 3 ∨ x.kd = 4 := mem_kind hup (by rw [List.getElem?_eq_getElem hi, e])
  have hfx : formF x = true := by
    unfold memB chgB at hm
    unfold formF
    rcases hk with h | h | h <;> rw [h] at hm ⊢
    · simpa using hm
    · simpa using hm
    · rfl
  have h77 : (x.kd == 7) = false := by rcases hk with h | h | h <;> rw [h] <;> rfl
  refine ⟨?_, h77⟩
  unfold goodN formC longC
  rw [h77]
  show (if formF x = true then (if longF x = true then (5 : Int) else 0) else 1) = 0
  rw [hfx, hlx]
  rfl
theorem ap_grp {c : Cal} {G : List Cal} (h : goodN c G = 0) (h7 : c.kd = 7) (L : List Kv) (Q : List ByteArray) : apL c G L = gL G L ∧ apQ c G Q = gQ G Q ∧ apF c G L Q = false ∧ apV c G L Q = ⟨#[]⟩ ∧ apM c G L = [] ∧ apH c G L Q = hitsG G L Q := by
  have h77 : (c.kd == 7) = true := by rw [h7]; rfl
  unfold apL apQ apF apV apM apH
  rw [if_pos h, if_pos h, if_pos h, if_pos h, if_pos h, if_pos h, h77]
  exact ⟨rfl, rfl, rfl, rfl, rfl, rfl⟩
theorem hits_at {G : List Cal} {i : Nat} {x : Cal} (h : G[i]? = some x) (L : List Kv) (Q : List ByteArray) : (hitsG G L Q)[i]? = some (fnd x (gL (G.take i) L) (gQ (G.take i) Q)) := by
  have hi : i < G.length := (List.getElem?_eq_some_iff.1 h).1
  unfold hitsG
  rw [List.getElem?_map, List.getElem?_range hi]
  show some (hitG G L Q i) = _
  unfold hitG
  rw [h]
theorem hits_len (G : List Cal) (L : List Kv) (Q : List ByteArray) : (hitsG G L Q).length = G.length := by simp [hitsG]
abbrev S0 : Obj := .cells #[.slice none 0 0, .slice none 0 0] 25 (0, 0)
abbrev A0 : Obj := .cells #[.int .i64 0, .bool false, .string ⟨#[]⟩, .slice none 0 0, .slice none 0 0, .int .u64 0] 46 (0, 0)
/-- The cells of a variable of a store that was made ahead, and that they are not frozen. -/
def SVar (v : World) (g : Nat) : Prop := v.cell? ⟨g, 0, none⟩ = some (.slice none 0 0) ∧ v.cell? ⟨g, 1, none⟩ = some (.slice none 0 0) ∧ (∀ j, v.frozen? ⟨g, j, none⟩ = false)
def AVar (v : World) (g : Nat) : Prop := v.cell? ⟨g, 0, none⟩ = some (.int .i64 0) ∧ v.cell? ⟨g, 1, none⟩ = some (.bool false) ∧ v.cell? ⟨g, 2, none⟩ = some (.string ⟨#[]⟩) ∧ v.cell? ⟨g, 3, none⟩ = some (.slice none 0 0) ∧ v.cell? ⟨g, 4, none⟩ = some (.slice none 0 0) ∧ v.cell? ⟨g, 5, none⟩ = some (.int .u64 0) ∧ (∀ j, v.frozen? ⟨g, j, none⟩ = false)
theorem svar {v : World} {g : Nat} (h : v.heap[g]? = some S0) : SVar v g := by
  have h' : v.heap[g]? = some (.cells #[.slice none 0 0, .slice none 0 0] 25 (0, 0)) := h
  obtain ⟨a, b⟩ := cells2 h'
  exact ⟨a, b, fun j => by simp [World.frozen?, h']⟩
theorem avar {v : World} {g : Nat} (h : v.heap[g]? = some A0) : AVar v g := by
  have h' : v.heap[g]? = some (.cells #[.int .i64 0, .bool false, .string ⟨#[]⟩, .slice none 0 0, .slice none 0 0, .int .u64 0] 46 (0, 0)) := h
  obtain ⟨a, b, c, d, e, f⟩ := cells6 h'
  exact ⟨a, b, c, d, e, f, fun j => by simp [World.frozen?, h']⟩
/-- The five worlds in which Apply may begin. -/
theorem got_w2 {w v : World} (h : Below (w.drew.alloc S0).heap.size (w.drew.alloc S0) v) : v.heap[w.heap.size]? = some S0 := (h.block w.heap.size (by simp)).trans (heap_alloc_new w.drew _)
theorem got_w3 {w v : World} (h : Below (w.drew.alloc A0).heap.size (w.drew.alloc A0) v) : v.heap[w.heap.size]? = some A0 := (h.block w.heap.size (by simp)).trans (heap_alloc_new w.drew _)
theorem got_w4 {w v : World} (h : Below ((w.drew.alloc S0).alloc A0).heap.size ((w.drew.alloc S0).alloc A0) v) : v.heap[w.heap.size]? = some S0 ∧ v.heap[w.heap.size + 1]? = some A0 :=
  ⟨(h.block w.heap.size (by simp; omega)).trans (((Below.refl _ _).alloc (Nat.le_refl (w.drew.alloc S0).heap.size) A0).block w.heap.size (by simp) |>.trans (heap_alloc_new w.drew _)), (h.block (w.heap.size + 1) (by simp)).trans (by simpa using heap_alloc_new (w.drew.alloc S0) A0)⟩
theorem got_w5 {w v : World} (h : Below ((w.drew.alloc A0).alloc S0).heap.size ((w.drew.alloc A0).alloc S0) v) : v.heap[w.heap.size]? = some A0 ∧ v.heap[w.heap.size + 1]? = some S0 :=
  ⟨(h.block w.heap.size (by simp; omega)).trans (((Below.refl _ _).alloc (Nat.le_refl (w.drew.alloc A0).heap.size) S0).block w.heap.size (by simp) |>.trans (heap_alloc_new w.drew _)), (h.block (w.heap.size + 1) (by simp)).trans (by simpa using heap_alloc_new (w.drew.alloc A0) S0)⟩
theorem got_b {w W : World} (h : W = w.drew ∨ W = w.drew.alloc S0 ∨ W = w.drew.alloc A0 ∨ W = (w.drew.alloc S0).alloc A0 ∨ W = (w.drew.alloc A0).alloc S0) : Below w.heap.size w W := by
  have h0 : Below w.heap.size w w.drew := (Below.refl _ _).drew
  rcases h with rfl | rfl | rfl | rfl | rfl
  · exact h0
  · exact h0.alloc (Nat.le_refl _) _
  · exact h0.alloc (Nat.le_refl _) _
  · exact (h0.alloc (Nat.le_refl _) _).alloc (by simp) _
  · exact (h0.alloc (Nat.le_refl _) _).alloc (by simp) _
theorem got_n2 {w v : World} (h : Below (w.drew.alloc S0).heap.size (w.drew.alloc S0) v) : w.heap.size < v.heap.size ∧ ¬ v.heap.size = w.heap.size := by
  have := h.size
  simp at this
  exact ⟨by omega, by omega⟩
theorem got_n3 {w v : World} (h : Below (w.drew.alloc A0).heap.size (w.drew.alloc A0) v) : w.heap.size < v.heap.size ∧ ¬ v.heap.size = w.heap.size := by
  have := h.size
  simp at this
  exact ⟨by omega, by omega⟩
/-- Blocks gS and gA written (or made), all else as it was. -/
theorem own_stay {w w' : World} {base size n : Nat} {e : TypeId} {v : Value} {xs : List Value} {gS gA : Nat} (h : w.ownsRow base e size v n xs) (hs : Stay (fun k => k = gS ∨ k = gA) w w') (h1 : gS < base ∨ w.heap.size ≤ gS) (h2 : gA < base ∨ w.heap.size ≤ gA) : w'.ownsRow base e size v n xs :=
  own_same h (fun k hk => by
    have a := own_ge h k hk
    have b := own_ltN h hk
    exact hs.block k (fun e => by rcases e with e | e <;> omega) b)
theorem got_mk {w x1 wx : World} {L' : List Kv} {Q' : List ByteArray} {cd : Int} {f : Bool} {v : ByteArray} {M : List Kv} {H : List Bool} {B0 gS gA : Nat} {A : Option Addr} {n c : Nat} {B : Option Addr} {m d : Nat} {A2 : Option Addr} {n2 c2 : Nat} {B2 : Option Addr} {m2 d2 : Nat}
    (ho : OwnS x1 B0 A n c B m d L' Q') (hm : x1.ownsRow B0 RP.tE RP.k (.slice A2 n2 c2) n2 (RP.enc M)) (hh : x1.ownsRow B0 RB.tE RB.k (.slice B2 m2 d2) m2 (RB.enc H)) (hml : M.length = n2) (hhl : H.length = m2) (hB0 : w.heap.size ≤ B0)
    (hb : Below w.heap.size w x1) (hst : Stay (fun k => k = gS ∨ k = gA) x1 wx) (hS : wx.heap[gS]? = some (.cells #[.slice A n c, .slice B m d] 25 (0, 0))) (hA : wx.heap[gA]? = some (.cells #[.int .i64 cd, .bool f, .string v, .slice A2 n2 c2, .slice B2 m2 d2, .int .u64 0] 46 (0, 0)))
    (h1 : gS < B0 ∨ x1.heap.size ≤ gS) (h2 : gA < B0 ∨ x1.heap.size ≤ gA) (h3 : w.heap.size ≤ gS) (h4 : w.heap.size ≤ gA) (hne : gS ≠ gA) :
    Got w L' Q' cd f v M H (.pointer (some ⟨gS, 0, none⟩)) (.pointer (some ⟨gA, 0, none⟩)) wx :=
  ⟨gS, gA, A, n, c, B, m, d, A2, n2, c2, B2, m2, d2, rfl, rfl, hS, hA, ⟨own_mono (own_stay ho.o1 hst h1 h2) hB0, own_mono (own_stay ho.o2 hst h1 h2) hB0, ho.n1, ho.n2⟩, own_mono (own_stay hm hst h1 h2) hB0, own_mono (own_stay hh hst h1 h2) hB0, hml, hhl, h3, h4, hne,
    hb.trans (hst.below (fun k hk => by rcases hk with e | e <;> omega) hb.size)⟩
section
variable {w x1 : World} {L' : List Kv} {Q' : List ByteArray} {cd : Int} {f : Bool} {v : ByteArray} {M : List Kv} {H : List Bool} {A : Option Addr} {n c : Nat} {B : Option Addr} {m d : Nat} {A2 : Option Addr} {n2 c2 : Nat} {B2 : Option Addr} {m2 d2 : Nat}
/-- The store's variable written. -/
abbrev wrS (x : World) (g : Nat) (a b : Value) : World := (x.setCell ⟨g, 0, none⟩ a).setCell ⟨g, 1, none⟩ b
abbrev wrA (x : World) (g : Nat) (a b c d e f : Value) : World := (((((x.setCell ⟨g, 0, none⟩ a).setCell ⟨g, 1, none⟩ b).setCell ⟨g, 2, none⟩ c).setCell ⟨g, 3, none⟩ d).setCell ⟨g, 4, none⟩ e).setCell ⟨g, 5, none⟩ f
theorem wrS_stay (x : World) (g : Nat) (a b : Value) : Stay (fun k => k = g) x (wrS x g a b) := (Stay.setCell (S := fun k => k = g) x g 0 a rfl).trans (Stay.setCell (S := fun k => k = g) _ g 1 b rfl)
theorem wrA_stay (x : World) (g : Nat) (a b c d e f : Value) : Stay (fun k => k = g) x (wrA x g a b c d e f) := set6_stay x g a b c d e f
theorem wrS_size (x : World) (g : Nat) (a b : Value) : (wrS x g a b).heap.size = x.heap.size := by simp [wrS]
theorem wrA_size (x : World) (g : Nat) (a b c d e f : Value) : (wrA x g a b c d e f).heap.size = x.heap.size := by simp [wrA]
abbrev objS (a b : Value) : Obj := .cells #[a, b] 25 (0, 0)
abbrev objA (a b c d e f : Value) : Obj := .cells #[a, b, c, d, e, f] 46 (0, 0)
theorem wrS_at {x : World} {g : Nat} {a b : Value} (h : x.heap[g]? = some S0) : (wrS x g a b).heap[g]? = some (objS a b) := set2 h
theorem wrA_at {x : World} {g : Nat} {a b c d e f : Value} (h : x.heap[g]? = some A0) : (wrA x g a b c d e f).heap[g]? = some (objA a b c d e f) := set6_heap h
theorem alloc_stay {S : Nat → Prop} (x : World) (o : Obj) : Stay S x (x.alloc o) := Stay.of_below ((Below.refl _ _).alloc (Nat.le_refl _) _)
theorem alloc_old {x : World} {o p : Obj} {g : Nat} (h : x.heap[g]? = some p) : (x.alloc o).heap[g]? = some p := (((Below.refl _ _).alloc (Nat.le_refl x.heap.size) o).block g (lt_of_heap h)).trans h
theorem alloc_two (x : World) (o p : Obj) : ((x.alloc o).alloc p).heap[x.heap.size + 1]? = some p := by simpa using heap_alloc_new (x.alloc o) p
theorem stayL {gS gA : Nat} {x y : World} (h : Stay (fun k => k = gS) x y) : Stay (fun k => k = gS ∨ k = gA) x y := h.mono (fun _ _ e => .inl e)
theorem stayR {gS gA : Nat} {x y : World} (h : Stay (fun k => k = gA) x y) : Stay (fun k => k = gS ∨ k = gA) x y := h.mono (fun _ _ e => .inr e)
/-- The six orders. -/
theorem got_1 (ho : OwnS x1 w.heap.size A n c B m d L' Q') (hm : x1.ownsRow w.heap.size RP.tE RP.k (.slice A2 n2 c2) n2 (RP.enc M)) (hh : x1.ownsRow w.heap.size RB.tE RB.k (.slice B2 m2 d2) m2 (RB.enc H)) (hml : M.length = n2) (hhl : H.length = m2) (hb : Below w.drew.heap.size w.drew x1) :
    Got w L' Q' cd f v M H (.pointer (some ⟨x1.heap.size, 0, none⟩)) (.pointer (some ⟨x1.heap.size + 1, 0, none⟩)) ((x1.alloc (objS (.slice A n c) (.slice B m d))).alloc (objA (.int .i64 cd) (.bool f) (.string v) (.slice A2 n2 c2) (.slice B2 m2 d2) (.int .u64 0))) :=
  got_mk ho hm hh hml hhl (Nat.le_refl _) ((got_b (.inl rfl)).trans hb) ((alloc_stay _ _).trans (alloc_stay _ _)) (alloc_old (heap_alloc_new _ _)) (alloc_two _ _ _) (.inr (Nat.le_refl _)) (.inr (Nat.le_succ _)) hb.size (Nat.le_succ_of_le hb.size) (by omega)
theorem got_2 (ho : OwnS x1 w.heap.size A n c B m d L' Q') (hm : x1.ownsRow w.heap.size RP.tE RP.k (.slice A2 n2 c2) n2 (RP.enc M)) (hh : x1.ownsRow w.heap.size RB.tE RB.k (.slice B2 m2 d2) m2 (RB.enc H)) (hml : M.length = n2) (hhl : H.length = m2) (hb : Below w.drew.heap.size w.drew x1) :
    Got w L' Q' cd f v M H (.pointer (some ⟨x1.heap.size + 1, 0, none⟩)) (.pointer (some ⟨x1.heap.size, 0, none⟩)) ((x1.alloc (objA (.int .i64 cd) (.bool f) (.string v) (.slice A2 n2 c2) (.slice B2 m2 d2) (.int .u64 0))).alloc (objS (.slice A n c) (.slice B m d))) :=
  got_mk ho hm hh hml hhl (Nat.le_refl _) ((got_b (.inl rfl)).trans hb) ((alloc_stay _ _).trans (alloc_stay _ _)) (alloc_two _ _ _) (alloc_old (heap_alloc_new _ _)) (.inr (Nat.le_succ _)) (.inr (Nat.le_refl _)) (Nat.le_succ_of_le hb.size) hb.size (by omega)
theorem got_3 (ho : OwnS x1 (w.drew.alloc S0).heap.size A n c B m d L' Q') (hm : x1.ownsRow (w.drew.alloc S0).heap.size RP.tE RP.k (.slice A2 n2 c2) n2 (RP.enc M)) (hh : x1.ownsRow (w.drew.alloc S0).heap.size RB.tE RB.k (.slice B2 m2 d2) m2 (RB.enc H)) (hml : M.length = n2) (hhl : H.length = m2) (hb : Below (w.drew.alloc S0).heap.size (w.drew.alloc S0) x1) :
    Got w L' Q' cd f v M H (.pointer (some ⟨w.heap.size, 0, none⟩)) (.pointer (some ⟨x1.heap.size, 0, none⟩)) ((wrS x1 w.heap.size (.slice A n c) (.slice B m d)).alloc (objA (.int .i64 cd) (.bool f) (.string v) (.slice A2 n2 c2) (.slice B2 m2 d2) (.int .u64 0))) := by
  have hz := hb.size
  have he : (w.drew.alloc S0).heap.size = w.heap.size + 1 := by simp
  exact got_mk ho hm hh hml hhl (by omega) ((got_b (.inr (.inl rfl))).trans (hb.mono (by omega))) ((stayL (wrS_stay _ _ _ _)).trans (alloc_stay _ _)) (alloc_old (wrS_at (got_w2 hb))) (by have := heap_alloc_new (wrS x1 w.heap.size (.slice A n c) (.slice B m d)) (objA (.int .i64 cd) (.bool f) (.string v) (.slice A2 n2 c2) (.slice B2 m2 d2) (.int .u64 0)); rw [wrS_size] at this; exact this) (.inl (by omega)) (.inr (Nat.le_refl _)) (Nat.le_refl _) (by omega) (by omega)
theorem got_4 (ho : OwnS x1 ((w.drew.alloc S0).alloc A0).heap.size A n c B m d L' Q') (hm : x1.ownsRow ((w.drew.alloc S0).alloc A0).heap.size RP.tE RP.k (.slice A2 n2 c2) n2 (RP.enc M)) (hh : x1.ownsRow ((w.drew.alloc S0).alloc A0).heap.size RB.tE RB.k (.slice B2 m2 d2) m2 (RB.enc H)) (hml : M.length = n2) (hhl : H.length = m2) (hb : Below ((w.drew.alloc S0).alloc A0).heap.size ((w.drew.alloc S0).alloc A0) x1) :
    Got w L' Q' cd f v M H (.pointer (some ⟨w.heap.size, 0, none⟩)) (.pointer (some ⟨w.heap.size + 1, 0, none⟩)) (wrA (wrS x1 w.heap.size (.slice A n c) (.slice B m d)) (w.heap.size + 1) (.int .i64 cd) (.bool f) (.string v) (.slice A2 n2 c2) (.slice B2 m2 d2) (.int .u64 0)) := by
  have hz := hb.size
  have he : ((w.drew.alloc S0).alloc A0).heap.size = w.heap.size + 2 := by simp
  have hl : w.heap.size < x1.heap.size := by omega
  have hl2 : w.heap.size + 1 < x1.heap.size := by omega
  exact got_mk ho hm hh hml hhl (by omega) ((got_b (.inr (.inr (.inr (.inl rfl))))).trans (hb.mono (by omega))) ((stayL (wrS_stay _ _ _ _)).trans (stayR (wrA_stay _ _ _ _ _ _ _ _))) (((wrA_stay _ _ _ _ _ _ _ _).block _ (by omega) (by rw [wrS_size]; exact hl)).trans (wrS_at (got_w4 hb).1)) (wrA_at (((wrS_stay _ _ _ _).block _ (by omega) hl2).trans (got_w4 hb).2)) (.inl (by omega)) (.inl (by omega)) (Nat.le_refl _) (by omega) (by omega)
theorem got_5 (ho : OwnS x1 (w.drew.alloc A0).heap.size A n c B m d L' Q') (hm : x1.ownsRow (w.drew.alloc A0).heap.size RP.tE RP.k (.slice A2 n2 c2) n2 (RP.enc M)) (hh : x1.ownsRow (w.drew.alloc A0).heap.size RB.tE RB.k (.slice B2 m2 d2) m2 (RB.enc H)) (hml : M.length = n2) (hhl : H.length = m2) (hb : Below (w.drew.alloc A0).heap.size (w.drew.alloc A0) x1) :
    Got w L' Q' cd f v M H (.pointer (some ⟨x1.heap.size, 0, none⟩)) (.pointer (some ⟨w.heap.size, 0, none⟩)) ((wrA x1 w.heap.size (.int .i64 cd) (.bool f) (.string v) (.slice A2 n2 c2) (.slice B2 m2 d2) (.int .u64 0)).alloc (objS (.slice A n c) (.slice B m d))) := by
  have hz := hb.size
  have he : (w.drew.alloc A0).heap.size = w.heap.size + 1 := by simp
  exact got_mk ho hm hh hml hhl (by omega) ((got_b (.inr (.inr (.inl rfl)))).trans (hb.mono (by omega))) ((stayR (wrA_stay _ _ _ _ _ _ _ _)).trans (alloc_stay _ _)) (by have := heap_alloc_new (wrA x1 w.heap.size (.int .i64 cd) (.bool f) (.string v) (.slice A2 n2 c2) (.slice B2 m2 d2) (.int .u64 0)) (objS (.slice A n c) (.slice B m d)); rw [wrA_size] at this; exact this) (alloc_old (wrA_at (got_w3 hb))) (.inr (Nat.le_refl _)) (.inl (by omega)) (by omega) (Nat.le_refl _) (by omega)
theorem got_6 (ho : OwnS x1 ((w.drew.alloc A0).alloc S0).heap.size A n c B m d L' Q') (hm : x1.ownsRow ((w.drew.alloc A0).alloc S0).heap.size RP.tE RP.k (.slice A2 n2 c2) n2 (RP.enc M)) (hh : x1.ownsRow ((w.drew.alloc A0).alloc S0).heap.size RB.tE RB.k (.slice B2 m2 d2) m2 (RB.enc H)) (hml : M.length = n2) (hhl : H.length = m2) (hb : Below ((w.drew.alloc A0).alloc S0).heap.size ((w.drew.alloc A0).alloc S0) x1) :
    Got w L' Q' cd f v M H (.pointer (some ⟨w.heap.size + 1, 0, none⟩)) (.pointer (some ⟨w.heap.size, 0, none⟩)) (wrA (wrS x1 (w.heap.size + 1) (.slice A n c) (.slice B m d)) w.heap.size (.int .i64 cd) (.bool f) (.string v) (.slice A2 n2 c2) (.slice B2 m2 d2) (.int .u64 0)) := by
  have hz := hb.size
  have he : ((w.drew.alloc A0).alloc S0).heap.size = w.heap.size + 2 := by simp
  have hl : w.heap.size < x1.heap.size := by omega
  have hl2 : w.heap.size + 1 < x1.heap.size := by omega
  exact got_mk ho hm hh hml hhl (by omega) ((got_b (.inr (.inr (.inr (.inr rfl))))).trans (hb.mono (by omega))) ((stayL (wrS_stay _ _ _ _)).trans (stayR (wrA_stay _ _ _ _ _ _ _ _))) (((wrA_stay _ _ _ _ _ _ _ _).block _ (by omega) (by rw [wrS_size]; exact hl2)).trans (wrS_at (got_w5 hb).2)) (wrA_at (((wrS_stay _ _ _ _).block _ (by omega) hl).trans (got_w5 hb).1)) (.inl (by omega)) (.inl (by omega)) (by omega) (Nat.le_refl _) (by omega)
end

end Go.Proofs.Ytpmgnhijiodbaaa
