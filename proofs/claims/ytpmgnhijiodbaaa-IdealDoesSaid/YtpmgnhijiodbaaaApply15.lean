/-
  Proved here: what Apply answers, and leaves.
  Conditions: less than 999,900 pairs and texts; a group's calls have no group.
-/
import Derived.Test.YtpmgnhijiodbaaaAGrp15
namespace Go.Proofs.Ytpmgnhijiodbaaa
open Go Go.RowKit
set_option maxRecDepth 100000

/-! ### What a call does -/
def apL (c : Cal) (G : List Cal) (L : List Kv) : List Kv := if goodN c G = 0 then (if c.kd == 7 then gL G L else stL c L) else L
def apQ (c : Cal) (G : List Cal) (Q : List ByteArray) : List ByteArray := if goodN c G = 0 then (if c.kd == 7 then gQ G Q else stQ c Q) else Q
def apF (c : Cal) (G : List Cal) (L : List Kv) (Q : List ByteArray) : Bool := if goodN c G = 0 then (if c.kd == 7 then false else fnd c L Q) else false
def apV (c : Cal) (G : List Cal) (L : List Kv) (Q : List ByteArray) : ByteArray := if goodN c G = 0 then (if c.kd == 7 then ⟨#[]⟩ else vlu c L Q) else ⟨#[]⟩
def apM (c : Cal) (G : List Cal) (L : List Kv) : List Kv := if goodN c G = 0 then (if c.kd == 7 then [] else prs c L) else []
def apH (c : Cal) (G : List Cal) (L : List Kv) (Q : List ByteArray) : List Bool := if goodN c G = 0 then (if c.kd == 7 then hitsG G L Q else []) else []
/-- What Apply leaves. -/
def AppTo (w : World) (c : Cal) (G : List Cal) (L : List Kv) (Q : List ByteArray) (e : Ending) (w' : World) : Prop :=
  ∃ A c1 B d1 A2 c2 B2 d2, e = .returned (.tuple #[.agg #[.slice A (apL c G L).length c1, .slice B (apQ c G Q).length d1], .agg #[.int .i64 (goodN c G), .bool (apF c G L Q), .string (apV c G L Q), .slice A2 (apM c G L).length c2, .slice B2 (apH c G L Q).length d2, .int .u64 0]]) ∧
    w'.ownsRow w.heap.size RP.tE RP.k (.slice A (apL c G L).length c1) (apL c G L).length (RP.enc (apL c G L)) ∧ w'.ownsRow w.heap.size RS.tE RS.k (.slice B (apQ c G Q).length d1) (apQ c G Q).length (RS.enc (apQ c G Q)) ∧
    (∀ k, (Value.slice A (apL c G L).length c1).ownBlock = some k → (Value.slice B (apQ c G Q).length d1).ownBlock ≠ some k) ∧
    w'.ownsRow w.heap.size RP.tE RP.k (.slice A2 (apM c G L).length c2) (apM c G L).length (RP.enc (apM c G L)) ∧ w'.ownsRow w.heap.size RB.tE RB.k (.slice B2 (apH c G L Q).length d2) (apH c G L Q).length (RB.enc (apH c G L Q)) ∧ Below w.heap.size w w'
theorem good_kind {c : Cal} {G : List Cal} (h : goodN c G = 0) : formC c G = true := by
  unfold goodN at h
  split at h
  · assumption
  · omega
theorem form_kind {c : Cal} {G : List Cal} (h : formC c G = true) : ∃ k : Nat, k < 8 ∧ c.kd = (k : Int) + 1 ∧ (k = 6 → grpB G = true) := by
  unfold formC at h
  rcases kinds c.kd with e | e | e | e | e | e | e | e | ⟨k1, k2, k3, k4, k5, k6, k7, k8⟩
  · exact ⟨0, by omega, e, fun h => by omega⟩
  · exact ⟨1, by omega, e, fun h => by omega⟩
  · exact ⟨2, by omega, e, fun h => by omega⟩
  · exact ⟨3, by omega, e, fun h => by omega⟩
  · exact ⟨4, by omega, e, fun h => by omega⟩
  · exact ⟨5, by omega, e, fun h => by omega⟩
  · rw [e] at h
    exact ⟨6, by omega, e, fun _ => h⟩
  · exact ⟨7, by omega, e, fun h => by omega⟩
  · rw [k7] at h
    simp [formF, k1, k2, k3, k4, k5, k6, k8] at h
/-- What the function of a good call's kind leaves. -/
theorem good_eff {w : World} {p : Nat} {v1 v2 : Value} {L : List Kv} {Q : List ByteArray} (h : Shm w p v1 v2 L Q) (hl : L.length + 100 < 1000000) (hq : Q.length + 100 < 1000000) (c : Cal) (G : List Cal) (hG : Grp w c G) (hg : goodN c G = 0) (hA : ∀ b off, 0 < G.length → c.ga = some ⟨b, off, none⟩ → ¬ shOwn p v1 v2 b) (k : Nat) (hk : k < 8) (hc : c.kd = (k : Int) + 1) (h6 : k = 6 → grpB G = true) :
    Calls Try.prog (49 + k) #[.pointer (some ⟨p, 0, none⟩), .agg #[.int .i64 c.kd, .string c.key, .string c.val, .string c.to_, .slice c.ga c.gn c.gc]] w (ApTo w p v1 v2 (apL c G L) (apQ c G Q) (apF c G L Q) (apV c G L Q) (apM c G L) (apH c G L Q)) := by
  unfold apL apQ apF apV apM apH
  rw [if_pos hg, if_pos hg, if_pos hg, if_pos hg, if_pos hg, if_pos hg]
  by_cases h7 : k = 6
  · subst h7
    have e7 : (c.kd == 7) = true := by rw [hc]; rfl
    rw [e7]
    have hpos : 0 < G.length := by
      have := h6 rfl
      unfold grpB at this
      simp only [Bool.and_eq_true, decide_eq_true_eq] at this
      exact this.1.1
    exact agrp_any h hl hq c G hG (h6 rfl) (fun b off e => hA b off hpos e)
  · have e7 : (c.kd == 7) = false := by rw [hc, beq_eq_false_iff_ne]; omega
    rw [e7]
    exact flat_any h (by omega) (by omega) c k hk h7 hc
/-- Behind the effect: the answer in block b8, the store in N3. -/
structure P8 (x2 : World) (N2 N3 b8 : Nat) (L : List Kv) (Q : List ByteArray) (f : Bool) (v : ByteArray) (M : List Kv) (H : List Bool) (A9 : Option Addr) (c9 : Nat) (B9 : Option Addr) (d9 : Nat) (z : World) : Prop where
  ans : z.heap[b8]? = some (.cells #[.int .i64 0, .bool f, .string v, .slice A9 M.length c9, .slice B9 H.length d9, .int .u64 0] 46 (0, 0))
  sh : ∃ u1 u2, Shm z N3 u1 u2 L Q ∧ ∀ k, shOwn N3 u1 u2 k → N2 ≤ k
  bel : Below N2 x2 z
  om : z.ownsRow N2 RP.tE RP.k (.slice A9 M.length c9) M.length (RP.enc M)
  oh : z.ownsRow N2 RB.tE RB.k (.slice B9 H.length d9) H.length (RB.enc H)
  lo : N2 ≤ b8
theorem set6_heap {w : World} {g : Nat} {T : TypeId} {x0 x1 x2 x3 x4 x5 a b c d e f : Value} (h : w.heap[g]? = some (.cells #[x0, x1, x2, x3, x4, x5] T (0, 0))) : ((((((w.setCell ⟨g, 0, none⟩ a).setCell ⟨g, 1, none⟩ b).setCell ⟨g, 2, none⟩ c).setCell ⟨g, 3, none⟩ d).setCell ⟨g, 4, none⟩ e).setCell ⟨g, 5, none⟩ f).heap[g]? = some (.cells #[a, b, c, d, e, f] T (0, 0)) := by
  have h0 := heap_setCell_same w g 0 _ _ a h
  have h1 := heap_setCell_same _ g 1 _ _ b h0
  have h2 := heap_setCell_same _ g 2 _ _ c h1
  have h3 := heap_setCell_same _ g 3 _ _ d h2
  have h4 := heap_setCell_same _ g 4 _ _ e h3
  exact heap_setCell_same _ g 5 _ _ f h4
theorem set6_stay (w : World) (g : Nat) (a b c d e f : Value) : Stay (fun k => k = g) w ((((((w.setCell ⟨g, 0, none⟩ a).setCell ⟨g, 1, none⟩ b).setCell ⟨g, 2, none⟩ c).setCell ⟨g, 3, none⟩ d).setCell ⟨g, 4, none⟩ e).setCell ⟨g, 5, none⟩ f) :=
  (((((Stay.setCell (S := fun k => k = g) w g 0 a rfl).trans (Stay.setCell (S := fun k => k = g) _ g 1 b rfl)).trans (Stay.setCell (S := fun k => k = g) _ g 2 c rfl)).trans (Stay.setCell (S := fun k => k = g) _ g 3 d rfl)).trans (Stay.setCell (S := fun k => k = g) _ g 4 e rfl)).trans (Stay.setCell (S := fun k => k = g) _ g 5 f rfl)
theorem p8_ex {x2 : World} {N2 N3 b8 : Nat} {L : List Kv} {Q : List ByteArray} {f : Bool} {v : ByteArray} {M : List Kv} {H : List Bool} {A9 : Option Addr} {c9 : Nat} {B9 : Option Addr} {d9 : Nat} {X : World} (h : P8 x2 N2 N3 b8 L Q f v M H A9 c9 B9 d9 X) : ∃ z, X = z ∧ P8 x2 N2 N3 b8 L Q f v M H A9 c9 B9 d9 z := ⟨X, rfl, h⟩
theorem p8_mk {x2 X : World} {N2 N3 b8 : Nat} {L : List Kv} {Q : List ByteArray} {M : List Kv} {H : List Bool} {A9 : Option Addr} {c9 : Nat} {B9 : Option Addr} {d9 : Nat} {u1 u2 : Value} {x0 x1 y2 x3 x4 x5 : Value} (f : Bool) (v : ByteArray) (hb : Below N2 x2 X) (hx : N2 ≤ X.heap.size) (hN : N2 ≤ b8) (hz : X.heap[b8]? = some (.cells #[x0, x1, y2, x3, x4, x5] 46 (0, 0))) (hs : Shm X N3 u1 u2 L Q) (ho : ∀ k, shOwn N3 u1 u2 k → N2 ≤ k) (hn : ¬ shOwn N3 u1 u2 b8)
    (hM : X.ownsRow N2 RP.tE RP.k (.slice A9 M.length c9) M.length (RP.enc M)) (hMn : (Value.slice A9 M.length c9).ownBlock ≠ some b8) (hH : X.ownsRow N2 RB.tE RB.k (.slice B9 H.length d9) H.length (RB.enc H)) (hHn : (Value.slice B9 H.length d9).ownBlock ≠ some b8) :
    P8 x2 N2 N3 b8 L Q f v M H A9 c9 B9 d9 ((((((X.setCell ⟨b8, 0, none⟩ (.int .i64 0)).setCell ⟨b8, 1, none⟩ (.bool f)).setCell ⟨b8, 2, none⟩ (.string v)).setCell ⟨b8, 3, none⟩ (.slice A9 M.length c9)).setCell ⟨b8, 4, none⟩ (.slice B9 H.length d9)).setCell ⟨b8, 5, none⟩ (.int .u64 0)) := by
  have hst := set6_stay X b8 (.int .i64 0) (.bool f) (.string v) (.slice A9 M.length c9) (.slice B9 H.length d9) (.int .u64 0)
  exact ⟨set6_heap hz, ⟨u1, u2, hs.stay hst (fun k hk e => hn (by rw [← show k = b8 from e]; exact hk)), ho⟩, hb.trans (hst.below (fun k e => by rw [show k = b8 from e]; exact hN) hx),
    own_same hM (fun k hk => hst.block k (fun e => hMn (by rw [← show k = b8 from e]; exact hk)) (own_ltN hM hk)), own_same hH (fun k hk => hst.block k (fun e => hHn (by rw [← show k = b8 from e]; exact hk)) (own_ltN hH hk)), hN⟩
theorem own_base {w : World} {B size n : Nat} {e : TypeId} {u : Value} {xs : List Value} (h : w.ownsRow 0 e size u n xs) (hb : ∀ k, u.ownBlock = some k → B ≤ k) : w.ownsRow B e size u n xs :=
  ⟨h.1, h.2.imp id fun ⟨g, cap, cur, h1, _, h3⟩ => ⟨g, cap, cur, h1, hb g (by rw [h1]; rfl), h3⟩⟩
theorem out8 {z : World} {g4 g5 : Nat} {T U : TypeId} {x y x0 x1 x2 x3 x4 x5 s0 s1 a b c d e f : Value} (h4 : z.heap[g4]? = some (.cells #[x, y] T (0, 0))) (h5 : z.heap[g5]? = some (.cells #[x0, x1, x2, x3, x4, x5] U (0, 0))) (hne : ¬ g4 = g5) :
    VBox T ((((((((z.setCell ⟨g4, 0, none⟩ s0).setCell ⟨g4, 1, none⟩ s1).setCell ⟨g5, 0, none⟩ a).setCell ⟨g5, 1, none⟩ b).setCell ⟨g5, 2, none⟩ c).setCell ⟨g5, 3, none⟩ d).setCell ⟨g5, 4, none⟩ e).setCell ⟨g5, 5, none⟩ f).drew g4 [s0, s1] ∧ VBox U ((((((((z.setCell ⟨g4, 0, none⟩ s0).setCell ⟨g4, 1, none⟩ s1).setCell ⟨g5, 0, none⟩ a).setCell ⟨g5, 1, none⟩ b).setCell ⟨g5, 2, none⟩ c).setCell ⟨g5, 3, none⟩ d).setCell ⟨g5, 4, none⟩ e).setCell ⟨g5, 5, none⟩ f).drew g5 [a, b, c, d, e, f] ∧ Stay (fun k => k = g4 ∨ k = g5) z ((((((((z.setCell ⟨g4, 0, none⟩ s0).setCell ⟨g4, 1, none⟩ s1).setCell ⟨g5, 0, none⟩ a).setCell ⟨g5, 1, none⟩ b).setCell ⟨g5, 2, none⟩ c).setCell ⟨g5, 3, none⟩ d).setCell ⟨g5, 4, none⟩ e).setCell ⟨g5, 5, none⟩ f).drew := by
  have k4 := set2 (a := s0) (b := s1) h4
  have k5 : ((z.setCell ⟨g4, 0, none⟩ s0).setCell ⟨g4, 1, none⟩ s1).heap[g5]? = some (.cells #[x0, x1, x2, x3, x4, x5] U (0, 0)) := by
    rw [Below.heap_setCell _ _ _ _ (fun e => hne (by simpa using e.symm)), Below.heap_setCell _ _ _ _ (fun e => hne (by simpa using e.symm))]
    exact h5
  have st2 : Stay (fun k => k = g4 ∨ k = g5) z ((z.setCell ⟨g4, 0, none⟩ s0).setCell ⟨g4, 1, none⟩ s1) := (Stay.setCell (S := fun k => k = g4 ∨ k = g5) z g4 0 s0 (.inl rfl)).trans (Stay.setCell (S := fun k => k = g4 ∨ k = g5) _ g4 1 s1 (.inl rfl))
  generalize ((z.setCell ⟨g4, 0, none⟩ s0).setCell ⟨g4, 1, none⟩ s1) = y2 at *
  have k5' := set6_heap (a := a) (b := b) (c := c) (d := d) (e := e) (f := f) k5
  have st6 := set6_stay y2 g5 a b c d e f
  have k4' := (st6.block g4 hne (lt_of_heap k4)).trans k4
  have st8 := st2.trans (st6.mono (S' := fun k => k = g4 ∨ k = g5) (fun k _ e => .inr e))
  clear st6
  generalize ((((((y2.setCell ⟨g5, 0, none⟩ a).setCell ⟨g5, 1, none⟩ b).setCell ⟨g5, 2, none⟩ c).setCell ⟨g5, 3, none⟩ d).setCell ⟨g5, 4, none⟩ e).setCell ⟨g5, 5, none⟩ f) = y8 at *
  exact ⟨k4', k5', st8.os, st8.tape, st8.output, st8.size, st8.block⟩
set_option maxHeartbeats 6400000 in
theorem apply15_any {w : World} {A B : Option Addr} {n cp m d : Nat} {L : List Kv} {Q : List ByteArray} (h : Shv w A n cp B m d L Q) (hl : L.length + 100 < 1000000) (hq : Q.length + 100 < 1000000) (c : Cal) (G : List Cal) (hG : Grp w c G) :
    Calls Try.prog 13 #[.agg #[.slice A n cp, .slice B m d], .agg #[.int .i64 c.kd, .string c.key, .string c.val, .string c.to_, .slice c.ga c.gn c.gc]] w (AppTo w c G L Q) := by
  obtain ⟨gs, hgs⟩ : ∃ g, w.heap.size = g := ⟨_, rfl⟩
  obtain ⟨w0, hw0⟩ : ∃ w0, w.alloc (.cells #[.slice A n cp, .slice B m d] 25) = w0 := ⟨_, rfl⟩
  have HSX : Hid (w0.heap[gs]? = some (.cells #[.slice A n cp, .slice B m d] 25 (0, 0))) := by rw [← hw0, ← hgs]; exact heap_alloc_new w _
  have HSB : Hid (Below gs w w0) := by rw [← hw0, ← hgs]; exact (Below.refl _ _).alloc (Nat.le_refl _) _
  have HW0 : Hid (w0.heap.size = gs + 1) := by rw [← hw0, ← hgs]; show _ = _; simp
  have h0 := h.below (hgs ▸ HSB.out)
  have hG0 := hG.below (hgs ▸ HSB.out)
  obtain ⟨g, hg⟩ : ∃ g, w0.heap.size = g := ⟨_, rfl⟩
  obtain ⟨w1, hw1⟩ : ∃ w1, w0.alloc (.cells #[.int .i64 c.kd, .string c.key, .string c.val, .string c.to_, .slice c.ga c.gn c.gc] 31) = w1 := ⟨_, rfl⟩
  have HXg : Hid (CBox w1 g c) := by rw [← hw1, ← hg]; exact heap_alloc_new w0 _
  have HBg : Hid (Below g w0 w1) := by rw [← hw1, ← hg]; exact (Below.refl _ _).alloc (Nat.le_refl _) _
  have HGg : Hid (w0.heap.size = g) := hg
  have hgg : g = gs + 1 := hg.symm.trans HW0.out
  have h1 := h0.below (hg ▸ HBg.out)
  have hG1 := hG0.below (hg ▸ HBg.out)
  have HSX1 := Lib.hid ((HBg.out.block gs (by omega)).trans HSX.out)
  obtain ⟨g4, hg4⟩ : ∃ g1, w1.heap.size = g1 := ⟨_, rfl⟩
  have HG4 := Lib.hid hg4
  have HL : Hid (g < g4) := hg4 ▸ HXg.out.lt
  have HZA := Lib.hid zero_answer
  have HZS := Lib.hid zero_shelf
  have HBW : Hid (Below gs w w1) := HSB.out.trans (HBg.out.mono (by omega))
  have HGG : Hid (g = gs + 1) := hgg
  have HGS : Hid (w.heap.size = gs) := hgs
  have HGA : Hid (∀ b off, 0 < G.length → c.ga = some ⟨b, off, none⟩ → b < gs) := fun b off hpos e => by
    obtain ⟨b2, off2, e2, hlt, _⟩ := hG.row.2 hpos
    rw [e] at e2
    cases e2
    omega
  have HLM : Hid (L.length + 100 < 1000000 ∧ Q.length + 100 < 1000000) := ⟨hl, hq⟩
  have HV1 := Lib.hid h1
  have HGR := Lib.hid hG1
  obtain ⟨c0, c1, c2, c3, c4⟩ := HXg.out.at_
  obtain ⟨p0, p1⟩ := cells2 HSX1.out
  obtain ⟨R, hR⟩ : ∃ R, AppTo w c G L Q = R := ⟨_, rfl⟩
  rw [hR]
  clear h h0 h1 hG hG0 hG1 hl hq hgg hg4
  go_enter Try.func13, Try.ntmps13
  go_wp2_with (first
    | ((with_reducible show wpList _ _ _ (⟨some 4, .alloc _, _, _, _, _⟩ :: _) _ _); refine wpList_alloc_var (o := ⟨some 4, _, _, _, _, _⟩) rfl 25 rfl g4 HG4.out _ HZS.out ?_; intro x1 X1 B1; obtain ⟨g5, hg5⟩ : ∃ g5, x1.heap.size = g5 := ⟨_, rfl⟩; have HG5 := Lib.hid hg5; have HL5 : Hid (g4 < g5) := (by rw [← hg5]; exact lt_of_heap X1.out); clear hg5)
    | ((with_reducible show wpList _ _ _ (⟨some 5, .alloc _, _, _, _, _⟩ :: _) _ _); refine wpList_alloc_var (o := ⟨some 5, _, _, _, _, _⟩) rfl 46 rfl g5 HG5.out _ HZA.out ?_; intro x2 X2 B2; obtain ⟨r0, r1⟩ := cells2 (((B2.out.block gs (by have := HL.out; have := HL5.out; have := HGG.out; omega)).trans (B1.out.block gs (by have := HL.out; have := HGG.out; omega))).trans HSX1.out))
    | fail)
  have HLL : Hid (gs < g ∧ g < g4 ∧ g4 < g5 ∧ g5 < x2.heap.size) := ⟨by have := HGG.out; omega, HL.out, HL5.out, lt_of_heap X2.out⟩
  have HB12 : Hid (Below g4 w1 x2) := B1.out.trans (B2.out.mono (Nat.le_of_lt HL5.out))
  have HV2 := Lib.hid (HV1.out.below (HG4.out.symm ▸ HB12.out))
  have HGR2 := Lib.hid (HGR.out.below (HG4.out.symm ▸ HB12.out))
  have HXg2 := Lib.hid (HXg.out.below HB12.out HL.out)
  have HSX2 := Lib.hid ((HB12.out.block gs (by have := HLL.out; omega)).trans HSX1.out)
  have HX4 : Hid (x2.heap[g4]? = some (.cells #[.slice none 0 0, .slice none 0 0] 25 (0, 0))) := (B2.out.block g4 HL5.out).trans X1.out
  have HX5 : Hid (x2.heap[g5]? = some (.cells #[.int .i64 0, .bool false, .string ⟨#[]⟩, .slice none 0 0, .slice none 0 0, .int .u64 0] 46 (0, 0))) := X2.out
  have HBW2 : Hid (Below gs w x2) := HBW.out.trans (HB12.out.mono (by have := HLL.out; omega))
  clear hw0 hw1 hgs hg c0 c1 c2 c3 c4 p0 p1 r0 r1 X1 X2 B1 B2 HG5 HL5 HL HV1 HGR HXg HSX1 HSX HSB HW0 HBg HGg HBW HB12 HG4
  have HCS := Lib.hid (copyshelf_any HV2.out)
  refine HCS.out.mono ?_
  rintro e x3 ⟨A1, a1, B1, b1, rfl, o1, o2, one, hb3⟩
  obtain ⟨N3, hN3⟩ : ∃ N, x3.heap.size = N := ⟨_, rfl⟩
  have HN3 := Lib.hid hN3
  obtain ⟨N2, hN2⟩ : ∃ N, x2.heap.size = N := ⟨_, rfl⟩
  rw [hN2] at o1 o2 hb3 HLL
  have HN23 : Hid (N2 ≤ N3) := by rw [← hN2, ← hN3]; exact hN2 ▸ hb3.size
  have HB3 := Lib.hid hb3
  have HN2 := Lib.hid hN2
  have HO1 := Lib.hid o1
  have HO2 := Lib.hid o2
  have HNE := Lib.hid one
  clear o1 o2 one hb3 hN3 hN2
  have HXg3 := Lib.hid (HXg2.out.below HB3.out (by have := HLL.out; omega))
  have HGR3 := Lib.hid (HGR2.out.below (HN2.out.symm ▸ HB3.out))
  obtain ⟨c0, c1, c2, c3, c4⟩ := HXg3.out.at_
  go_wp2_with (first
    | ((with_reducible show wpList _ _ _ (⟨some 6, .alloc _, _, _, _, _⟩ :: _) _ _); refine wpList_alloc_var (o := ⟨some 6, _, _, _, _, _⟩) rfl 25 rfl N3 HN3.out _ HZS.out ?_; intro y1 Y1 C1)
    | ((with_reducible show wpList _ _ _ (⟨none, .store _ (.tmp 6) _, _, _, _, _⟩ :: _) _ _); refine wpList_store_whole (o := ⟨none, .store 25 (.tmp 6) (.tmp 10), _, _, _, _⟩) rfl _ _ _ rfl rfl N3 #[.slice A1 L.length a1, .slice B1 Q.length b1] rfl rfl 25 _ Y1.out size_shelf rfl (onesV _ _ _ _ _ _) ?_; intro y2 Y2 C2; have HC2 : Hid (Below N3 x3 y2) := C1.out.trans C2.out; obtain ⟨d0, d1, d2, d3, d4⟩ := (HXg3.out.below HC2.out (by have := HLL.out; have := HN23.out; omega)).at_)
    | fail)
  clear c0 c1 c2 c3 c4
  have HGR4 := Lib.hid (HGR3.out.below (HN3.out.symm ▸ HC2.out))
  have HGO := Lib.hid (good_any c G y2 HGR4.out)
  refine HGO.out.mono ?_
  rintro e x4 ⟨rfl, hb4⟩
  have HSH : Hid (Shm y2 N3 (.slice A1 L.length a1) (.slice B1 Q.length b1) L Q) := ⟨Y2.out, own_mono (own_keep HO1.out (HN3.out.symm ▸ HC2.out)) (Nat.zero_le _), own_mono (own_keep HO2.out (HN3.out.symm ▸ HC2.out)) (Nat.zero_le _), fun e => by have := own_ltN HO1.out e; have := HN3.out; omega, fun e => by have := own_ltN HO2.out e; have := HN3.out; omega, HNE.out, by have := HLM.out.1; omega, by have := HLM.out.2; omega⟩
  have HSH4 := Lib.hid (HSH.out.below hb4)
  have HLY : Hid (N3 < y2.heap.size) := lt_of_heap Y2.out
  have HB4 : Hid (Below N2 x2 x4) := HB3.out.trans ((HC2.out.trans (hb4.mono (Nat.le_of_lt HLY.out))).mono HN23.out)
  have HGR5 := Lib.hid (HGR4.out.below hb4)
  have HX44 := Lib.hid ((HB4.out.block g4 (by have := HLL.out; omega)).trans HX4.out)
  have HX55 := Lib.hid ((HB4.out.block g5 (by have := HLL.out; omega)).trans HX5.out)
  have HXg4 := Lib.hid (HXg2.out.below HB4.out (by have := HLL.out; omega))
  have HOW4 : Hid (∀ k, shOwn N3 (.slice A1 L.length a1) (.slice B1 Q.length b1) k → N2 ≤ k) := fun k hk => by
    rcases hk with e | e | e
    · have := HN23.out; omega
    · exact own_ge HO1.out k e
    · exact own_ge HO2.out k e
  clear hb4 HGO HGR4 HSH HGR3 HXg3 HO1 HO2 HNE HCS d0 d1 d2 d3 d4 HSX2 HXg2 HGR2 HV2
  by_cases hgood : goodN c G = 0
  · have hgz : goodN c G = 0 := hgood
    obtain ⟨k, hk, hck, h6⟩ := form_kind (good_kind hgood)
    have HGE := Lib.hid (fun (y : World) (hy : Shm y N3 (.slice A1 L.length a1) (.slice B1 Q.length b1) L Q) (hgy : Grp y c G) => good_eff hy HLM.out.1 HLM.out.2 c G hgy hgood (fun b off hpos e he => by
      have h1 := HGA.out b off hpos e
      have h2 := HOW4.out b he
      have h3 := HLL.out
      omega) k hk hck h6)
    obtain ⟨F, hF⟩ : ∃ F, 49 + k = F := ⟨_, rfl⟩
    have eg : ∀ args w, (callFunc F args).run Try.prog w = .ok (.enter F args) w := hF ▸ flat_enter k hk
    have HLK : Hid (∀ y b, MapF y b 8 → (Instr.lookup 71 (.map (some b)) (.int .i64 c.kd) false).run Try.prog y = .ok (.func (.func F) #[] #[]) y) := fun y b hy => by rw [hck, ← hF]; exact hy.look k hk
    rw [hF] at HGE
    have HCK := Lib.hid hck
    have HEF := Lib.hid (fun w' => effects_any w')
    rw [hgood]
    obtain ⟨N4, hN4⟩ : ∃ N, x4.heap.size = N := ⟨_, rfl⟩
    have HN4 := Lib.hid hN4
    have HBa : Hid (∀ W W', (W = x4.drew ∨ W = x4.drew.alloc (.cells #[.int .i64 0, .bool false, .string ⟨#[]⟩, .slice none 0 0, .slice none 0 0, .int .u64 0] 46) ∨ W = (x4.alloc (.cells #[.int .i64 0, .bool false, .string ⟨#[]⟩, .slice none 0 0, .slice none 0 0, .int .u64 0] 46)).drew) → Below W.heap.size W W' → Below N4 x4 W') := fun W W' hW hb => by
      rw [← HN4.out]
      rcases hW with rfl | rfl | rfl
      · exact (Below.refl _ _).drew.trans hb
      · exact ((Below.refl _ _).drew.alloc (Nat.le_refl _) _).trans (hb.mono (by simp))
      · exact ((Below.refl _ _).alloc (Nat.le_refl _) _).drew.trans (hb.mono (by simp))
    have hg4' : g < N4 := by rw [← hN4]; exact HXg4.out.lt
    have hg4n : ¬ g = N4 := by omega
    have hg4m : ¬ N4 = g := by omega
    obtain ⟨c0, c1, c2, c3, c4⟩ := HXg4.out.at_
    have HNN : Hid (N2 ≤ N4 ∧ ¬ shOwn N3 (.slice A1 L.length a1) (.slice B1 Q.length b1) N4) := ⟨by rw [← HN4.out]; have := HB4.out.size; have := HN2.out; omega, fun e => by have := HSH4.out.lt e; have := HN4.out; omega⟩
    have HN5 : Hid (∀ x5, Below N4 x4 x5 → N2 ≤ x5.heap.size ∧ ¬ shOwn N3 (.slice A1 L.length a1) (.slice B1 Q.length b1) x5.heap.size) := fun x5 hb => ⟨by have := HNN.out.1; have := hb.size; have := HN4.out; omega, fun e => by have := HSH4.out.lt e; have := hb.size; omega⟩
    have HSQ : Hid (∀ x5 y, Below N4 x4 x5 → (y = x5 ∨ y = x5.alloc (.cells #[.int .i64 0, .bool false, .string ⟨#[]⟩, .slice none 0 0, .slice none 0 0, .int .u64 0] 46)) → Shm y N3 (.slice A1 L.length a1) (.slice B1 Q.length b1) L Q ∧ Grp y c G) := fun x5 y hb hy => by
      have hb' : Below x4.heap.size x4 x5 := HN4.out.symm ▸ hb
      rcases hy with rfl | rfl
      · exact ⟨HSH4.out.below hb', HGR5.out.below hb'⟩
      · have hb2 : Below x4.heap.size x4 (x5.alloc (.cells #[.int .i64 0, .bool false, .string ⟨#[]⟩, .slice none 0 0, .slice none 0 0, .int .u64 0] 46)) := hb'.alloc hb'.size _
        exact ⟨HSH4.out.below hb2, HGR5.out.below hb2⟩
    have HQQ : Hid (∀ x5, Below N4 x4 x5 → ∀ y, (y = x5 ∨ y = x5.alloc (.cells #[.int .i64 0, .bool false, .string ⟨#[]⟩, .slice none 0 0, .slice none 0 0, .int .u64 0] 46)) → ∀ x6 A9 c9 B9 d9, x6.ownsRow y.heap.size RP.tE RP.k (.slice A9 (apM c G L).length c9) (apM c G L).length (RP.enc (apM c G L)) → x6.ownsRow y.heap.size RB.tE RB.k (.slice B9 (apH c G L Q).length d9) (apH c G L Q).length (RB.enc (apH c G L Q)) → ShTo y N3 (.slice A1 L.length a1) (.slice B1 Q.length b1) (apL c G L) (apQ c G Q) x6 →
        (∀ b8, N2 ≤ b8 → b8 < y.heap.size → y.heap[b8]? = some (.cells #[.int .i64 0, .bool false, .string ⟨#[]⟩, .slice none 0 0, .slice none 0 0, .int .u64 0] 46 (0, 0)) → ¬ shOwn N3 (.slice A1 L.length a1) (.slice B1 Q.length b1) b8 → (x6.cell? ⟨b8, 0, none⟩ = some (.int .i64 0) ∧ x6.cell? ⟨b8, 1, none⟩ = some (.bool false) ∧ x6.cell? ⟨b8, 2, none⟩ = some (.string ⟨#[]⟩) ∧ x6.cell? ⟨b8, 3, none⟩ = some (.slice none 0 0) ∧ x6.cell? ⟨b8, 4, none⟩ = some (.slice none 0 0) ∧ x6.cell? ⟨b8, 5, none⟩ = some (.int .u64 0)) ∧ (∀ j, x6.frozen? ⟨b8, j, none⟩ = false) ∧
          ∀ f v, P8 x2 N2 N3 b8 (apL c G L) (apQ c G Q) f v (apM c G L) (apH c G L Q) A9 c9 B9 d9 ((((((x6.setCell ⟨b8, 0, none⟩ (.int .i64 0)).setCell ⟨b8, 1, none⟩ (.bool f)).setCell ⟨b8, 2, none⟩ (.string v)).setCell ⟨b8, 3, none⟩ (.slice A9 (apM c G L).length c9)).setCell ⟨b8, 4, none⟩ (.slice B9 (apH c G L Q).length d9)).setCell ⟨b8, 5, none⟩ (.int .u64 0))) ∧ ∀ f v, P8 x2 N2 N3 x6.heap.size (apL c G L) (apQ c G Q) f v (apM c G L) (apH c G L Q) A9 c9 B9 d9 (x6.alloc (.cells #[.int .i64 0, .bool f, .string v, .slice A9 (apM c G L).length c9, .slice B9 (apH c G L Q).length d9, .int .u64 0] 46))) := fun x5 hb5 y hy x6 A9 c9 B9 d9 hm9 hh9 hto => by
      have hy5 : Below N2 x2 y ∧ N2 ≤ y.heap.size := by
        have h1 : Below N2 x2 x5 := HB4.out.trans (hb5.mono HNN.out.1)
        have h2 := (HN5.out x5 hb5).1
        rcases hy with rfl | rfl
        · exact ⟨h1, h2⟩
        · exact ⟨h1.alloc h2 _, by simp; omega⟩
      obtain ⟨u1, u2, k1, k2, k3⟩ := hto
      have how : ∀ k, shOwn N3 u1 u2 k → N2 ≤ k := fun k hk => by
        rcases k3 k hk with e | e
        · exact HOW4.out k e
        · have := hy5.2; omega
      have hb6 : Below N2 x2 x6 := hy5.1.trans (k2.below HOW4.out hy5.2)
      have hx6 : N2 ≤ x6.heap.size := Nat.le_trans hy5.2 k2.size
      refine ⟨fun b8 j1 j2 j3 j4 => ?_, fun f v => ?_⟩
      · have hz := (k2.block b8 j4 j2).trans j3
        refine ⟨cells6 hz, fun j => by simp [World.frozen?, hz], fun f v => ?_⟩
        refine p8_mk f v hb6 hx6 j1 hz k1 how (fun e => ?_) (own_mono hm9 hy5.2) (fun e => ?_) (own_mono hh9 hy5.2) (fun e => ?_)
        · rcases k3 _ e with e2 | e2
          · exact j4 e2
          · omega
        · have := own_ge hm9 _ e; omega
        · have := own_ge hh9 _ e; omega
      · have hba : Below x6.heap.size x6 (x6.alloc (.cells #[.int .i64 0, .bool f, .string v, .slice A9 (apM c G L).length c9, .slice B9 (apH c G L Q).length d9, .int .u64 0] 46)) := (Below.refl _ _).alloc (Nat.le_refl _) _
        exact ⟨heap_alloc_new x6 _, ⟨u1, u2, k1.below hba, how⟩, hb6.alloc hx6 _, own_keep (own_mono hm9 hy5.2) hba, own_keep (own_mono hh9 hy5.2) hba, hx6⟩
    have HG6 : Hid (∀ x5, Below N4 x4 x5 → ∀ x6 y, (y = x5 ∨ y = x5.alloc (.cells #[.int .i64 0, .bool false, .string ⟨#[]⟩, .slice none 0 0, .slice none 0 0, .int .u64 0] 46)) → ShTo y N3 (.slice A1 L.length a1) (.slice B1 Q.length b1) (apL c G L) (apQ c G Q) x6 → (¬ g = x6.heap.size) ∧ CBox x6 g c) := fun x5 hb5 x6 y hy hto => by
      have hgl := HXg4.out.lt
      have h5 := HXg4.out.below hb5 hg4'
      have hy5 : CBox y g c ∧ g < y.heap.size := by
        rcases hy with rfl | rfl
        · exact ⟨h5, h5.lt⟩
        · have := h5.below ((Below.refl x5.heap.size x5).alloc (Nat.le_refl _) (.cells #[.int .i64 0, .bool false, .string ⟨#[]⟩, .slice none 0 0, .slice none 0 0, .int .u64 0] 46)) h5.lt
          exact ⟨this, this.lt⟩
      obtain ⟨u1, u2, k1, k2, k3⟩ := hto
      have hng : ¬ shOwn N3 (.slice A1 L.length a1) (.slice B1 Q.length b1) g := fun e => by have := HOW4.out g e; have := HLL.out; omega
      exact ⟨by have := k2.size; have := hy5.2; omega, (k2.block g hng hy5.2).trans hy5.1⟩
    clear hgood hck hF hk h6
    go_wp2
    go_region_held3 (fun w' => w'.cell? ⟨g, 0, none⟩ = some (.int .i64 c.kd) ∧ w'.cell? ⟨g, 1, none⟩ = some (.string c.key) ∧ w'.cell? ⟨g, 2, none⟩ = some (.string c.val) ∧ w'.cell? ⟨g, 3, none⟩ = some (.string c.to_) ∧ w'.cell? ⟨g, 4, none⟩ = some (.slice c.ga c.gn c.gc)) (go_keep)
      (first
        | (go_at_call 32; refine (HEF.out _).mono ?_; rintro e x5 ⟨bm, rfl, hm, hbm, hbe⟩; have HB5 := Lib.hid (HBa.out _ _ (by first | exact .inl rfl | exact .inr (.inl rfl) | exact .inr (.inr rfl)) hbe); have HX5g := Lib.hid (HXg4.out.below HB5.out hg4'); obtain ⟨d0, d1, d2, d3, d4⟩ := HX5g.out.at_; have hl5 := HLK.out x5 bm hm; have hl5b := HLK.out (x5.alloc (.cells #[.int .i64 0, .bool false, .string ⟨#[]⟩, .slice none 0 0, .slice none 0 0, .int .u64 0] 46)) bm (hm.stay (Below.heap_alloc _ _ _ hm.lt)); have hg5n : ¬ g = x5.heap.size := (by have := HX5g.out.lt; omega); have hg5m : ¬ x5.heap.size = g := (by have := HX5g.out.lt; omega); have HPW := Lib.hid (fun y hy => HQQ.out x5 HB5.out y hy); (first | (have HAN5 : Hid (x5.heap[N4]? = some (.cells #[.int .i64 0, .bool false, .string ⟨#[]⟩, .slice none 0 0, .slice none 0 0, .int .u64 0] 46 (0, 0))) := ((hbe.block N4 (by rw [← HN4.out]; simp)).trans (by rw [← HN4.out]; first | exact heap_alloc_new x4.drew _ | exact heap_alloc_new x4 _))) | (have HAN5 : Hid True := trivial)); clear hm hbm hbe)
        | (go_at_fn F; refine (HGE.out _ (HSQ.out _ _ HB5.out (by first | exact .inl rfl | exact .inr rfl)).1 (HSQ.out _ _ HB5.out (by first | exact .inl rfl | exact .inr rfl)).2).mono ?_; rintro e x6 ⟨A9, c9, B9, d9, rfl, hm9, hh9, hto⟩; obtain ⟨hPA, hPB⟩ := HPW.out _ (by first | exact .inl rfl | exact .inr rfl) x6 A9 c9 B9 d9 hm9 hh9 hto; have HPB := Lib.hid hPB; (first | (have hPA6 := hPA N4 HNN.out.1 (lt_of_heap HAN5.out) HAN5.out HNN.out.2; obtain ⟨hc6, hf6, hp6⟩ := hPA6; have HPA := Lib.hid hp6; clear hp6; obtain ⟨m0, m1, m2, m3, m4, m5⟩ := hc6) | skip); (first | (have hPA7 := hPA x5.heap.size (HN5.out x5 HB5.out).1 (by simp) (heap_alloc_new _ _) (HN5.out x5 HB5.out).2; obtain ⟨hc7, hf7, hp7⟩ := hPA7; have HPA := Lib.hid hp7; clear hp7; obtain ⟨m0, m1, m2, m3, m4, m5⟩ := hc7) | skip); have hg6n : ¬ g = x6.heap.size := (HG6.out x5 HB5.out x6 _ (by first | exact .inl rfl | exact .inr rfl) hto).1; have hg6m : ¬ x6.heap.size = g := (fun e => hg6n e.symm); obtain ⟨e0, e1, e2, e3, e4⟩ := (HG6.out x5 HB5.out x6 _ (by first | exact .inl rfl | exact .inr rfl) hto).2.at_; clear hPA hPB hm9 hh9 hto)
        | fail)
    all_goals
      first
        | (have hq := HPA.out (apF c G L Q) (apV c G L Q); obtain ⟨z, hz, hp⟩ := p8_ex hq; clear hq)
        | (have hq := HPB.out (apF c G L Q) (apV c G L Q); obtain ⟨z, hz, hp⟩ := p8_ex hq; clear hq)
      rw [hz]
      have HP := Lib.hid hp
      clear hz hp
    all_goals
      have hlo := HP.out.lo
      have hll := HLL.out
      obtain ⟨u1, u2, hsm, how⟩ := HP.out.sh
      obtain ⟨A3, a3, B3, b3, e1, e2, -⟩ := hsm.forms
      subst e1
      subst e2
      obtain ⟨m0, m1⟩ := cells2 hsm.mem
      obtain ⟨n0, n1, n2, n3, n4, n5⟩ := cells6 HP.out.ans
      have hz4 := (HP.out.bel.block g4 (by omega)).trans HX4.out
      have hz5 := (HP.out.bel.block g5 (by omega)).trans HX5.out
      obtain ⟨k0, k1⟩ := cells2 hz4
      obtain ⟨l0, l1, l2, l3, l4, l5⟩ := cells6 hz5
      have kf : ∀ j, z.frozen? ⟨g4, j, none⟩ = false := fun j => by simp [World.frozen?, hz4]
      have lf : ∀ j, z.frozen? ⟨g5, j, none⟩ = false := fun j => by simp [World.frozen?, hz5]
      have d45 : ¬ g4 = g5 := by omega
      have d54 : ¬ g5 = g4 := by omega
      have hn3 := HN23.out
      have d34 : ¬ N3 = g4 := by omega
      have d43 : ¬ g4 = N3 := by omega
      have d35 : ¬ N3 = g5 := by omega
      have d53 : ¬ g5 = N3 := by omega
      have HZ4 := Lib.hid hz4
      have HZ5 := Lib.hid hz5
      have HSM := Lib.hid hsm
      have HOWN := Lib.hid how
      first
        | (have d84 : ¬ N4 = g4 := by omega
           have d48 : ¬ g4 = N4 := by omega
           have d85 : ¬ N4 = g5 := by omega
           have d58 : ¬ g5 = N4 := by omega)
        | skip
      first
        | (have d84' : ¬ x5.heap.size = g4 := by omega
           have d48' : ¬ g4 = x5.heap.size := by omega
           have d85' : ¬ x5.heap.size = g5 := by omega
           have d58' : ¬ g5 = x5.heap.size := by omega)
        | skip
      first
        | (have d84'' : ¬ x6.heap.size = g4 := by omega
           have d48'' : ¬ g4 = x6.heap.size := by omega
           have d85'' : ¬ x6.heap.size = g5 := by omega
           have d58'' : ¬ g5 = x6.heap.size := by omega)
        | skip
      clear hz4 hz5 hsm how
      go_wp2
      go_region
      all_goals
        go_wp2
        obtain ⟨t4, t5, tst⟩ := out8 (s0 := .slice A3 (apL c G L).length a3) (s1 := .slice B3 (apQ c G Q).length b3) (a := .int .i64 0) (b := .bool (apF c G L Q)) (c := .string (apV c G L Q)) (d := .slice A9 (apM c G L).length c9) (e := .slice B9 (apH c G L Q).length d9) (f := .int .u64 0) HZ4.out HZ5.out d45
        refine bodyPost_ret (results_v2 rfl Try.underlying25 Try.underlying46 rfl rfl t4 size_shelf t5 size_answer) rfl ?_
        rw [← hR]
        have hgs := HGS.out
        have hzs : N2 ≤ z.heap.size := by have := HP.out.bel.size; have := HN2.out; omega
        have hbz := (HBW2.out.trans (HP.out.bel.mono (show gs ≤ N2 by omega))).trans (tst.below (g := gs) (fun k e => by rcases e with e | e <;> omega) (by omega))
        have hno : ∀ k, shOwn N3 (.slice A3 (apL c G L).length a3) (.slice B3 (apQ c G Q).length b3) k → N2 ≤ k := HOWN.out
        refine ⟨A3, a3, B3, b3, A9, c9, B9, d9, by rw [hgz], ?_, ?_, HSM.out.ne3, ?_, ?_, by rw [hgs]; exact hbz⟩
        · rw [hgs]
          exact own_base (own_same HSM.out.o1 (fun k hk => tst.block k (fun e => by have := hno k (.inr (.inl hk)); rcases e with e | e <;> omega) (own_ltN HSM.out.o1 hk))) (fun k hk => by have := hno k (.inr (.inl hk)); omega)
        · rw [hgs]
          exact own_base (own_same HSM.out.o2 (fun k hk => tst.block k (fun e => by have := hno k (.inr (.inr hk)); rcases e with e | e <;> omega) (own_ltN HSM.out.o2 hk))) (fun k hk => by have := hno k (.inr (.inr hk)); omega)
        · rw [hgs]
          exact own_mono (own_same HP.out.om (fun k hk => tst.block k (fun e => by have := own_ge HP.out.om k hk; rcases e with e | e <;> omega) (own_ltN HP.out.om hk))) (by omega)
        · rw [hgs]
          exact own_mono (own_same HP.out.oh (fun k hk => tst.block k (fun e => by have := own_ge HP.out.oh k hk; rcases e with e | e <;> omega) (own_ltN HP.out.oh hk))) (by omega)
  · have hne : (goodN c G != 0) = true := by rw [bne, beq_eq_false_iff_ne.2 hgood]; rfl
    have hl := HLL.out
    have hn3 := HN23.out
    obtain ⟨m0, m1⟩ := cells2 HSH4.out.mem
    have HAP : Hid (apL c G L = L ∧ apQ c G Q = Q ∧ apF c G L Q = false ∧ apV c G L Q = ⟨#[]⟩ ∧ apM c G L = [] ∧ apH c G L Q = []) := by
      unfold apL apQ apF apV apM apH
      rw [if_neg hgood, if_neg hgood, if_neg hgood, if_neg hgood, if_neg hgood, if_neg hgood]
      exact ⟨rfl, rfl, rfl, rfl, rfl, rfl⟩
    have d45 : ¬ g5 = g4 := by omega
    generalize hgd : goodN c G = gd at *
    have HGD := Lib.hid hgd
    clear hgood hgd
    go_wp2_with (first
      | ((with_reducible show wpList _ _ _ (⟨none, .store _ (.tmp 4) _, _, _, _, _⟩ :: _) _ _); refine wpList_store_only (o := ⟨none, .store 25 (.tmp 4) (.tmp 15), _, _, _, _⟩) rfl _ _ _ rfl rfl g4 #[.slice A1 L.length a1, .slice B1 Q.length b1] rfl rfl 25 _ HX44.out size_shelf rfl (onesV _ _ _ _ _ _) ?_; intro z1 Z1 T1; have HX55' := Lib.hid ((T1.out.block g5 d45 d45 (lt_of_heap HX55.out)).trans HX55.out))
      | ((with_reducible show wpList _ _ _ (⟨none, .store _ (.tmp 5) _, _, _, _, _⟩ :: _) _ _); refine wpList_store_only (o := ⟨none, .store 46 (.tmp 5) (.tmp 17), _, _, _, _⟩) rfl _ _ _ rfl rfl g5 #[.int .i64 gd, .bool false, .string ⟨#[]⟩, .slice none 0 0, .slice none 0 0, .int .u64 0] rfl rfl 46 _ HX55'.out size_answer rfl (onesA _ _ _ _ _ _ _ _ _ _) ?_; intro z2 Z2 T2)
      | fail)
    have hz4 := (T2.out.block g4 (fun e => d45 e.symm) (fun e => d45 e.symm) (lt_of_heap Z1.out)).trans Z1.out
    refine bodyPost_ret (results_v2 (cs := [.slice A1 L.length a1, .slice B1 Q.length b1]) (cs2 := [.int .i64 gd, .bool false, .string ⟨#[]⟩, .slice none 0 0, .slice none 0 0, .int .u64 0]) rfl Try.underlying25 Try.underlying46 rfl rfl hz4 size_shelf Z2.out size_answer) rfl ?_
    rw [← hR]
    have hgs := HGS.out
    have hst : Stay (fun k => k = g4 ∨ k = g5) x4 z2 := ((stay_of_turns T1.out).mono (S' := fun k => k = g4 ∨ k = g5) (fun k _ e => .inl e)).trans ((stay_of_turns T2.out).mono (fun k _ e => .inr e))
    have hx4 : N2 ≤ x4.heap.size := by have := HB4.out.size; have := HN2.out; omega
    have hbz := (HBW2.out.trans (HB4.out.mono (show gs ≤ N2 by omega))).trans (hst.below (g := gs) (fun k e => by rcases e with e | e <;> omega) (by omega))
    have hno := HOW4.out
    obtain ⟨q1, q2, q3, q4, q5, q6⟩ := HAP.out
    unfold AppTo
    rw [q1, q2, q3, q4, q5, q6, HGD.out]
    refine ⟨A1, a1, B1, b1, none, 0, none, 0, rfl, ?_, ?_, HSH4.out.ne3, World.ownsRow_nil _ _ _ _, World.ownsRow_nil _ _ _ _, by rw [hgs]; exact hbz⟩
    · rw [hgs]
      exact own_base (own_same HSH4.out.o1 (fun k hk => hst.block k (fun e => by have := hno k (.inr (.inl hk)); rcases e with e | e <;> omega) (own_ltN HSH4.out.o1 hk))) (fun k hk => by have := hno k (.inr (.inl hk)); omega)
    · rw [hgs]
      exact own_base (own_same HSH4.out.o2 (fun k hk => hst.block k (fun e => by have := hno k (.inr (.inr hk)); rcases e with e | e <;> omega) (own_ltN HSH4.out.o2 hk))) (fun k hk => by have := hno k (.inr (.inr hk)); omega)

end Go.Proofs.Ytpmgnhijiodbaaa
