/-
  Proved here, joined: ShfA16
  Conditions: as each part says.
-/
import Derived.Test.YtlghphccmgmomaaGreatJN47
import Derived.Test.YtlghphccmgmomaaGreatJN31
import Derived.Test.YtlghphccmgmomaaGreatJN36
import Derived.Deep.RegionHeld3
import Derived.Deep.Cut
import Derived.Deep.CutRange

/-
  Proved here: Shelf, package arena.
  Conditions: at most 100,000 links, their lines of at most a million.
-/
namespace Go.Proofs.YtlghphccmgmomaaGreat
open Go Go.RowKit
set_option maxRecDepth 100000

open Classical
/-! ### What a read leaves in a variable, in a region that draws -/
def GotB (v : World) (x : BV) (f : Bool) (s6 s7 : Value) (wx : World) : Prop :=
  ∃ g6, s6 = .pointer (some ⟨g6, 0, none⟩) ∧ s7 = .bool f ∧ Hid (Box wx g6 x) ∧ Hid (Below v.heap.size v wx)
theorem rdV_eq (o : Option BV) : rdV o = .tuple #[(o.getD zeroBV).agg, .bool o.isSome] := by cases o <;> rfl
theorem gotB_1 {v x1 : World} {x : BV} {f : Bool} (hb : Below v.drew.heap.size v.drew x1) :
    GotB v x f (.pointer (some ⟨x1.heap.size, 0, none⟩)) (.bool f) (x1.alloc (.cells #[.int .i64 x.cl, .int .i64 x.kd, .int .u64 (x.id : Nat), .int .u64 (x.ver : Nat), .int .u64 (x.ep : Nat), .string x.key, .string x.val] 95)) := by
  have hs := hb.size
  exact ⟨_, rfl, rfl, heap_alloc_new x1 _, ((Below.refl _ _).drew.trans hb).alloc hs _⟩
abbrev B0 : Obj := .cells #[.int .i64 0, .int .i64 0, .int .u64 0, .int .u64 0, .int .u64 0, .string ⟨#[]⟩, .string ⟨#[]⟩] 95
theorem heap_set7 {w : World} {g : Nat} {T : TypeId} {z0 z1 z2 z3 z4 z5 z6 : Value} (h : w.heap[g]? = some (.cells #[z0, z1, z2, z3, z4, z5, z6] T (0, 0))) (a b c d e f k : Value) : (((((((w.setCell ⟨g, 0, none⟩ a).setCell ⟨g, 1, none⟩ b).setCell ⟨g, 2, none⟩ c).setCell ⟨g, 3, none⟩ d).setCell ⟨g, 4, none⟩ e).setCell ⟨g, 5, none⟩ f).setCell ⟨g, 6, none⟩ k).heap[g]? = some (.cells #[a, b, c, d, e, f, k] T (0, 0)) := by
  have h0 := heap_setCell_same w g 0 _ T a h
  have h1 := heap_setCell_same _ g 1 _ T b h0
  have h2 := heap_setCell_same _ g 2 _ T c h1
  have h3 := heap_setCell_same _ g 3 _ T d h2
  have h4 := heap_setCell_same _ g 4 _ T e h3
  have h5 := heap_setCell_same _ g 5 _ T f h4
  have h6 := heap_setCell_same _ g 6 _ T k h5
  simpa using h6
theorem gotB_2 {v x1 : World} {x : BV} {f : Bool} (hb : Below (v.drew.alloc B0).heap.size (v.drew.alloc B0) x1) :
    GotB v x f (.pointer (some ⟨v.heap.size, 0, none⟩)) (.bool f) (((((((x1.setCell ⟨v.heap.size, 0, none⟩ (.int .i64 x.cl)).setCell ⟨v.heap.size, 1, none⟩ (.int .i64 x.kd)).setCell ⟨v.heap.size, 2, none⟩ (.int .u64 (x.id : Nat))).setCell ⟨v.heap.size, 3, none⟩ (.int .u64 (x.ver : Nat))).setCell ⟨v.heap.size, 4, none⟩ (.int .u64 (x.ep : Nat))).setCell ⟨v.heap.size, 5, none⟩ (.string x.key)).setCell ⟨v.heap.size, 6, none⟩ (.string x.val)) := by
  have hs := hb.size
  have hsz : (v.drew.alloc B0).heap.size = v.heap.size + 1 := by simp
  have ha : Below v.heap.size v (v.drew.alloc B0) := (Below.refl _ _).drew.alloc (Nat.le_refl _) _
  have h0 : (v.drew.alloc B0).heap[v.heap.size]? = some (.cells #[.int .i64 0, .int .i64 0, .int .u64 0, .int .u64 0, .int .u64 0, .string ⟨#[]⟩, .string ⟨#[]⟩] 95 (0, 0)) := heap_alloc_new v.drew _
  have h1 := (hb.block v.heap.size (by omega)).trans h0
  have hbb : Below v.heap.size v x1 := ha.trans (hb.mono (by omega))
  exact ⟨_, rfl, rfl, heap_set7 h1 _ _ _ _ _ _ _, ((((((hbb.setCell (p := ⟨_, 0, none⟩) (Nat.le_refl _) _).setCell (p := ⟨_, 1, none⟩) (Nat.le_refl _) _).setCell (p := ⟨_, 2, none⟩) (Nat.le_refl _) _).setCell (p := ⟨_, 3, none⟩) (Nat.le_refl _) _).setCell (p := ⟨_, 4, none⟩) (Nat.le_refl _) _).setCell (p := ⟨_, 5, none⟩) (Nat.le_refl _) _).setCell (p := ⟨_, 6, none⟩) (Nat.le_refl _) _⟩
theorem frozen7 {w : World} {g : Nat} {T : TypeId} {cs : Array Value} (h : w.heap[g]? = some (.cells cs T (0, 0))) : w.frozen? ⟨g, 0, none⟩ = false ∧ w.frozen? ⟨g, 1, none⟩ = false ∧ w.frozen? ⟨g, 2, none⟩ = false ∧ w.frozen? ⟨g, 3, none⟩ = false ∧ w.frozen? ⟨g, 4, none⟩ = false ∧ w.frozen? ⟨g, 5, none⟩ = false ∧ w.frozen? ⟨g, 6, none⟩ = false := by
  refine ⟨?_, ?_, ?_, ?_, ?_, ?_, ?_⟩ <;> simp [World.frozen?, h]
theorem appSt0 {w wA wc W' : World} {g2 g3 q m m' k : Nat} {tE T : TypeId} {V U v' : Value} {xs xs' : List Value} (hs : Stay (fun k => k = g3) wA wc) (hb : Below g2 w wc) (hX : wc.heap[g3]? = some (.cells #[V, U] T (0, 0))) (ho : wc.ownsRow q tE k V m xs) (h3 : g3 < q) (hq : wA.heap.size = q) (h2 : g2 ≤ g3) (hg : wc.grownBy W' V.ownBlock) (ho' : W'.ownsRow q tE k v' m' xs') :
    W'.cell? ⟨g3, 0, none⟩ = some V ∧ W'.frozen? ⟨g3, 0, none⟩ = false ∧ (W'.setCell ⟨g3, 0, none⟩ v').heap[g3]? = some (.cells #[v', U] T (0, 0)) ∧ (W'.setCell ⟨g3, 0, none⟩ v').ownsRow q tE k v' m' xs' ∧ Stay (fun k => k = g3) wA (W'.setCell ⟨g3, 0, none⟩ v') ∧ Below g2 w (W'.setCell ⟨g3, 0, none⟩ v') := by
  have hl := lt_of_heap hX
  obtain ⟨g1, g2', g3', g4, g5⟩ := hg
  have hge : ∀ k, V.ownBlock = some k → q ≤ k := own_ge ho
  have hX' : W'.heap[g3]? = some (.cells #[V, U] T (0, 0)) := (g5 g3 hl (fun e => by have := hge g3 e.symm; omega)).trans hX
  have hSt : Stay (fun k => k = g3) wA W' := ⟨g1.trans hs.os, g2'.trans hs.tape, g3'.trans hs.output, Nat.le_trans hs.size g4, fun k hk hlt => (g5 k (Nat.lt_of_lt_of_le hlt hs.size) (fun e => by have := hge k e.symm; omega)).trans (hs.block k hk hlt)⟩
  have hS2 : Stay (fun k => k = g3) W' (W'.setCell ⟨g3, 0, none⟩ v') := Stay.setCell _ _ _ _ rfl
  refine ⟨by simp [World.cell?, hX'], by simp [World.frozen?, hX'], ?_, own_same ho' (fun k hk => hS2.block k (fun e => by have := own_ge ho' k hk; omega) (own_ltN ho' hk)), hSt.trans hS2, ?_⟩
  · have := heap_setCell_same W' g3 0 _ T v' hX'
    simpa using this
  · exact ((hb.grown ⟨g1, g2', g3', g4, g5⟩ (by have := hs.size; omega) (fun k e => by have := hge k e; omega))).setCell (p := ⟨g3, 0, none⟩) h2 v'
theorem appSt1 {w wA wc W' : World} {g2 g3 q m m' k : Nat} {tE T : TypeId} {V U v' : Value} {xs xs' : List Value} (hs : Stay (fun k => k = g3) wA wc) (hb : Below g2 w wc) (hX : wc.heap[g3]? = some (.cells #[U, V] T (0, 0))) (ho : wc.ownsRow q tE k V m xs) (h3 : g3 < q) (hq : wA.heap.size = q) (h2 : g2 ≤ g3) (hg : wc.grownBy W' V.ownBlock) (ho' : W'.ownsRow q tE k v' m' xs') :
    W'.cell? ⟨g3, 1, none⟩ = some V ∧ W'.frozen? ⟨g3, 1, none⟩ = false ∧ (W'.setCell ⟨g3, 1, none⟩ v').heap[g3]? = some (.cells #[U, v'] T (0, 0)) ∧ (W'.setCell ⟨g3, 1, none⟩ v').ownsRow q tE k v' m' xs' ∧ Stay (fun k => k = g3) wA (W'.setCell ⟨g3, 1, none⟩ v') ∧ Below g2 w (W'.setCell ⟨g3, 1, none⟩ v') := by
  have hl := lt_of_heap hX
  obtain ⟨g1, g2', g3', g4, g5⟩ := hg
  have hge : ∀ k, V.ownBlock = some k → q ≤ k := own_ge ho
  have hX' : W'.heap[g3]? = some (.cells #[U, V] T (0, 0)) := (g5 g3 hl (fun e => by have := hge g3 e.symm; omega)).trans hX
  have hSt : Stay (fun k => k = g3) wA W' := ⟨g1.trans hs.os, g2'.trans hs.tape, g3'.trans hs.output, Nat.le_trans hs.size g4, fun k hk hlt => (g5 k (Nat.lt_of_lt_of_le hlt hs.size) (fun e => by have := hge k e.symm; omega)).trans (hs.block k hk hlt)⟩
  have hS2 : Stay (fun k => k = g3) W' (W'.setCell ⟨g3, 1, none⟩ v') := Stay.setCell _ _ _ _ rfl
  refine ⟨by simp [World.cell?, hX'], by simp [World.frozen?, hX'], ?_, own_same ho' (fun k hk => hS2.block k (fun e => by have := own_ge ho' k hk; omega) (own_ltN ho' hk)), hSt.trans hS2, ?_⟩
  · have := heap_setCell_same W' g3 1 _ T v' hX'
    simpa using this
  · exact ((hb.grown ⟨g1, g2', g3', g4, g5⟩ (by have := hs.size; omega) (fun k e => by have := hge k e; omega))).setCell (p := ⟨g3, 1, none⟩) h2 v'
theorem fm_succ {α β : Type} (f : α → Option β) {L : List α} {i : Nat} {x : α} (h : L[i]? = some x) : (L.take (i + 1)).filterMap f = (L.take i).filterMap f ++ (f x).toList := by
  rw [List.take_add_one, h, List.filterMap_append]
  cases hf : f x <;> simp [hf]
noncomputable def pairK (d : St) (k : Ln) : Option Kv := (rdB d k 1).map fun x => ⟨x.key, x.val⟩
noncomputable def textK (d : St) (k : Ln) : Option ByteArray := (rdB d k 2).map fun x => x.val
noncomputable def shP (s : Az) : List Kv := s.T.filterMap (pairK s.d)
noncomputable def shQ (s : Az) : List ByteArray := s.Q.filterMap (textK s.d)
/-- A store by value, in memory of the call's own. -/
def ShTo16 (w : World) (L : List Kv) (Q : List ByteArray) (e : Ending) (w' : World) : Prop := ∃ A c B d, e = .returned (.agg #[.slice A L.length c, .slice B Q.length d]) ∧ w'.ownsRow w.heap.size RP.tE RP.k (.slice A L.length c) L.length (RP.enc L) ∧ w'.ownsRow w.heap.size RS.tE RS.k (.slice B Q.length d) Q.length (RS.enc Q) ∧ (∀ k, (Value.slice A L.length c).ownBlock = some k → (Value.slice B Q.length d).ownBlock ≠ some k) ∧ Below w.heap.size w w'
section
variable {b : Nat} {w w' : World} {col : Nat → Nat} {z : Pz} {s : Az}
set_option maxHeartbeats 6400000 in
theorem shelf_any (h : Ar b w col z s) (hT : s.T.length ≤ 100000) (hQ : s.Q.length ≤ 100000) (hTl : ∀ k ∈ s.T, -1000000 ≤ k.line ∧ k.line ≤ 1000000) (hQl : ∀ k ∈ s.Q, -1000000 ≤ k.line ∧ k.line ≤ 1000000) :
    Calls Tryz.prog 7 #[.pointer (some ⟨z.ap, 0, none⟩)] w (ShTo16 w (shP s) (shQ s)) := by
  obtain ⟨g2, hg2⟩ : ∃ g, w.heap.size = g := ⟨_, rfl⟩
  have HG2 := Lib.hid hg2
  have HTA : Hid (∀ W, Below g2 w W → Calls Tryz.prog 36 #[.pointer (some ⟨z.tp, 0, none⟩)] W (AllTo s.T W)) := fun W hb => tball_any (h.below (hg2.symm ▸ hb)).tb (by omega)
  have HQA : Hid (∀ W, Below g2 w W → Calls Tryz.prog 38 #[.pointer (some ⟨z.lp, 0, none⟩)] W (AllN s.Q W)) := fun W hb => fiall_any (h.below (hg2.symm ▸ hb)).fi
  have HAC : Hid (∀ W, Below g2 w W → W.cell? ⟨z.ap, 0, none⟩ = some (.pointer (some ⟨z.dp, 0, none⟩)) ∧ W.cell? ⟨z.ap, 8, none⟩ = some (.pointer (some ⟨z.tp, 0, none⟩)) ∧ W.cell? ⟨z.ap, 10, none⟩ = some (.pointer (some ⟨z.lp, 0, none⟩))) := fun W hb => by
    obtain ⟨a0, -, -, -, -, a8, -, a10, -⟩ := (h.below (hg2.symm ▸ hb)).at_
    exact ⟨a0, a8, a10⟩
  have HR1 : Hid (∀ W, Below g2 w W → ∀ x ∈ s.T, Calls Tryz.prog 37 #[.agg #[.pointer (some ⟨z.dp, 0, none⟩)], .agg #[.string x.str, .int .u64 (x.id : Nat), .int .u64 (x.ver : Nat), .int .i64 x.line, .int .i64 x.cl], .int .i64 1] W fun e w' => e = .returned (rdV (rdB s.d x 1)) ∧ Below W.heap.size W w') := fun W hb x hx => read_any (h.below (hg2.symm ▸ hb)) x 1 (hTl x hx)
  have HR2 : Hid (∀ W, Below g2 w W → ∀ x ∈ s.Q, Calls Tryz.prog 37 #[.agg #[.pointer (some ⟨z.dp, 0, none⟩)], .agg #[.string x.str, .int .u64 (x.id : Nat), .int .u64 (x.ver : Nat), .int .i64 x.line, .int .i64 x.cl], .int .i64 2] W fun e w' => e = .returned (rdV (rdB s.d x 2)) ∧ Below W.heap.size W w') := fun W hb x hx => read_any (h.below (hg2.symm ▸ hb)) x 2 (hQl x hx)
  have HAPL : Hid (z.ap < g2) := by obtain ⟨on, hm⟩ := h.me; exact hg2 ▸ lt_of_heap hm
  have HLN : Hid (s.T.length ≤ 100000 ∧ s.Q.length ≤ 100000) := ⟨hT, hQ⟩
  obtain ⟨R, hR⟩ : ∃ R, ShTo16 w (shP s) (shQ s) = R := ⟨_, rfl⟩
  have HFIN : Hid (∀ A c B d n m W, (s.T.filterMap (pairK s.d)).length = n → (s.Q.filterMap (textK s.d)).length = m → W.ownsRow g2 RP.tE RP.k (.slice A n c) n (RP.enc (s.T.filterMap (pairK s.d))) → W.ownsRow g2 RS.tE RS.k (.slice B m d) m (RS.enc (s.Q.filterMap (textK s.d))) → (∀ k, (Value.slice A n c).ownBlock = some k → (Value.slice B m d).ownBlock ≠ some k) → Below g2 w W → R (.returned (.agg #[.slice A n c, .slice B m d])) W) := fun A c B d n m W e1 e2 k1 k2 k3 k4 => by
    subst e1 e2
    rw [← hR]
    unfold ShTo16
    rw [hg2]
    exact ⟨A, c, B, d, rfl, k1, k2, k3, k4⟩
  have HZL := Lib.hid zero_link
  have HZS := Lib.hid zero_shelf
  have HZB := Lib.hid zero_block
  rw [hR]
  generalize s.T = T at *
  generalize s.Q = Q at *
  generalize s.d = D at *
  generalize z.ap = ap at *
  generalize z.dp = dp at *
  generalize z.tp = tp at *
  generalize z.lp = lp at *
  clear h hT hQ hTl hQl hR hg2
  go_enter Tryz.func7, Tryz.ntmps7
  go_wp2_with (first
    | ((with_reducible show wpList _ _ _ (⟨some 2, .alloc _, _, _, _, _⟩ :: _) _ _); refine wpList_alloc_var (o := ⟨some 2, _, _, _, _, _⟩) rfl 42 rfl g2 HG2.out _ HZS.out ?_; intro v1 H1 B1; obtain ⟨g3, hg3⟩ : ∃ g, v1.heap.size = g := ⟨_, rfl⟩; have HG3' := Lib.hid hg3; clear hg3)
    | ((with_reducible show wpList _ _ _ (⟨some 3, .alloc _, _, _, _, _⟩ :: _) _ _); refine wpList_alloc_var (o := ⟨some 3, _, _, _, _, _⟩) rfl 42 rfl g3 HG3'.out _ HZS.out ?_; intro v2 H2 B2; have HG23 : Hid (g2 < g3) := (HG3'.out ▸ lt_of_heap H1.out); have HBv2 : Hid (Below g2 w v2) := B1.out.trans (B2.out.mono (Nat.le_of_lt HG23.out)); have HX12 := Lib.hid ((B2.out.block g2 HG23.out).trans H1.out); obtain ⟨a0, a8, a10⟩ := HAC.out v2 HBv2.out)
    | fail)
  refine (HTA.out v2 HBv2.out).mono ?_
  rintro e wA ⟨gA, cA, rfl, hoA, hbA⟩
  have HL3 : Hid (g3 < v2.heap.size) := lt_of_heap H2.out
  have HX3A := Lib.hid ((hbA.block g3 HL3.out).trans H2.out)
  have HX2A := Lib.hid ((hbA.block g2 (Nat.lt_trans HG23.out HL3.out)).trans HX12.out)
  have HBwA : Hid (Below g2 w wA) := HBv2.out.trans (hbA.mono (Nat.le_of_lt (Nat.lt_trans HG23.out HL3.out)))
  obtain ⟨qA, hqA⟩ : ∃ q, wA.heap.size = q := ⟨_, rfl⟩
  have HQqA : Hid (qA ≤ wA.heap.size) := Nat.le_of_eq hqA.symm
  have HQEqA := Lib.hid hqA
  have HQ3qA : Hid (g3 < qA ∧ g3 < v2.heap.size) := ⟨hqA ▸ lt_of_heap HX3A.out, HL3.out⟩
  have HOA := Lib.hid hoA
  obtain ⟨n, hn⟩ : ∃ n, T.length = n := ⟨_, rfl⟩
  have HN := Lib.hid hn
  have hn1 : n ≤ 100000 := by have := HLN.out; omega
  rw [hn]
  clear hoA hbA hqA hn a0 a8 a10
  go_wp2
  go_loopg [21] n (fun gk s21 wx => ∃ (i m : Nat) (V : Value), i + gk = n ∧ s21 = .int .i64 i ∧ Hid (((T.take i).filterMap (pairK D)).length = m) ∧ Hid (wx.heap[g3]? = some (.cells #[V, .slice none 0 0] 42 (0, 0))) ∧ Hid (wx.ownsRow qA RP.tE RP.k V m (RP.enc ((T.take i).filterMap (pairK D)))) ∧ Hid (Stay (fun k => k = g3) wA wx) ∧ Hid (Below g2 w wx))
  case atStart => exact ⟨0, 0, .slice none 0 0, by omega, rfl, rfl, HX3A.out, World.ownsRow_nil _ _ _ _, Stay.refl _ _, HBwA.out⟩
  case round =>
    obtain ⟨i, m, V, hig, rfl, HM, HX, HO, HS, HW⟩ := hrel
    have hsz : qA ≤ wr.heap.size := Nat.le_trans HQqA.out HS.out.size
    cases gk with
    | zero =>
      obtain rfl : i = n := by omega
      have hii : ¬ (i : Int) < (i : Int) := by omega
      have HTK : Hid (T.take i = T) := by
        show _ = _
        rw [← HN.out]
        exact List.take_length
      rw [HTK.out] at HM HO
      have HX2B := Lib.hid ((HS.out.block g2 (fun e => by have := HG23.out; omega) (lt_of_heap HX2A.out)).trans HX2A.out)
      obtain ⟨-, A1, c1, rfl, -⟩ := Rec.row_of_own (R := RP) HO.out (by have := HM.out; have h1 := List.length_filterMap_le (pairK D) T; have := HLN.out; omega)
      generalize m = m1 at *
      obtain ⟨a0, a8, a10⟩ := HAC.out wr HW.out
      go_wp2_with fail
      refine (HQA.out wr HW.out).mono ?_
      rintro e wD ⟨gQ, rfl, hoQ, hbQ⟩
      have hl3 := lt_of_heap HX.out
      have HX3D := Lib.hid ((hbQ.block g3 hl3).trans HX.out)
      have HX2D := Lib.hid ((hbQ.block g2 (lt_of_heap HX2B.out)).trans HX2B.out)
      have HO1D := Lib.hid (own_keep HO.out hbQ)
      have HM1 := HM
      have HBwD : Hid (Below g2 w wD) := HW.out.trans (hbQ.mono (by have := HG23.out; omega))
      obtain ⟨qD, hqD⟩ : ∃ q, wD.heap.size = q := ⟨_, rfl⟩
      have HQqD : Hid (qD ≤ wD.heap.size) := Nat.le_of_eq hqD.symm
      have HQEqD := Lib.hid hqD
      have HQ3qD : Hid (g3 < qD ∧ g3 < wr.heap.size) := ⟨hqD ▸ lt_of_heap HX3D.out, hl3⟩
      have HOQ := Lib.hid hoQ
      clear HN HTK
      obtain ⟨n, hn⟩ : ∃ n, Q.length = n := ⟨_, rfl⟩
      have HN := Lib.hid hn
      have hn1 : n ≤ 100000 := by have := HLN.out; omega
      rw [hn]
      clear hoQ hbQ hqD hn hl3 a0 a8 a10 hig hii hsz HX HO HS HW HM HX2B
      go_wp2
      go_loopg [52] n (fun gk s52 wx => ∃ (i m : Nat) (V : Value), i + gk = n ∧ s52 = .int .i64 i ∧ Hid (((Q.take i).filterMap (textK D)).length = m) ∧ Hid (wx.heap[g3]? = some (.cells #[.slice A1 m1 c1, V] 42 (0, 0))) ∧ Hid (wx.ownsRow qD RS.tE RS.k V m (RS.enc ((Q.take i).filterMap (textK D)))) ∧ Hid (Stay (fun k => k = g3) wD wx) ∧ Hid (Below g2 w wx))
      case atStart => exact ⟨0, 0, .slice none 0 0, by omega, rfl, rfl, HX3D.out, World.ownsRow_nil _ _ _ _, Stay.refl _ _, HBwD.out⟩
      case round =>
        obtain ⟨i, m, V, hig, rfl, HM, HX, HO, HS, HW⟩ := hrel
        have hsz : qD ≤ wr.heap.size := Nat.le_trans HQqD.out HS.out.size
        cases gk with
        | zero =>
          obtain rfl : i = n := by omega
          have hii : ¬ (i : Int) < (i : Int) := by omega
          have HTK : Hid (Q.take i = Q) := by
            show _ = _
            rw [← HN.out]
            exact List.take_length
          rw [HTK.out] at HM HO
          have HX2F := Lib.hid ((HS.out.block g2 (fun e => by have := HG23.out; omega) (lt_of_heap HX2D.out)).trans HX2D.out)
          obtain ⟨-, A2, c2, rfl, -⟩ := Rec.row_of_own (R := RS) HO.out (by have := HM.out; have h1 := List.length_filterMap_le (textK D) Q; have := HLN.out; omega)
          have HO1F := Lib.hid (own_same HO1D.out (w' := wr) (fun k hk => HS.out.block k (fun e => by have := own_ge HO1D.out k hk; have := HQ3qA.out; omega) (own_ltN HO1D.out hk)))
          have HNE : Hid (∀ k, (Value.slice A1 m1 c1).ownBlock = some k → (Value.slice A2 m c2).ownBlock ≠ some k) := fun k e1 e2 => by
            have h1 := own_ltN HO1D.out e1
            have h2 := own_ge HO.out k e2
            have h3 := HQEqD.out
            omega
          obtain ⟨s0, s1⟩ := cells2 HX.out
          obtain ⟨r0, r1⟩ := cells2 HX2F.out
          have f0 : wr.frozen? ⟨g2, 0, none⟩ = false := by have hh := HX2F.out; simp [World.frozen?, hh]
          have f1 : wr.frozen? ⟨g2, 1, none⟩ = false := by have hh := HX2F.out; simp [World.frozen?, hh]
          go_wp2
          have hs0 : Stay (fun k => k = g2) wr (wr.setCell ⟨g2, 0, none⟩ (.slice A1 m1 c1)) := Stay.setCell _ _ _ _ rfl
          have hS2 : Stay (fun k => k = g2) wr ((wr.setCell ⟨g2, 0, none⟩ (.slice A1 m1 c1)).setCell ⟨g2, 1, none⟩ (.slice A2 m c2)) := hs0.trans (Stay.setCell _ _ _ _ rfl)
          have hH := heap_setCell_same _ g2 1 _ _ (.slice A2 m c2) (heap_setCell_same wr g2 0 _ _ (.slice A1 m1 c1) HX2F.out)
          refine bodyPost_ret (results_v1 (cs := [.slice A1 m1 c1, .slice A2 m c2]) rfl Tryz.underlying42 rfl hH size_shelf) rfl ?_
          refine HFIN.out A1 c1 A2 c2 m1 m _ HM1.out HM.out (own_mono (own_same HO1F.out fun k hk => hS2.block k (fun e => ?_) (own_ltN HO1F.out hk)) ?_) (own_mono (own_same HO.out fun k hk => hS2.block k (fun e => ?_) (own_ltN HO.out hk)) ?_) HNE.out ?_
          · have := own_ge HO1F.out k hk; have := HQ3qA.out; have := HG23.out; omega
          · have := HQ3qA.out; have := HG23.out; omega
          · have := own_ge HO.out k hk; have := HQ3qD.out; have := HG23.out; omega
          · have := HQ3qD.out; have := HG23.out; omega
          · exact (HW.out.setCell (p := ⟨g2, 0, none⟩) (Nat.le_refl _) _).setCell (p := ⟨g2, 1, none⟩) (Nat.le_refl _) _
        | succ gk =>
          have hii : (i : Int) < (n : Int) := by omega
          have hi0 : (0 : Int) ≤ (i : Int) := by omega
          obtain ⟨x, hx⟩ : ∃ x, Q[i]? = some x := ⟨_, List.getElem?_eq_getElem (by have := HN.out; omega)⟩
          have hor := own_same HOQ.out (w' := wr) (fun k hk => HS.out.block k (fun e => by have h1 := own_ge HOQ.out k hk; have h2 := HQ3qD.out; omega) (own_ltN HOQ.out hk))
          obtain ⟨-, A9, c9, e9, -, hrow, -, -⟩ := rowL_of_own hor (by have := HLN.out; omega)
          cases e9
          obtain ⟨b1, o1, e1, hb1, k0, k1, k2, k3, k4⟩ := hrow.at_ hx
          cases e1
          simp only [Nat.zero_add] at k0 k1 k2 k3 k4
          have HNX := Lib.hid (fm_succ (textK D) hx)
          have HXM : Hid (x ∈ Q) := List.mem_of_getElem? hx
          have HRD : Hid (∀ W, Below g2 w W → Calls Tryz.prog 37 #[.agg #[.pointer (some ⟨dp, 0, none⟩)], .agg #[.string x.str, .int .u64 (x.id : Nat), .int .u64 (x.ver : Nat), .int .i64 x.line, .int .i64 x.cl], .int .i64 2] W fun e w' => e = .returned (rdV (rdB D x 2)) ∧ Below W.heap.size W w') := fun W hW => HR2.out W hW x HXM.out
          have HFX : Hid (textK D x = (rdB D x 2).map fun y => y.val) := rfl
          obtain ⟨o, ho⟩ : ∃ o, rdB D x 2 = o := ⟨_, rfl⟩
          rw [ho] at HRD HFX
          rw [rdV_eq] at HRD
          unfold BV.agg at HRD
          have HGO : Hid (∃ y f, o.getD zeroBV = y ∧ o.isSome = f) := ⟨_, _, rfl, rfl⟩
          obtain ⟨y, f, hy, hf⟩ := HGO.out
          rw [hy, hf] at HRD
          have HY := Lib.hid hy
          have HF := Lib.hid hf
          obtain ⟨g, hg⟩ : ∃ g, wr.heap.size = g := ⟨_, rfl⟩
          have HGX := Lib.hid hg
          have HGG : Hid (qD ≤ g) := hg ▸ hsz
          have HG3 : Hid (g3 < g) := by have := HQ3qD.out; have := HGG.out; show _ < _; omega
          obtain ⟨a0, a8, a10⟩ := HAC.out wr HW.out
          clear hx hg hb1 hsz hor hrow ho hy hf HGO
          generalize x.str = x0 at *
          generalize (x.id : Int) = x1 at *
          generalize (x.ver : Int) = x2 at *
          generalize x.line = x3 at *
          generalize x.cl = x4 at *
          go_upto_region 14 with (first
            | ((with_reducible show wpList _ _ _ (⟨some 9, .alloc _, _, _, _, _⟩ :: _) _ _); refine wpList_alloc_var (o := ⟨some 9, _, _, _, _, _⟩) rfl 29 rfl g HGX.out _ HZL.out ?_; intro v1 H1 B1)
            | ((with_reducible show wpList _ _ _ (⟨none, .store _ (.tmp 9) _, _, _, _, _⟩ :: _) _ _); refine wpList_store_whole (o := ⟨none, .store 29 (.tmp 9) (.tmp 55), _, _, _, _⟩) rfl _ _ _ rfl rfl g #[.string x0, .int .u64 x1, .int .u64 x2, .int .i64 x3, .int .i64 x4] rfl rfl 29 _ H1.out size_link rfl (onesL _ _ _ _ _) ?_; intro v2 H2 B2; obtain ⟨p0, p1, p2, p3, p4⟩ := cells5 H2.out; have HB2 : Hid (Below g wr v2) := B1.out.trans B2.out)
            | fail)
          have HW2 : Hid (Below g2 w v2) := HW.out.trans (HB2.out.mono (by have := HG23.out; have := HG3.out; omega))
          have HX2 := Lib.hid ((HB2.out.block g3 HG3.out).trans HX.out)
          have HO2 := Lib.hid (own_keep HO.out (HGX.out.symm ▸ HB2.out))
          obtain ⟨u0, u8, u10⟩ := HAC.out v2 HW2.out
          have HLv : Hid (g < v2.heap.size ∧ ap < g2 ∧ g2 < g3 ∧ g3 < g) := ⟨lt_of_heap H2.out, HAPL.out, HG23.out, HG3.out⟩
          have dga : ¬ g = ap := fun e => by have := HLv.out; omega
          have dag : ¬ ap = g := fun e => dga e.symm
          have dgv : ¬ v2.heap.size = g := fun e => by have := HLv.out; omega
          have dvg : ¬ g = v2.heap.size := fun e => dgv e.symm
          have dav : ¬ ap = v2.heap.size := fun e => by have := HLv.out; omega
          have dva : ¬ v2.heap.size = ap := fun e => dav e.symm
          have HRA := Lib.hid (HRD.out v2.drew HW2.out.drew)
          have HRB := Lib.hid (HRD.out (v2.drew.alloc B0) (HW2.out.drew.alloc (by have := HLv.out; simp; omega) _))
          have HKV : Hid (∀ V X, Below v2.heap.size v2 V → Below V.heap.size V X → X.cell? ⟨ap, 0, none⟩ = some (.pointer (some ⟨dp, 0, none⟩)) ∧ X.heap[g]? = v2.heap[g]?) := fun V X h1 h2 => by
            have hvx : Below v2.heap.size v2 X := h1.trans (h2.mono h1.size)
            exact ⟨(HAC.out X (HW2.out.trans (hvx.mono (by have := HLv.out; omega)))).1, hvx.block g HLv.out.1⟩
          have HKL : Hid (∀ X, Below (v2.drew.alloc B0).heap.size (v2.drew.alloc B0) X → X.heap[v2.heap.size]? = some (.cells #[.int .i64 0, .int .i64 0, .int .u64 0, .int .u64 0, .int .u64 0, .string ⟨#[]⟩, .string ⟨#[]⟩] 95 (0, 0))) := fun X h2 => by
            have hsz : (v2.drew.alloc B0).heap.size = v2.heap.size + 1 := by simp
            exact (h2.block v2.heap.size (by omega)).trans (heap_alloc_new v2.drew _)
          have HDV : Hid (Below v2.heap.size v2 v2.drew ∧ Below v2.heap.size v2 (v2.drew.alloc B0)) := ⟨(Below.refl _ _).drew, (Below.refl _ _).drew.alloc (Nat.le_refl _) _⟩
          clear HRD k0 k1 k2 k3 k4 a0 a8 a10
          simp only [Act.put, List.setIfInBounds_toArray, List.set_cons_zero, List.set_cons_succ]
          go_cut [10, 11] from 56 to 73 (fun s6 s7 wx => GotB v2 y f s6 s7 wx)
          case first =>
            go_region_held3 (fun V => V.cell? ⟨ap, 0, none⟩ = some (.pointer (some ⟨dp, 0, none⟩)) ∧ V.cell? ⟨g, 0, none⟩ = some (.string x0) ∧ V.cell? ⟨g, 1, none⟩ = some (.int .u64 x1) ∧ V.cell? ⟨g, 2, none⟩ = some (.int .u64 x2) ∧ V.cell? ⟨g, 3, none⟩ = some (.int .i64 x3) ∧ V.cell? ⟨g, 4, none⟩ = some (.int .i64 x4)) (go_keep)
              (first
                | (go_at_call 37; refine HRA.out.mono ?_; rintro e x1' ⟨rfl, hb⟩; obtain ⟨t0, t1⟩ := HKV.out _ x1' HDV.out.1 hb; obtain ⟨p0, p1, p2, p3, p4⟩ := cells5 (t1.trans H2.out))
                | (go_at_call 37; refine HRB.out.mono ?_; rintro e x1' ⟨rfl, hb⟩; obtain ⟨t0, t1⟩ := HKV.out _ x1' HDV.out.2 hb; obtain ⟨p0, p1, p2, p3, p4⟩ := cells5 (t1.trans H2.out); obtain ⟨f0, f1, f2, f3, f4, f5, f6⟩ := frozen7 (HKL.out x1' hb); obtain ⟨y0', y1', y2', y3', y4', y5', y6'⟩ := cells7 (HKL.out x1' hb))
                | fail)
            all_goals
              go_wp2
              go_meet
              case rel => first
                | (have h := gotB_1 (x := y) (f := f) hb; with_reducible exact h)
                | (have h := gotB_2 (x := y) (f := f) hb; with_reducible exact h)
          case rest =>
            obtain ⟨g6, rfl, rfl, HB6, HW6⟩ := hcut
            clear p0 p1 p2 p3 p4 u0 u8 u10 dga dag dgv dvg dav dva
            have HX6 := Lib.hid ((HW6.out.block g3 (by have := HLv.out; omega)).trans HX2.out)
            have HO6 := Lib.hid (own_keep HO2.out HW6.out)
            have HBB : Hid (Below wr.heap.size wr wc) := HGX.out.symm ▸ HB2.out.trans (HW6.out.mono (by have := HLv.out; omega))
            have HS6 : Hid (Stay (fun k => k = g3) wD wc) := HS.out.trans (Stay.of_below HBB.out)
            have HW7 : Hid (Below g2 w wc) := HW2.out.trans (HW6.out.mono (by have := HLv.out; omega))
            obtain ⟨q0, q1, q2, q3, q4, q5, q6⟩ := HB6.out.cells
            obtain ⟨s0, s1⟩ := cells2 HX6.out
            cases f with
            | false =>
              have HFN : Hid ((Q.take (i + 1)).filterMap (textK D) = (Q.take i).filterMap (textK D)) := by
                have ho : o = none := by cases ho : o with
                  | none => rfl
                  | some v => have := HF.out; rw [ho] at this; cases this
                show _ = _
                rw [HNX.out, HFX.out, ho]
                simp
              have HM2 : Hid (((Q.take (i + 1)).filterMap (textK D)).length = m) := by rw [HFN.out]; exact HM.out
              have HO7 := HO6
              rw [← HFN.out] at HO7
              go_wp2
              go_roundg gk
              case measure => omega
              case rel => exact ⟨i + 1, m, V, by omega, by go_num, HM2, HX6, HO7, HS6, HW7⟩
            | true =>
              have HFN : Hid ((Q.take (i + 1)).filterMap (textK D) = (Q.take i).filterMap (textK D) ++ [y.val]) := by
                have ho : o = some y := by cases ho : o with
                  | none => have := HF.out; rw [ho] at this; cases this
                  | some v => have := HY.out; rw [ho] at this; rw [← this]; rfl
                show _ = _
                rw [HNX.out, HFX.out, ho]
                rfl
              have HM2 : Hid (((Q.take (i + 1)).filterMap (textK D)).length = m + 1) := by
                show _ = _
                rw [HFN.out, List.length_append, HM.out]
                rfl
              have hml : m < 1048576 := by
                have h1 := List.length_filterMap_le (textK D) (Q.take i)
                have h2 := HM.out
                have h3 := List.length_take_le i Q
                have h4 := HLN.out
                omega
              obtain ⟨v8, w8, hrun, ho8, hg8, -, hne8⟩ := RS.run_app_one wc qD m V ((Q.take i).filterMap (textK D)) y.val HO6.out hml (Nat.le_trans HQqD.out HS6.out.size) 40
              obtain ⟨-, A8, c8', rfl, -⟩ := Rec.row_of_own (R := RS) ho8 (by rw [List.length_append, HM.out]; show m + 1 ≤ _; omega)
              obtain ⟨c8, f8, hX8, hO8, hS8, hB8⟩ := appSt1 HS6.out HW7.out HX6.out HO6.out HQ3qD.out.1 HQEqD.out (Nat.le_of_lt HG23.out) hg8 ho8
              rw [← HFN.out] at hO8
              have HRUN := Lib.hid hrun
              have HX9 := Lib.hid hX8
              have HO9 := Lib.hid hO8
              have HS9 := Lib.hid hS8
              have HB9 := Lib.hid hB8
              clear hrun ho8 hg8 hX8 hO8 hS8 hB8
              go_wp2_with (first
                | (at_builtin; refine wpList_app rfl (.tmp 67) (.tmp 70) 40 rfl rfl rfl HRUN.out ?_)
                | fail)
              go_roundg gk
              case measure => omega
              case rel => exact ⟨i + 1, m + 1, _, by omega, by go_num, HM2, HX9, HO9, HS9, HB9⟩
    | succ gk =>
      have hii : (i : Int) < (n : Int) := by omega
      have hi0 : (0 : Int) ≤ (i : Int) := by omega
      obtain ⟨x, hx⟩ : ∃ x, T[i]? = some x := ⟨_, List.getElem?_eq_getElem (by have := HN.out; omega)⟩
      have hor := own_same HOA.out (w' := wr) (fun k hk => HS.out.block k (fun e => by have h1 := own_ge HOA.out k hk; have h2 := HQ3qA.out; omega) (own_ltN HOA.out hk))
      obtain ⟨-, A9, c9, e9, -, hrow, -, -⟩ := rowL_of_own hor (by have := HLN.out; omega)
      cases e9
      obtain ⟨b1, o1, e1, hb1, k0, k1, k2, k3, k4⟩ := hrow.at_ hx
      cases e1
      simp only [Nat.zero_add] at k0 k1 k2 k3 k4
      have HNX := Lib.hid (fm_succ (pairK D) hx)
      have HXM : Hid (x ∈ T) := List.mem_of_getElem? hx
      have HRD : Hid (∀ W, Below g2 w W → Calls Tryz.prog 37 #[.agg #[.pointer (some ⟨dp, 0, none⟩)], .agg #[.string x.str, .int .u64 (x.id : Nat), .int .u64 (x.ver : Nat), .int .i64 x.line, .int .i64 x.cl], .int .i64 1] W fun e w' => e = .returned (rdV (rdB D x 1)) ∧ Below W.heap.size W w') := fun W hW => HR1.out W hW x HXM.out
      have HFX : Hid (pairK D x = (rdB D x 1).map fun y => (⟨y.key, y.val⟩ : Kv)) := rfl
      obtain ⟨o, ho⟩ : ∃ o, rdB D x 1 = o := ⟨_, rfl⟩
      rw [ho] at HRD HFX
      rw [rdV_eq] at HRD
      unfold BV.agg at HRD
      have HGO : Hid (∃ y f, o.getD zeroBV = y ∧ o.isSome = f) := ⟨_, _, rfl, rfl⟩
      obtain ⟨y, f, hy, hf⟩ := HGO.out
      rw [hy, hf] at HRD
      have HY := Lib.hid hy
      have HF := Lib.hid hf
      obtain ⟨g, hg⟩ : ∃ g, wr.heap.size = g := ⟨_, rfl⟩
      have HGX := Lib.hid hg
      have HGG : Hid (qA ≤ g) := hg ▸ hsz
      have HG3 : Hid (g3 < g) := by have := HQ3qA.out; have := HGG.out; show _ < _; omega
      obtain ⟨a0, a8, a10⟩ := HAC.out wr HW.out
      clear hx hg hb1 hsz hor hrow ho hy hf HGO
      generalize x.str = x0 at *
      generalize (x.id : Int) = x1 at *
      generalize (x.ver : Int) = x2 at *
      generalize x.line = x3 at *
      generalize x.cl = x4 at *
      go_upto_region 7 with (first
        | ((with_reducible show wpList _ _ _ (⟨some 5, .alloc _, _, _, _, _⟩ :: _) _ _); refine wpList_alloc_var (o := ⟨some 5, _, _, _, _, _⟩) rfl 29 rfl g HGX.out _ HZL.out ?_; intro v1 H1 B1)
        | ((with_reducible show wpList _ _ _ (⟨none, .store _ (.tmp 5) _, _, _, _, _⟩ :: _) _ _); refine wpList_store_whole (o := ⟨none, .store 29 (.tmp 5) (.tmp 24), _, _, _, _⟩) rfl _ _ _ rfl rfl g #[.string x0, .int .u64 x1, .int .u64 x2, .int .i64 x3, .int .i64 x4] rfl rfl 29 _ H1.out size_link rfl (onesL _ _ _ _ _) ?_; intro v2 H2 B2; obtain ⟨p0, p1, p2, p3, p4⟩ := cells5 H2.out; have HB2 : Hid (Below g wr v2) := B1.out.trans B2.out)
        | fail)
      have HW2 : Hid (Below g2 w v2) := HW.out.trans (HB2.out.mono (by have := HG23.out; have := HG3.out; omega))
      have HX2 := Lib.hid ((HB2.out.block g3 HG3.out).trans HX.out)
      have HO2 := Lib.hid (own_keep HO.out (HGX.out.symm ▸ HB2.out))
      obtain ⟨u0, u8, u10⟩ := HAC.out v2 HW2.out
      have HLv : Hid (g < v2.heap.size ∧ ap < g2 ∧ g2 < g3 ∧ g3 < g) := ⟨lt_of_heap H2.out, HAPL.out, HG23.out, HG3.out⟩
      have dga : ¬ g = ap := fun e => by have := HLv.out; omega
      have dag : ¬ ap = g := fun e => dga e.symm
      have dgv : ¬ v2.heap.size = g := fun e => by have := HLv.out; omega
      have dvg : ¬ g = v2.heap.size := fun e => dgv e.symm
      have dav : ¬ ap = v2.heap.size := fun e => by have := HLv.out; omega
      have dva : ¬ v2.heap.size = ap := fun e => dav e.symm
      have HRA := Lib.hid (HRD.out v2.drew HW2.out.drew)
      have HRB := Lib.hid (HRD.out (v2.drew.alloc B0) (HW2.out.drew.alloc (by have := HLv.out; simp; omega) _))
      have HKV : Hid (∀ V X, Below v2.heap.size v2 V → Below V.heap.size V X → X.cell? ⟨ap, 0, none⟩ = some (.pointer (some ⟨dp, 0, none⟩)) ∧ X.heap[g]? = v2.heap[g]?) := fun V X h1 h2 => by
        have hvx : Below v2.heap.size v2 X := h1.trans (h2.mono h1.size)
        exact ⟨(HAC.out X (HW2.out.trans (hvx.mono (by have := HLv.out; omega)))).1, hvx.block g HLv.out.1⟩
      have HKL : Hid (∀ X, Below (v2.drew.alloc B0).heap.size (v2.drew.alloc B0) X → X.heap[v2.heap.size]? = some (.cells #[.int .i64 0, .int .i64 0, .int .u64 0, .int .u64 0, .int .u64 0, .string ⟨#[]⟩, .string ⟨#[]⟩] 95 (0, 0))) := fun X h2 => by
        have hsz : (v2.drew.alloc B0).heap.size = v2.heap.size + 1 := by simp
        exact (h2.block v2.heap.size (by omega)).trans (heap_alloc_new v2.drew _)
      have HDV : Hid (Below v2.heap.size v2 v2.drew ∧ Below v2.heap.size v2 (v2.drew.alloc B0)) := ⟨(Below.refl _ _).drew, (Below.refl _ _).drew.alloc (Nat.le_refl _) _⟩
      clear HRD k0 k1 k2 k3 k4 a0 a8 a10
      simp only [Act.put, List.setIfInBounds_toArray, List.set_cons_zero, List.set_cons_succ]
      go_cut [6, 7] from 25 to 45 (fun s6 s7 wx => GotB v2 y f s6 s7 wx)
      case first =>
        go_region_held3 (fun V => V.cell? ⟨ap, 0, none⟩ = some (.pointer (some ⟨dp, 0, none⟩)) ∧ V.cell? ⟨g, 0, none⟩ = some (.string x0) ∧ V.cell? ⟨g, 1, none⟩ = some (.int .u64 x1) ∧ V.cell? ⟨g, 2, none⟩ = some (.int .u64 x2) ∧ V.cell? ⟨g, 3, none⟩ = some (.int .i64 x3) ∧ V.cell? ⟨g, 4, none⟩ = some (.int .i64 x4)) (go_keep)
          (first
            | (go_at_call 37; refine HRA.out.mono ?_; rintro e x1' ⟨rfl, hb⟩; obtain ⟨t0, t1⟩ := HKV.out _ x1' HDV.out.1 hb; obtain ⟨p0, p1, p2, p3, p4⟩ := cells5 (t1.trans H2.out))
            | (go_at_call 37; refine HRB.out.mono ?_; rintro e x1' ⟨rfl, hb⟩; obtain ⟨t0, t1⟩ := HKV.out _ x1' HDV.out.2 hb; obtain ⟨p0, p1, p2, p3, p4⟩ := cells5 (t1.trans H2.out); obtain ⟨f0, f1, f2, f3, f4, f5, f6⟩ := frozen7 (HKL.out x1' hb); obtain ⟨y0', y1', y2', y3', y4', y5', y6'⟩ := cells7 (HKL.out x1' hb))
            | fail)
        all_goals
          go_wp2
          go_meet
          case rel => first
            | (have h := gotB_1 (x := y) (f := f) hb; with_reducible exact h)
            | (have h := gotB_2 (x := y) (f := f) hb; with_reducible exact h)
      case rest =>
        obtain ⟨g6, rfl, rfl, HB6, HW6⟩ := hcut
        clear p0 p1 p2 p3 p4 u0 u8 u10 dga dag dgv dvg dav dva
        have HX6 := Lib.hid ((HW6.out.block g3 (by have := HLv.out; omega)).trans HX2.out)
        have HO6 := Lib.hid (own_keep HO2.out HW6.out)
        have HBB : Hid (Below wr.heap.size wr wc) := HGX.out.symm ▸ HB2.out.trans (HW6.out.mono (by have := HLv.out; omega))
        have HS6 : Hid (Stay (fun k => k = g3) wA wc) := HS.out.trans (Stay.of_below HBB.out)
        have HW7 : Hid (Below g2 w wc) := HW2.out.trans (HW6.out.mono (by have := HLv.out; omega))
        obtain ⟨q0, q1, q2, q3, q4, q5, q6⟩ := HB6.out.cells
        obtain ⟨s0, s1⟩ := cells2 HX6.out
        cases f with
        | false =>
          have HFN : Hid ((T.take (i + 1)).filterMap (pairK D) = (T.take i).filterMap (pairK D)) := by
            have ho : o = none := by cases ho : o with
              | none => rfl
              | some v => have := HF.out; rw [ho] at this; cases this
            show _ = _
            rw [HNX.out, HFX.out, ho]
            simp
          have HM2 : Hid (((T.take (i + 1)).filterMap (pairK D)).length = m) := by rw [HFN.out]; exact HM.out
          have HO7 := HO6
          rw [← HFN.out] at HO7
          go_wp2
          go_roundg gk
          case measure => omega
          case rel => exact ⟨i + 1, m, V, by omega, by go_num, HM2, HX6, HO7, HS6, HW7⟩
        | true =>
          have HFN : Hid ((T.take (i + 1)).filterMap (pairK D) = (T.take i).filterMap (pairK D) ++ [(⟨y.key, y.val⟩ : Kv)]) := by
            have ho : o = some y := by cases ho : o with
              | none => have := HF.out; rw [ho] at this; cases this
              | some v => have := HY.out; rw [ho] at this; rw [← this]; rfl
            show _ = _
            rw [HNX.out, HFX.out, ho]
            rfl
          have HM2 : Hid (((T.take (i + 1)).filterMap (pairK D)).length = m + 1) := by
            show _ = _
            rw [HFN.out, List.length_append, HM.out]
            rfl
          have hml : m < 1048576 := by
            have h1 := List.length_filterMap_le (pairK D) (T.take i)
            have h2 := HM.out
            have h3 := List.length_take_le i T
            have h4 := HLN.out
            omega
          obtain ⟨v8, w8, hrun, ho8, hg8, -, hne8⟩ := RP.run_app_one wc qA m V ((T.take i).filterMap (pairK D)) (⟨y.key, y.val⟩ : Kv) HO6.out hml (Nat.le_trans HQqA.out HS6.out.size) 39
          obtain ⟨-, A8, c8', rfl, -⟩ := Rec.row_of_own (R := RP) ho8 (by rw [List.length_append, HM.out]; show m + 1 ≤ _; omega)
          obtain ⟨c8, f8, hX8, hO8, hS8, hB8⟩ := appSt0 HS6.out HW7.out HX6.out HO6.out HQ3qA.out.1 HQEqA.out (Nat.le_of_lt HG23.out) hg8 ho8
          rw [← HFN.out] at hO8
          have HRUN := Lib.hid hrun
          have HX9 := Lib.hid hX8
          have HO9 := Lib.hid hO8
          have HS9 := Lib.hid hS8
          have HB9 := Lib.hid hB8
          clear hrun ho8 hg8 hX8 hO8 hS8 hB8
          go_wp2_with (first
            | (at_builtin; refine wpList_app rfl (.tmp 36) (.tmp 42) 39 rfl rfl rfl HRUN.out ?_)
            | fail)
          go_roundg gk
          case measure => omega
          case rel => exact ⟨i + 1, m + 1, _, by omega, by go_num, HM2, HX9, HO9, HS9, HB9⟩
end

end Go.Proofs.YtlghphccmgmomaaGreat
