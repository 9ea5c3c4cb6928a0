/-
  Proved here: the list beside a plain one.
  Conditions: none.
-/
import Derived.Test.YtejljkpnhdnncaaFiI14
import Derived.Test.YtejljkpnhdnncaaLinkIn
import Derived.Test.YtejljkpnhdnncaaSame12
namespace Go.Proofs.Ytejljkpnhdnncaa
open Go Go.RowKit
set_option maxRecDepth 100000

set_option maxHeartbeats 1600000 in
/-- Head turns nothing that lay there. -/
theorem fihead_below {w : World} {p f : Nat} {v : Value} {P L : List Ln} (h : Fi w p v f P L) :
    Calls Try.prog 8 #[.pointer (some ⟨p, 0, none⟩)] w fun e w' => e = .returned (hdV L) ∧ Below w.heap.size w w' := by
  obtain ⟨g, hg⟩ : ∃ g, w.heap.size = g := ⟨_, rfl⟩
  have HG := Lib.hid hg
  have HZ := Lib.hid zero_link
  obtain ⟨y, b, hyb⟩ : ∃ (y : Ln) (b : Bool), hdV L = .tuple #[y.agg, .bool b] := ⟨_, _, rfl⟩
  have HYB := Lib.hid hyb
  have HEB : Hid (∀ (w' : World) (g : Nat), w'.heap[g]? = some (.cells #[.string y.str, .int .u64 (y.id : Nat), .int .u64 (y.ver : Nat), .int .i64 y.line, .int .i64 y.cl] 29 (0, 0)) → LBox w' g y) := fun w' g h => h
  have HH : Hid (∀ w2, Below g w w2 → Calls Try.prog 16 #[.pointer (some ⟨p, 0, none⟩)] w2 fun e w' => e = .returned (.tuple #[.agg #[.string y.str, .int .u64 (y.id : Nat), .int .u64 (y.ver : Nat), .int .i64 y.line, .int .i64 y.cl], .bool b]) ∧ Below w2.heap.size w2 w') := fun w2 hb => by
    refine (rhead_any (h.below (hg.symm ▸ hb))).mono ?_
    rintro e w' ⟨rfl, hb⟩
    exact ⟨by rw [hyb]; rfl, hb⟩
  rw [hg]
  clear h hyb hg
  go_enter Try.func8, Try.ntmps8
  go_wp2_with (first
    | ((with_reducible show wpList _ _ _ (⟨some 2, .alloc _, _, _, _, _⟩ :: _) _ _); refine wpList_alloc_var (o := ⟨some 2, _, _, _, _, _⟩) rfl 29 rfl g HG.out _ HZ.out ?_; intro w2 H2 B2)
    | fail)
  refine (HH.out w2 B2.out).mono ?_
  rintro e w3 ⟨rfl, hb3⟩
  have H3 := Lib.hid ((hb3.block g (lt_of_heap H2.out)).trans H2.out)
  have B3 : Hid (Below g w w3) := B2.out.trans (hb3.mono (Nat.le_of_lt (lt_of_heap H2.out)))
  clear hb3
  go_wp2_with (first
    | ((with_reducible show wpList _ _ _ (⟨none, .store _ (.tmp 2) _, _, _, _, _⟩ :: _) _ _); refine wpList_store_whole (o := ⟨none, .store 29 (.tmp 2) (.tmp 11), _, _, _, _⟩) rfl _ _ _ rfl rfl g #[.string y.str, .int .u64 (y.id : Nat), .int .u64 (y.ver : Nat), .int .i64 y.line, .int .i64 y.cl] rfl rfl 29 _ H3.out size_link rfl (onesL _ _ _ _ _) ?_; intro w5 H5 B5)
    | fail)
  refine bodyPost_ret (results_l2 rfl rfl rfl (HEB.out _ _ H5.out)) rfl ?_
  rw [HYB.out]
  exact ⟨rfl, B3.out.trans B5.out⟩
/-! ### The list and the plain one -/
/-- The list at g with the links L1, and a plain one, V, with L2, behind a world of g blocks. -/
structure Mw (w0 : World) (g : Nat) (w : World) (v V : Value) (L1 L2 : List Ln) : Prop where
  fg : Fg w0 g w g v L1
  row : w.ownsRow g 29 5 V L2.length (encL L2)
  far : ∀ k, V.ownBlock = some k → ¬ fiOwn g v k
section
variable {w0 w w' : World} {g : Nat} {v V V' : Value} {L1 L2 L' : List Ln}
theorem Mw.below (h : Mw w0 g w v V L1 L2) (hb : Below w.heap.size w w') : Mw w0 g w' v V L1 L2 := ⟨h.fg.below hb, own_keep h.row hb, h.far⟩
theorem Mw.drewN (h : Mw w0 g w v V L1 L2) (k : Nat) : Mw w0 g (w.drewN k) v V L1 L2 := h.below (below_drewN (Below.refl _ _) k)
/-- The list has moved. -/
theorem Mw.setP (h : Mw w0 g w v V L1 L2) (hb : FiTo w g v L' w') : (∃ v', Mw w0 g w' v' V L' L2) ∧ ∀ k, k < w.heap.size → ¬ fiOwn g v k → w'.heap[k]? = w.heap[k]? := by
  obtain ⟨v', f', P', h1, h2, h3⟩ := hb
  refine ⟨⟨v', ⟨⟨f', P', h1⟩, h.fg.bel.trans (h2.below h.fg.own h.fg.gw), h.fg.sz, fun k hk => ?_⟩, own_same h.row fun k hk => h2.block k (h.far k hk) (h.row.lt k hk).2, fun k hk e => ?_⟩, fun k hk hn => h2.block k hn hk⟩
  · rcases h3 k hk with e | e
    · exact h.fg.own k e
    · exact Nat.le_trans h.fg.gw e
  · rcases h3 k e with e | e
    · exact h.far k hk e
    · have := (h.row.lt k hk).2
      omega
/-- The plain one has moved. -/
theorem Mw.setM (h : Mw w0 g w v V L1 L2) (ho : w'.ownsRow g 29 5 V' L'.length (encL L')) (hg : w.grownBy w' V.ownBlock) (hv : ∀ k, V'.ownBlock = some k → V.ownBlock = some k ∨ w.heap.size ≤ k) : Mw w0 g w' v V' L1 L' := by
  have hs : Stay (fun k => V.ownBlock = some k) w w' := ⟨hg.os, hg.tape, hg.output, hg.size, fun k hk hl => hg.block k hl (fun e => hk e.symm)⟩
  obtain ⟨f, P, h1⟩ := h.fg.fi
  refine ⟨⟨⟨f, P, h1.stay hs fun k hk e => h.far k e hk⟩, h.fg.bel.trans (hs.below (fun k e => own_ge h.row k e) h.fg.gw), h.fg.sz, h.fg.own⟩, ho, fun k hk e => ?_⟩
  rcases hv k hk with e2 | e2
  · exact h.far k e2 e
  · have := h.fg.lt e
    omega
end
theorem grown_none {w w' : World} (b : Option Nat) (h : w.grownBy w' none) : w.grownBy w' b := ⟨h.os, h.tape, h.output, h.size, fun k hk _ => h.block k hk (by simp)⟩
theorem mw_new {w0 w1 : World} {g : Nat} (h : Fg w0 g w1 g (.slice none 0 0) []) : Mw w0 g w1 (.slice none 0 0) (.slice none 0 0) [] [] := ⟨h, World.ownsRow_nil _ _ _ _, fun _ h => (by cases h)⟩
/-- What a plain list holds behind one act: a pop, or a push of x. -/
def stepQ (pop : Bool) (x : Ln) (L : List Ln) : List Ln := if pop then L.tail else L ++ [x]
/-- What it holds behind i acts. -/
def playQ (z : List Ln) (p : List Bool) : Nat → List Ln
  | 0 => []
  | i + 1 => stepQ (p.getD i false) (z.getD i Ln.zero) (playQ z p i)
theorem playQ_len (z : List Ln) (p : List Bool) (i : Nat) : (playQ z p i).length ≤ i := by
  induction i with
  | zero => exact Nat.le_refl _
  | succ i ih =>
    show (stepQ _ _ _).length ≤ _
    unfold stepQ
    split
    · simp; omega
    · simp; omega
theorem Mw.cap {w0 w : World} {g bV m cap : Nat} {v : Value} {L1 L2 : List Ln} (h : Mw w0 g w v (.slice (some ⟨bV, 0, none⟩) m cap) L1 L2) : m ≤ cap := by
  rcases h.row.2 with ⟨e, _⟩ | ⟨g2, c2, cur, e, _, _, h2, _⟩
  · cases e
  · cases e
    exact h2
/-- A list that was told and a plain one that holds the same are alike. -/
theorem same_two {w : World} {gq cap B1 B2 : Nat} {A : Option Addr} (L : List Ln) (m : Nat) (hm : L.length = m) (hl : m ≤ 1048576) (h1 : w.ownsRow B1 29 5 (.slice (some ⟨gq, 0, none⟩) m m) m (encL L)) (h2 : w.ownsRow B2 29 5 (.slice A m cap) L.length (encL L)) :
    Calls Try.prog 13 #[.slice (some ⟨gq, 0, none⟩) m m, .slice A m cap] w fun e w' => e = .returned (.bool true) ∧ ∃ k, w' = w.drewN k := by
  have k1 : RowL w (some ⟨gq, 0, none⟩) L := by
    obtain ⟨_, A', c', e, _, hr, _⟩ := rowL_of_own h1 (by omega)
    injection e with e1 e2 e3
    rw [e1]
    exact hr
  have k2 : RowL w A L := by
    obtain ⟨_, A', c', e, _, hr, _⟩ := rowL_of_own h2 (by omega)
    injection e with e1 e2 e3
    rw [e1]
    exact hr
  exact samel_any w (some ⟨gq, 0, none⟩) A m m cap L hm k1 k2

end Go.Proofs.Ytejljkpnhdnncaa
