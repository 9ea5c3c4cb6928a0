/-
  Proved here, joined: Mv13, Same12, Set13
  Conditions: as each part says.
-/
import Derived.Test.YtlghphccmgmomaaGreatJN24
import Derived.Test.YtlghphccmgmomaaGreatJN25
import Derived.Deep.RegionHeld3
import Derived.Test.YtlghphccmgmomaaGreatJN21

/-
  Proved here: what slices.Insert leaves of a row of links; an order whose levels are being moved.
  Conditions: less than 2^20 links.
-/
namespace Go.Proofs.YtlghphccmgmomaaGreat
open Go Go.RowKit
set_option maxRecDepth 100000

theorem insert_any {w : World} {v : Value} {l : List Ln} (hown : w.ownsRow 0 29 5 v l.length (encL l)) (hl : l.length < 1048576) {x : Ln} {vb : Nat} (hx : w.heap[vb]? = some (.cells #[.string x.str, .int .u64 (x.id : Nat), .int .u64 (x.ver : Nat), .int .i64 x.line, .int .i64 x.cl] 29 (0, 0)))
    (hne : v.ownBlock ≠ some vb) (i : Nat) (hi : i ≤ l.length) :
    Calls Tryz.prog 154 #[v, .int .i64 (i : Int), .slice (some ⟨vb, 0, none⟩) 1 1] w (InsTo (l.take i ++ x :: l.drop i) v w) := by
  rcases hown.2 with ⟨e, e0⟩ | ⟨g, cap, cur, e, _, _, hnc, _⟩
  · have h0 : l = [] := List.eq_nil_of_length_eq_zero e0
    subst h0
    obtain rfl : i = 0 := by simpa using hi
    subst e
    exact insert_end_nil hx
  · subst e
    have hne2 : vb ≠ g := fun e => hne (by rw [e]; rfl)
    by_cases hin : i = l.length
    · subst hin
      rw [List.take_length, List.drop_length]
      exact insert_end rfl hown hl hx
    · by_cases hr : l.length + 1 ≤ cap
      · exact insert_room rfl hown hl hx hne2 i (by omega) hr
      · obtain rfl : cap = l.length := by omega
        exact insert_grow rfl hown hl hx i (by omega)
/-! ### An order on its way -/
structure Mv (w0 : World) (p : Nat) (v0 : Nat → Value) (lo : Nat) (w : World) (v : Nat → Value) (M : Nat → List Ln) : Prop where
  ro : Ro w p v M
  stay : Stay (odOwn p v0) w0 w
  own : ∀ k, odOwn p v k → odOwn p v0 k ∨ lo ≤ k
  old : ∀ k, odOwn p v0 k → k < w0.heap.size
  le : w0.heap.size ≤ lo
  lt : lo ≤ w.heap.size
section
variable {w0 w w' w1 : World} {p lo : Nat} {v0 v : Nat → Value} {M M' : Nat → List Ln}
theorem Mv.below (h : Mv w0 p v0 lo w v M) (hb : Below w.heap.size w w') : Mv w0 p v0 lo w' v M :=
  ⟨h.ro.below hb, h.stay.new (Stay.of_below (S := fun _ => False) hb) (fun _ => False.elim), h.own, h.old, h.le, Nat.le_trans h.lt hb.size⟩
theorem Mv.drewN (h : Mv w0 p v0 lo w v M) (k : Nat) : Mv w0 p v0 lo (w.drewN k) v M := h.below (below_drewN (Below.refl _ _) k)
/-- What is made behind the beginning is none of the order's own, unless the order made it. -/
theorem Mv.not_own (h : Mv w0 p v0 lo w v M) {k : Nat} (h1 : w0.heap.size ≤ k) (h2 : k < lo) : ¬ odOwn p v k := fun e => by
  rcases h.own k e with e | e
  · have := h.old k e; omega
  · omega
theorem Mv.moved (h : Mv w0 p v0 lo w v M) {i : Nat} (hi : i < 4) {u : Value} {N : List Ln} (ho : w1.ownsRow 0 29 5 u N.length (encL N)) (hg : w.grownBy w1 (v i).ownBlock) (hu : ∀ k, u.ownBlock = some k → (v i).ownBlock = some k ∨ w.heap.size ≤ k) :
    Mv w0 p v0 lo (w1.setCell ⟨p, i, none⟩ u) (upd v i u) (upd M i N) ∧ ∀ k, ¬ odOwn p v k → k < w.heap.size → (w1.setCell ⟨p, i, none⟩ u).heap[k]? = w.heap[k]? := by
  obtain ⟨h1, h2, h3⟩ := h.ro.moved hi ho hg hu
  refine ⟨⟨h1, h.stay.new h2 fun k hk => (h.own k hk).imp id (Nat.le_trans h.le), fun k hk => ?_, h.old, h.le, Nat.le_trans h.lt h2.size⟩, h2.block⟩
  rcases h3 k hk with e | e
  · exact h.own k e
  · exact .inr (Nat.le_trans h.lt e)
theorem Mv.wrote (h : Mv w0 p v0 lo w v M) {i : Nat} (hi : i < 4) {N : List Ln} (ho : w1.ownsRow 0 29 5 (v i) N.length (encL N)) (hg : w.grownBy w1 (v i).ownBlock) :
    Mv w0 p v0 lo w1 v (upd M i N) ∧ ∀ k, ¬ odOwn p v k → k < w.heap.size → w1.heap[k]? = w.heap[k]? := by
  obtain ⟨h1, h2⟩ := h.ro.wrote hi ho hg
  exact ⟨⟨h1, h.stay.new h2 fun k hk => (h.own k hk).imp id (Nat.le_trans h.le), h.own, h.old, h.le, Nat.le_trans h.lt h2.size⟩, h2.block⟩
theorem Mv.congr (h : Mv w0 p v0 lo w v M) (he : ∀ i, i < 4 → M i = M' i) : Mv w0 p v0 lo w v M' := ⟨h.ro.congr he, h.stay, h.own, h.old, h.le, h.lt⟩
theorem Mv.to (h : Mv w0 p v0 lo w v M) {L : List Ln} (he : ∀ i, i < 4 → M i = lev i L) (hr : RisesK L) (hk : ∀ x ∈ L, x.k.length ≤ 1073741824) : OdTo w0 p v0 L w :=
  ⟨v, ⟨hr, hk, h.ro.congr he⟩, h.stay, fun k hk => (h.own k hk).imp id (Nat.le_trans h.le)⟩
end
theorem Od.mv {w w1 : World} {p : Nat} {v : Nat → Value} {L : List Ln} (h : Od w p v L) (hb : Below w.heap.size w w1) : Mv w p v w1.heap.size w1 v (fun i => lev i L) :=
  ⟨h.ro.below hb, Stay.of_below hb, fun _ hk => .inl hk, fun _ hk => h.lt hk, hb.size, Nat.le_refl _⟩
/-- The levels behind i rounds of a Set. -/
def setM (L : List Ln) (x : Ln) (i : Nat) (j : Nat) : List Ln := if j < i then lev j (setT L x) else lev j L
theorem setM_at (L : List Ln) (x : Ln) (i : Nat) : setM L x i i = lev i L := if_neg (Nat.lt_irrefl i)
theorem setM_next {L : List Ln} (h : RisesK L) (x : Ln) {i : Nat} (hi : i < hgt x.k) {N : List Ln} (hN : N = setT (lev i L) x) : ∀ j, upd (setM L x i) i N j = setM L x (i + 1) j := fun j => by
  by_cases e : j = i
  · subst e
    rw [upd_same, hN]
    unfold setM
    rw [if_pos (by omega), lev_set h x hi]
  · rw [upd_ne _ _ e]
    unfold setM
    by_cases h1 : j < i
    · rw [if_pos h1, if_pos (by omega)]
    · rw [if_neg h1, if_neg (by omega)]
theorem setM_end {L : List Ln} (h : RisesK L) (x : Ln) : ∀ j, setM L x (hgt x.k) j = lev j (setT L x) := fun j => by
  unfold setM
  split
  · rfl
  · rw [lev_set_no h x (by omega)]
def dropM (L : List Ln) (k : Ky) (i : Nat) (j : Nat) : List Ln := if j < i then lev j (dropT L k) else lev j L
theorem dropM_at (L : List Ln) (k : Ky) (i : Nat) : dropM L k i i = lev i L := if_neg (Nat.lt_irrefl i)
theorem dropM_next {L : List Ln} (h : RisesK L) (k : Ky) {i : Nat} (hi : i < hgt k) {N : List Ln} (hN : N = dropT (lev i L) k) : ∀ j, upd (dropM L k i) i N j = dropM L k (i + 1) j := fun j => by
  by_cases e : j = i
  · subst e
    rw [upd_same, hN]
    unfold dropM
    rw [if_pos (by omega), lev_drop h k hi]
  · rw [upd_ne _ _ e]
    unfold dropM
    by_cases h1 : j < i
    · rw [if_pos h1, if_pos (by omega)]
    · rw [if_neg h1, if_neg (by omega)]
theorem dropM_stays {L : List Ln} (k : Ky) (i : Nat) (hk : hasT L k = false) : ∀ j, dropM L k i j = dropM L k (i + 1) j := fun j => by
  have hn : dropT L k = L := dropT_none (hasT_no hk)
  unfold dropM
  rw [hn]
  split <;> split <;> rfl
theorem dropM_end {L : List Ln} (h : RisesK L) (k : Ky) : ∀ j, dropM L k (hgt k) j = lev j (dropT L k) := fun j => by
  unfold dropM
  split
  · rfl
  · rw [lev_drop_no h k (by omega)]
/-- What the loops of Set and Drop have told so far. -/
def toldT (L : List Ln) (k : Ky) (i : Nat) : Bool := decide (0 < i) && hasT L k
theorem toldT_next {L : List Ln} (k : Ky) (i : Nat) : toldT L k (i + 1) = hasT L k := by simp [toldT]
theorem toldT_end {L : List Ln} (k : Ky) : toldT L k (hgt k) = hasT L k := by
  have := (hgt_bounds k).1
  simp [toldT, show 0 < hgt k by omega]
theorem keys_set {L : List Ln} (h : ∀ x ∈ L, x.k.length ≤ 1073741824) {x : Ln} (hx : x.k.length ≤ 1073741824) : ∀ y ∈ setT L x, y.k.length ≤ 1073741824 := fun y hy => by
  rcases mem_setT.1 hy with rfl | ⟨h1, _⟩
  · exact hx
  · exact h y h1
theorem keys_dropT {L : List Ln} (h : ∀ x ∈ L, x.k.length ≤ 1073741824) (k : Ky) : ∀ x ∈ dropT L k, x.k.length ≤ 1073741824 := fun x hx => h x (mem_dropT.1 hx).1

end Go.Proofs.YtlghphccmgmomaaGreat

/-
  Proved here: what the statements' own SameLinks and OverLinks answer and leave.
  Conditions: rows of at most 2^20 links.
-/
namespace Go.Proofs.YtlghphccmgmomaaGreat
open Go Go.RowKit
set_option maxRecDepth 100000

theorem encL_set (L : List Ln) (i : Nat) (e : Ln) (hi : i < L.length) : (((((encL L).set (i * 5) (.string e.str)).set (i * 5 + 1) (.int .u64 (e.id : Nat))).set (i * 5 + 2) (.int .u64 (e.ver : Nat))).set (i * 5 + 3) (.int .i64 e.line)).set (i * 5 + 4) (.int .i64 e.cl) = encL (L.set i e) := by
  induction L generalizing i with
  | nil => simp at hi
  | cons a L ih =>
    cases i with
    | zero => rfl
    | succ i =>
      have := ih i (by simpa using hi)
      simp only [encL, List.flatMap_cons, List.set_cons_succ] at this ⊢
      rw [← this]
      have ha : a.cells.length = 5 := rfl
      rw [List.set_append_right _ _ (by omega), List.set_append_right _ _ (by omega), List.set_append_right _ _ (by omega), List.set_append_right _ _ (by omega), List.set_append_right _ _ (by omega), ha, show (i + 1) * 5 - 5 = i * 5 by omega, show (i + 1) * 5 + 1 - 5 = i * 5 + 1 by omega, show (i + 1) * 5 + 2 - 5 = i * 5 + 2 by omega, show (i + 1) * 5 + 3 - 5 = i * 5 + 3 by omega, show (i + 1) * 5 + 4 - 5 = i * 5 + 4 by omega]
end Go.Proofs.YtlghphccmgmomaaGreat

/-
  Proved here: what the order's Set answers and leaves.
  Conditions: keys of at most 2^30 bytes; less than 2^20 links.
-/
namespace Go.Proofs.YtlghphccmgmomaaGreat
open Go Go.RowKit
set_option maxRecDepth 100000

theorem own_is {w : World} {u : Value} {l : List Ln} (h : w.ownsRow 0 29 5 u l.length (encL l)) (hl : 0 < l.length) : ∃ b cap, u = .slice (some ⟨b, 0, none⟩) l.length cap := by
  rcases h.2 with ⟨_, e⟩ | ⟨g, cap, cur, e, _⟩
  · omega
  · exact ⟨g, cap, e⟩
set_option maxHeartbeats 3200000 in
set_option maxRecDepth 100000 in
theorem odset_any {w : World} {p : Nat} {v : Nat → Value} {L : List Ln} (h : Od w p v L) (x : Ln) (hk : x.k.length ≤ 1073741824) (hl : L.length < 1048576) :
    Calls Tryz.prog 108 #[.pointer (some ⟨p, 0, none⟩), .agg #[.string x.str, .int .u64 (x.id : Nat), .int .u64 (x.ver : Nat), .int .i64 x.line, .int .i64 x.cl]] w fun e w' => e = .returned (.bool (hasT L x.k)) ∧ OdTo w p v (setT L x) w' := by
  obtain ⟨R, hR⟩ : ∃ R : Ending → World → Prop, (fun e w' => e = .returned (.bool (hasT L x.k)) ∧ OdTo w p v (setT L x) w') = R := ⟨_, rfl⟩
  rw [hR]
  obtain ⟨g, hg⟩ : ∃ g, w.heap.size = g := ⟨_, rfl⟩
  have HG := Lib.hid hg
  obtain ⟨H, hH⟩ : ∃ H, hgt x.k = H := ⟨_, rfl⟩
  have hHb := hgt_bounds x.k
  rw [hH] at hHb
  have HLV : Hid (∀ w1, Calls Tryz.prog 152 #[.string x.str] w1 fun e w' => e = .returned (.int .i64 (H : Nat)) ∧ Below w1.heap.size w1 w') := fun w1 => by
    have := level_any x.str (by show x.k.toArray.size ≤ _; simpa using hk) w1
    rwa [show lvl (addS 0 x.str.data.toList) = H from hH] at this
  have HEND : Hid (∀ w' v', Mv w p v (g + 1) w' v' (setM L x H) → R (.returned (.bool (toldT L x.k H))) w') := fun w' v' hm => by
    rw [← hR, ← hH, toldT_end]
    rw [← hH] at hm
    exact ⟨rfl, hm.to (fun i _ => setM_end h.rises x i) (risesK_set h.rises x) (keys_set h.keys hk)⟩
  have HM0 : Hid (∀ w1, Below (g + 1) (w.alloc (.cells #[.string x.str, .int .u64 (x.id : Nat), .int .u64 (x.ver : Nat), .int .i64 x.line, .int .i64 x.cl] 29)) w1 → Mv w p v (g + 1) w1 v (setM L x 0)) := fun w1 hb => by
    have h1 := h.mv (w1 := w.alloc (.cells #[.string x.str, .int .u64 (x.id : Nat), .int .u64 (x.ver : Nat), .int .i64 x.line, .int .i64 x.cl] 29)) ((Below.refl _ _).alloc (Nat.le_refl _) _)
    have e : (w.alloc (.cells #[.string x.str, .int .u64 (x.id : Nat), .int .u64 (x.ver : Nat), .int .i64 x.line, .int .i64 x.cl] 29)).heap.size = g + 1 := by simp [hg]
    rw [e] at h1
    refine (h1.below (e.symm ▸ hb)).congr fun i _ => ?_
    unfold setM
    rw [if_neg (by omega)]
  have HB0 : Hid ((w.alloc (.cells #[.string x.str, .int .u64 (x.id : Nat), .int .u64 (x.ver : Nat), .int .i64 x.line, .int .i64 x.cl] 29)).heap[g]? = some (.cells #[.string x.str, .int .u64 (x.id : Nat), .int .u64 (x.ver : Nat), .int .i64 x.line, .int .i64 x.cl] 29 (0, 0))) := by rw [← hg]; exact heap_alloc_new w _
  have hc0 : (w.alloc (.cells #[.string x.str, .int .u64 (x.id : Nat), .int .u64 (x.ver : Nat), .int .i64 x.line, .int .i64 x.cl] 29)).cell? ⟨g, 0, none⟩ = some (.string x.str) := (cellsL HB0.out).1
  have HS0 : Hid ((w.alloc (.cells #[.string x.str, .int .u64 (x.id : Nat), .int .u64 (x.ver : Nat), .int .i64 x.line, .int .i64 x.cl] 29)).heap.size = g + 1) := by show _ = _; simp [hg]
  have HRS := Lib.hid h.rises
  have HLL : Hid (∀ i, (lev i L).length < 1048576) := fun i => Nat.lt_of_le_of_lt (lev_len i L) hl
  have HFI : Hid (∀ (w1 : World) (A : Option Addr) (n cap : Nat) (l : List Ln), l.length = n → RowL w1 A l → RisesK l → Calls Tryz.prog 153 #[.slice A n cap, .string x.str] w1 fun e w' => e = .returned (.tuple #[.int .i64 (posT l x.k : Nat), .bool (hasT l x.k)]) ∧ Below w1.heap.size w1 w') := fun w1 A n cap l h1 h2 h3 => odfind_any n cap h1 h2 h3 x.str
  have HIN : Hid (∀ (w1 : World) (u : Value) (l : List Ln) (b : Nat), w1.ownsRow 0 29 5 u l.length (encL l) → RisesK l → l.length < 1048576 → hasT l x.k = false → w1.heap[b]? = some (.cells #[.string x.str, .int .u64 (x.id : Nat), .int .u64 (x.ver : Nat), .int .i64 x.line, .int .i64 x.cl] 29 (0, 0)) → u.ownBlock ≠ some b → Calls Tryz.prog 154 #[u, .int .i64 (posT l x.k : Nat), .slice (some ⟨b, 0, none⟩) 1 1] w1 (InsTo (setT l x) u w1)) := fun w1 u l b h1 h2 h3 h4 h5 h6 => by
    have := insert_any h1 h3 h5 h6 (posT l x.k) (posT_le l x.k)
    rwa [← set_pos_no h2 x h4] at this
  have HSE : Hid (∀ (w1 : World) (b n cap : Nat) (l : List Ln), w1.ownsRow 0 29 5 (.slice (some ⟨b, 0, none⟩) n cap) n (encL l) → RisesK l → hasT l x.k = true → l.length = n → posT l x.k < n ∧ (((((w1.setCell ⟨b, posT l x.k * 5, none⟩ (.string x.str)).setCell ⟨b, posT l x.k * 5 + 1, none⟩ (.int .u64 (x.id : Nat))).setCell ⟨b, posT l x.k * 5 + 2, none⟩ (.int .u64 (x.ver : Nat))).setCell ⟨b, posT l x.k * 5 + 3, none⟩ (.int .i64 x.line)).setCell ⟨b, posT l x.k * 5 + 4, none⟩ (.int .i64 x.cl)).ownsRow 0 29 5 (.slice (some ⟨b, 0, none⟩) n cap) (setT l x).length (encL (setT l x)) ∧
      w1.grownBy (((((w1.setCell ⟨b, posT l x.k * 5, none⟩ (.string x.str)).setCell ⟨b, posT l x.k * 5 + 1, none⟩ (.int .u64 (x.id : Nat))).setCell ⟨b, posT l x.k * 5 + 2, none⟩ (.int .u64 (x.ver : Nat))).setCell ⟨b, posT l x.k * 5 + 3, none⟩ (.int .i64 x.line)).setCell ⟨b, posT l x.k * 5 + 4, none⟩ (.int .i64 x.cl)) (some b)) := fun w1 b n cap l h1 h2 h3 h4 => by
    obtain ⟨y, hy, _⟩ := pos_yes h2 h3
    have hp : posT l x.k < l.length := (List.getElem?_eq_some_iff.1 hy).1
    have s0 := h1.stored (posT l x.k * 5) (.string x.str)
    have s1 := s0.1.stored (posT l x.k * 5 + 1) (.int .u64 (x.id : Nat))
    have s2 := s1.1.stored (posT l x.k * 5 + 2) (.int .u64 (x.ver : Nat))
    have s3 := s2.1.stored (posT l x.k * 5 + 3) (.int .i64 x.line)
    have s4 := s3.1.stored (posT l x.k * 5 + 4) (.int .i64 x.cl)
    have e := s4.1
    rw [encL_set l _ x hp, ← set_pos_yes h2 x h3] at e
    have hlen : (setT l x).length = n := by rw [set_pos_yes h2 x h3, List.length_set]; exact h4
    have tr : ∀ a b' c : World, a.grownBy b' (some b) → b'.grownBy c (some b) → a.grownBy c (some b) := fun a b' c k1 k2 => ⟨k2.os.trans k1.os, k2.tape.trans k1.tape, k2.output.trans k1.output, Nat.le_trans k1.size k2.size, fun k hk hne => (k2.block k (Nat.lt_of_lt_of_le hk k1.size) hne).trans (k1.block k hk hne)⟩
    exact ⟨by omega, by rw [hlen]; exact e, tr _ _ _ (tr _ _ _ (tr _ _ _ (tr _ _ _ s0.2 s1.2) s2.2) s3.2) s4.2⟩
  obtain ⟨td, htd⟩ : ∃ td, toldT L x.k = td := ⟨_, rfl⟩
  have HT0 : Hid (td 0 = false) := by rw [← htd]; rfl
  have HTN : Hid (∀ i, td (i + 1) = hasT L x.k) := fun i => by rw [← htd]; exact toldT_next _ _
  rw [htd] at HEND
  have HHS : Hid (∀ i, i < H → hasT (lev i L) x.k = hasT L x.k) := fun i hi => lev_has h.rises x.k (by omega)
  have HNX : Hid (∀ i, i < H → ∀ j, upd (setM L x i) i (setT (lev i L) x) j = setM L x (i + 1) j) := fun i hi => setM_next h.rises x (by omega) rfl
  have hH1 := hHb.2
  rw [← hg] at hc0
  clear h hk hl hR hH htd hHb
  generalize x.str = x0 at *
  generalize (x.id : Int) = x1 at *
  generalize (x.ver : Int) = x2 at *
  generalize x.line = x3 at *
  generalize x.cl = x4 at *
  go_enter Tryz.func108, Tryz.ntmps108
  go_wp2_with fail
  refine (HLV.out _).mono ?_
  rintro e w1 ⟨rfl, hb1⟩
  have HM1 := Lib.hid (HM0.out w1 (HS0.out ▸ hb1))
  have HB1 := Lib.hid ((hb1.block g (by rw [HS0.out]; omega)).trans HB0.out)
  clear hb1 hc0 HM0 HB0
  clear hg
  go_wp2
  go_loopg [14, 5] H (fun gk s14 s5 wx => ∃ (i : Nat) (v' : Nat → Value), i + gk = H ∧ s14 = .int .i64 i ∧ s5 = .bool (td i) ∧ Hid (Mv w p v (g + 1) wx v' (setM L x i)) ∧ Hid (wx.heap[g]? = some (.cells #[.string x0, .int .u64 x1, .int .u64 x2, .int .i64 x3, .int .i64 x4] 29 (0, 0))))
  case atStart => exact ⟨0, v, by omega, rfl, by rw [HT0.out], HM1, HB1⟩
  case round =>
    obtain ⟨i, v', hin, rfl, rfl, HM, HBX⟩ := hrel
    cases gk with
    | zero =>
      obtain rfl : i = H := by omega
      have hii : ¬ (i : Int) < (i : Int) := by omega
      go_wp2
      exact HEND.out _ _ HM.out
    | succ gk =>
      have hii : (i : Int) < (H : Int) := by omega
      have hi4 : i < 4 := by omega
      have hi4i : (i : Int) < 4 := by omega
      have hi0i : (0 : Int) ≤ (i : Int) := by omega
      have hMi := setM_at L x i
      have hRS := lev_rises HRS.out i
      have hLL := HLL.out i
      have hHS := HHS.out i (by omega)
      have hNX := HNX.out i (by omega)
      have hro := HM.out.ro.row i hi4
      rw [hMi] at hro
      have hTN := HTN.out i
      obtain ⟨l, hle⟩ : ∃ l, lev i L = l := ⟨_, rfl⟩
      rw [hle] at hMi hRS hLL hHS hNX hro
      obtain ⟨A, cap, hvi, -, -, hrow⟩ := HM.out.ro.reads hi4 (by rw [hMi]; omega)
      rw [hMi] at hvi hrow
      have HVI := Lib.hid hvi
      obtain ⟨n, hn⟩ : ∃ n, l.length = n := ⟨_, rfl⟩
      have HF := Lib.hid (HFI.out wr.drew A n cap l hn (hrow.below (Below.refl _ _).drew) hRS)
      have HRO := Lib.hid hro
      have HMI := Lib.hid hMi
      have HRI := Lib.hid hRS
      have HNN := Lib.hid hNX
      have hcp := HM.out.ro.cell hi4
      rw [hvi, hn] at hcp
      obtain ⟨b0, b1, b2, b3, b4⟩ := cellsL HBX.out
      have hcpd : wr.drew.cell? ⟨p, i, none⟩ = some (.slice A n cap) := hcp
      have b0d : wr.drew.cell? ⟨g, 0, none⟩ = some (.string x0) := b0
      clear hvi hrow hro hMi hRS hNX hle
      go_wp2
      go_region_held3 (fun w' => w'.cell? ⟨p, i, none⟩ = some (.slice A n cap) ∧ w'.cell? ⟨g, 0, none⟩ = some (.string x0)) (go_keep)
        (first
          | (go_at_call 153; refine HF.out.mono ?_; rintro e w2 ⟨rfl, hb2⟩; have HB2 : Hid (Below wr.heap.size wr w2) := (Below.refl _ _).drew.trans hb2; have e1 : w2.cell? ⟨p, i, none⟩ = some (.slice A n cap) := (hb2.cell (p := ⟨p, i, none⟩) (lt_of_heap HM.out.ro.mem)).trans hcpd; have e2 : w2.cell? ⟨g, 0, none⟩ = some (.string x0) := (hb2.cell (p := ⟨g, 0, none⟩) (lt_of_heap HBX.out)).trans b0d; clear hb2))
      have HM2 := Lib.hid (HM.out.below HB2.out)
      have HX2 := Lib.hid ((HB2.out.block g (lt_of_heap HBX.out)).trans HBX.out)
      have hro2 := HM2.out.ro.row i hi4
      rw [HMI.out, HVI.out, hn] at hro2
      have hgl : g < w2.heap.size := lt_of_heap HX2.out
      have HNO := Lib.hid (HM2.out.not_own (k := g) (Nat.le_of_eq HG.out) (Nat.lt_succ_self g))
      clear e1 e2 hcpd b0d b0 b1 b2 b3 b4 hcp
      cases hz : hasT L x.k with
      | true =>
        rw [hz] at hHS hTN
        have HTN := Lib.hid hTN
        obtain ⟨hpn, -, -⟩ : posT l x.k < n ∧ True ∧ True := by
          obtain ⟨y, hy, _⟩ := pos_yes HRI.out hHS
          exact ⟨by rw [← hn]; exact (List.getElem?_eq_some_iff.1 hy).1, trivial, trivial⟩
        obtain ⟨b, cap2, e⟩ := own_is (l := l) (by rw [hn]; exact hro2) (by omega)
        rw [hn] at e
        simp only [Value.slice.injEq, true_and] at e
        obtain ⟨rfl, rfl⟩ := e
        obtain ⟨-, hst1, hst2⟩ := HSE.out w2 b n cap l hro2 HRI.out hHS hn
        obtain ⟨cur, hbk, -, -, hcs, -⟩ := own_block (l := l) hro2
        have hnc : n ≤ cap := by obtain ⟨_, _, h, _⟩ := own_block (l := l) hro2; exact h
        obtain ⟨d0, d1, d2, d3, d4⟩ := cellsL (w := w2.drew) HX2.out
        have hcpd : w2.drew.cell? ⟨p, i, none⟩ = some (.slice (some ⟨b, 0, none⟩) n cap) := by
          have := HM2.out.ro.cell hi4
          rw [HVI.out, hn] at this
          exact this
        have hce : ∀ j, j < 5 → ∃ u, w2.drew.cell? ⟨b, posT l x.k * 5 + j, none⟩ = some u := fun j hj => Option.isSome_iff_exists.1 (cell_some (w := w2.drew) hbk (j := posT l x.k * 5 + j) (by omega))
        obtain ⟨u0, t0⟩ := hce 0 (by omega)
        obtain ⟨u1, t1⟩ := hce 1 (by omega)
        obtain ⟨u2, t2⟩ := hce 2 (by omega)
        obtain ⟨u3, t3⟩ := hce 3 (by omega)
        obtain ⟨u4, t4⟩ := hce 4 (by omega)
        rw [Nat.add_zero] at t0
        have hbkd : w2.drew.heap[b]? = some (.cells cur 29 (0, 0)) := hbk
        have hfz : ∀ j, w2.drew.frozen? ⟨b, j, none⟩ = false := fun j => by simp [World.frozen?, hbkd]
        have f0 := hfz (posT l x.k * 5)
        have f1 := hfz (posT l x.k * 5 + 1)
        have f2 := hfz (posT l x.k * 5 + 2)
        have f3 := hfz (posT l x.k * 5 + 3)
        have f4 := hfz (posT l x.k * 5 + 4)
        obtain ⟨hm3, hk3⟩ := HM2.out.wrote hi4 (N := setT l x) (by rw [HVI.out, hn]; exact hst1) (by rw [HVI.out]; exact hst2)
        have HM3 := Lib.hid ((hm3.congr fun j _ => HNN.out j).drewN 1)
        have HB3 := Lib.hid ((hk3 g HNO.out hgl).trans HX2.out)
        clear hst1 hst2 hm3 hk3 hbk hbkd hce hfz hro2 hcs
        generalize posT l x.k = ps at *
        have hpn2 : (ps : Int) < (n : Int) := by omega
        have t0w : w2.cell? ⟨b, ps * 5, none⟩ = some u0 := t0
        have f0w : w2.frozen? ⟨b, ps * 5, none⟩ = false := f0
        have t1w : w2.cell? ⟨b, ps * 5 + 1, none⟩ = some u1 := t1
        have f1w : w2.frozen? ⟨b, ps * 5 + 1, none⟩ = false := f1
        have t2w : w2.cell? ⟨b, ps * 5 + 2, none⟩ = some u2 := t2
        have f2w : w2.frozen? ⟨b, ps * 5 + 2, none⟩ = false := f2
        have t3w : w2.cell? ⟨b, ps * 5 + 3, none⟩ = some u3 := t3
        have f3w : w2.frozen? ⟨b, ps * 5 + 3, none⟩ = false := f3
        have t4w : w2.cell? ⟨b, ps * 5 + 4, none⟩ = some u4 := t4
        have f4w : w2.frozen? ⟨b, ps * 5 + 4, none⟩ = false := f4
        go_wp2
        go_region
        go_wp2
        go_roundg gk
        case measure => omega
        case rel => exact ⟨i + 1, v', by omega, by go_num, by rw [HTN.out], HM3, HB3⟩
      | false =>
        rw [hz] at hHS hTN
        have HTN := Lib.hid hTN
        have hbl : ∀ k, (v' i).ownBlock = some k → k < w2.heap.size := fun k e => HM2.out.ro.lt (.inr ⟨i, hi4, e⟩)
        obtain ⟨c, hc⟩ : ∃ c, w2.heap.size = c := ⟨_, rfl⟩
        obtain ⟨wa, hwa⟩ : ∃ wa, (w2.alloc (.cells #[.string x0, .int .u64 x1, .int .u64 x2, .int .i64 x3, .int .i64 x4] 29)).drew = wa := ⟨_, rfl⟩
        have hba : Below w2.heap.size w2 wa := by rw [← hwa]; exact ((Below.refl _ _).alloc (Nat.le_refl _) _).drew
        have hva : wa.heap[c]? = some (.cells #[.string x0, .int .u64 x1, .int .u64 x2, .int .i64 x3, .int .i64 x4] 29 (0, 0)) := by rw [← hwa, ← hc]; exact heap_alloc_new w2 _
        have HMA := Lib.hid (HM2.out.below hba)
        have hroa := HMA.out.ro.row i hi4
        rw [HMI.out] at hroa
        have HINS := Lib.hid (HIN.out wa (v' i) l c hroa HRI.out hLL hHS hva (fun e => by have := hbl c e; omega))
        rw [HVI.out, hn] at HINS
        have hgp : p ≠ g := fun e => HNO.out (.inl e.symm)
        have HXA := Lib.hid ((hba.block g hgl).trans HX2.out)
        have HGA : Hid (g < wa.heap.size) := lt_of_heap HXA.out
        obtain ⟨d0, d1, d2, d3, d4⟩ := cellsL (w := w2.drew) HX2.out
        have hcpd : w2.drew.cell? ⟨p, i, none⟩ = some (.slice A n cap) := by
          have := HM2.out.ro.cell hi4
          rw [HVI.out, hn] at this
          exact this
        have hcpa : wa.cell? ⟨p, i, none⟩ = some (.slice A n cap) := by
          have := HMA.out.ro.cell hi4
          rw [HVI.out, hn] at this
          exact this
        obtain ⟨a0, a1, a2, a3, a4⟩ := cellsL HXA.out
        clear hroa hba hva hbl hro2
        generalize posT l x.k = ps at *
        have HLS : Hid ((setT l x).length ≤ 1048576) := by show _ ≤ _; rw [setT_len HRI.out]; split <;> omega
        have HWA := Lib.hid hwa
        have HVE : Hid (.slice A n cap = v' i) := by show _ = _; rw [HVI.out, hn]
        have HNA := Lib.hid (HMA.out.not_own (k := g) (Nat.le_of_eq HG.out) (Nat.lt_succ_self g))
        rw [← hwa] at HINS a0 a1 a2 a3 a4 hcpa
        clear hwa
        go_wp2
        go_region_with (first
            | (go_at_call 154; refine HINS.out.mono ?_; rintro e w3 ⟨u, rfl, ho3, hg3, hu3⟩; obtain ⟨-, A3, cap3, rfl, -⟩ := rowL_of_own ho3 HLS.out; rw [HWA.out] at hg3 hu3; rw [HVE.out] at hg3 hu3; obtain ⟨hm3, hk3⟩ := HMA.out.moved hi4 (N := setT l x) ho3 hg3 hu3; have HM4 := Lib.hid (hm3.congr fun j _ => HNN.out j); have HB4 := Lib.hid ((hk3 g HNA.out HGA.out).trans HXA.out); have hp3 : w3.heap[p]? = _ := (hg3.block p (lt_of_heap HMA.out.ro.mem) (fun e => HMA.out.ro.self i hi4 e.symm)).trans HMA.out.ro.mem; have hx3 : w3.heap[g]? = _ := (hg3.block g HGA.out (fun e => HNA.out (.inr ⟨i, hi4, e.symm⟩))).trans HXA.out; obtain ⟨g0, g1, g2, g3, g4⟩ := cellsL hx3; have gp : w3.cell? ⟨p, i, none⟩ = some (.slice A n cap) := (World.cell?_of_block (w := wa) (a := ⟨p, i, none⟩) (hp3.trans HMA.out.ro.mem.symm)).trans ((HMA.out.ro.cell hi4).trans (congrArg some HVE.out.symm)); have gf : w3.frozen? ⟨p, i, none⟩ = false := (by simp [World.frozen?, hp3]); clear hm3 hk3 ho3 hg3 hu3 hp3 hx3))
        all_goals
          go_wp2
          go_roundg gk
          case measure => omega
          case rel => exact ⟨i + 1, _, by omega, by go_num, by rw [HTN.out], HM4, HB4⟩

end Go.Proofs.YtlghphccmgmomaaGreat
