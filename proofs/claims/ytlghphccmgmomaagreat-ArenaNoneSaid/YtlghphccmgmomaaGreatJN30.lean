/-
  Proved here, joined: FiH14, RecMem
  Conditions: as each part says.
-/
import Derived.Test.YtlghphccmgmomaaGreatJN29
import Derived.Test.YtlghphccmgmomaaGreatJN21
import Derived.Test.YtlghphccmgmomaaGreatJN19
import Derived.Test.YtlghphccmgmomaaGreatJN1

/-
  Proved here: what the list's Push, Head, Pop and All answer and leave.
  Conditions: at most 2,040 links, 4,095 places.
-/
namespace Go.Proofs.YtlghphccmgmomaaGreat
open Go Go.RowKit
set_option maxRecDepth 100000

theorem rpop_any {w : World} {p f : Nat} {v : Value} {P L : List Ln} (h : Fi w p v f P L) : Calls Tryz.prog 157 #[.pointer (some ⟨p, 0, none⟩)] w fun e w' => e = .returned (hdV L) ∧ FiTo w p v L.tail w' := by
  cases L with
  | nil => exact (rpop_no h).mono fun e w' ⟨h1, h2⟩ => ⟨h1, _, _, _, h.below h2, Stay.of_below h2, fun k hk => .inl hk⟩
  | cons x L => exact rpop_yes h
set_option maxHeartbeats 1600000 in
theorem fipush_any {w : World} {p f : Nat} {v : Value} {P L : List Ln} (h : Fi w p v f P L) (hl : L.length ≤ 2040) (x : Ln) :
    Calls Tryz.prog 111 #[.pointer (some ⟨p, 0, none⟩), .agg #[.string x.str, .int .u64 (x.id : Nat), .int .u64 (x.ver : Nat), .int .i64 x.line, .int .i64 x.cl]] w fun e w' => e = .returned (.tuple #[]) ∧ FiTo w p v (L ++ [x]) w' := by
  obtain ⟨R, hR⟩ : ∃ R : Ending → World → Prop, (fun e w' => e = .returned (.tuple #[]) ∧ FiTo w p v (L ++ [x]) w') = R := ⟨_, rfl⟩
  rw [hR]
  obtain ⟨g, hg⟩ : ∃ g, w.heap.size = g := ⟨_, rfl⟩
  obtain ⟨v0, hv0⟩ : ∃ v0, w.alloc (.cells #[.string x.str, .int .u64 (x.id : Nat), .int .u64 (x.ver : Nat), .int .i64 x.line, .int .i64 x.cl] 29) = v0 := ⟨_, rfl⟩
  have hb0 : Below g w v0 := by rw [← hv0, ← hg]; exact (Below.refl _ _).alloc (Nat.le_refl _) _
  have hx0 : v0.heap[g]? = some (.cells #[.string x.str, .int .u64 (x.id : Nat), .int .u64 (x.ver : Nat), .int .i64 x.line, .int .i64 x.cl] 29 (0, 0)) := by rw [← hv0, ← hg]; exact heap_alloc_new w _
  obtain ⟨q0, q1, q2, q3, q4⟩ := cellsL hx0
  have HC : Hid (Calls Tryz.prog 156 #[.pointer (some ⟨p, 0, none⟩), .agg #[.string x.str, .int .u64 (x.id : Nat), .int .u64 (x.ver : Nat), .int .i64 x.line, .int .i64 x.cl]] v0.drew R) := by
    refine (rpush_any (w := v0.drew) (h.below (hg.symm ▸ hb0.drew)) hl x).mono fun e w' ⟨h1, v', f', P', h2, h3, h4⟩ => ?_
    rw [← hR]
    exact ⟨h1, v', f', P', h2, (Stay.of_below (hg.symm ▸ hb0.drew)).trans h3, fun k hk => (h4 k hk).imp id fun h => by have := hb0.size; show w.heap.size ≤ k; exact Nat.le_trans hb0.size h⟩
  have HRE : Hid (∀ e w', R e w' → e = .returned (.tuple #[])) := fun e w' h => by rw [← hR] at h; exact h.1
  have HS0 : Hid (g < v0.heap.size) := lt_of_heap hx0
  clear h hR hx0 hb0
  generalize x.str = x0 at *
  generalize (x.id : Int) = x1 at *
  generalize (x.ver : Int) = x2 at *
  generalize x.line = x3 at *
  generalize x.cl = x4 at *
  go_enter Tryz.func111, Tryz.ntmps111
  go_wp2
  go_region_with (first
    | (go_at_call 156; refine HC.out.mono ?_; intro e w' hh; obtain rfl := HRE.out _ _ hh))
  refine bodyPost_end (results_none rfl _ _ _) rfl ?_
  exact hh
/-- The list as it was serves as what a step leaves. -/
theorem Fi.to {w w' : World} {p f : Nat} {v : Value} {P L : List Ln} (h : Fi w p v f P L) (hb : Below w.heap.size w w') : FiTo w p v L w' := ⟨v, f, P, h.below hb, Stay.of_below hb, fun _ hk => .inl hk⟩
set_option maxHeartbeats 1600000 in
theorem fipop_any {w : World} {p f : Nat} {v : Value} {P L : List Ln} (h : Fi w p v f P L) :
    Calls Tryz.prog 112 #[.pointer (some ⟨p, 0, none⟩)] w fun e w' => e = .returned (hdV L) ∧ FiTo w p v (L.tail) w' := by
  obtain ⟨g, hg⟩ : ∃ g, w.heap.size = g := ⟨_, rfl⟩
  have HG := Lib.hid hg
  have HZ := Lib.hid zero_link
  obtain ⟨y, b, hyb⟩ : ∃ (y : Ln) (b : Bool), hdV L = .tuple #[y.agg, .bool b] := ⟨_, _, rfl⟩
  have HYB := Lib.hid hyb
  have HEB : Hid (∀ (w' : World) (g : Nat), w'.heap[g]? = some (.cells #[.string y.str, .int .u64 (y.id : Nat), .int .u64 (y.ver : Nat), .int .i64 y.line, .int .i64 y.cl] 29 (0, 0)) → LBox w' g y) := fun w' g h => h
  have HH : Hid (∀ w2, Below g w w2 → Calls Tryz.prog 157 #[.pointer (some ⟨p, 0, none⟩)] w2 fun e w' => e = .returned (.tuple #[.agg #[.string y.str, .int .u64 (y.id : Nat), .int .u64 (y.ver : Nat), .int .i64 y.line, .int .i64 y.cl], .bool b]) ∧ FiTo w2 p v (L.tail) w') := fun w2 hb => by
    have h2 := h.below (hg.symm ▸ hb)
    refine (rpop_any h2).mono ?_
    rintro e w' ⟨rfl, hb⟩
    exact ⟨by rw [hyb]; rfl, hb⟩
  have HNG : Hid (¬ fiOwn p v g) := fun e => by have := h.lt e; omega
  have HEND : Hid (∀ w2 w3 w5, Below g w w2 → g < w2.heap.size → FiTo w2 p v (L.tail) w3 → Stay (fun k => k = g) w3 w5 → FiTo w p v (L.tail) w5) := fun w2 w3 w5 k1 kl k2 k3 => by
    obtain ⟨v', f', P', a1, a2, a3⟩ := k2
    refine ⟨v', f', P', a1.stay k3 (fun k hk e => ?_), ⟨k3.os.trans (a2.os.trans k1.os), k3.tape.trans (a2.tape.trans k1.tape), k3.output.trans (a2.output.trans k1.output), Nat.le_trans k1.size (Nat.le_trans a2.size k3.size), fun k hk hl => ?_⟩, fun k hk => (a3 k hk).imp id fun e => by have := k1.size; omega⟩
    · subst e
      rcases a3 _ hk with e | e
      · exact HNG.out e
      · omega
    · exact (k3.block k (by omega) (by have h1 := k1.size; have h2 := a2.size; omega)).trans ((a2.block k hk (by have := k1.size; omega)).trans (k1.block k (by omega)))
  clear h hyb
  generalize L.head?.getD Ln.zero = l0 at *
  go_enter Tryz.func112, Tryz.ntmps112
  go_wp2_with (first
    | ((with_reducible show wpList _ _ _ (⟨some 2, .alloc _, _, _, _, _⟩ :: _) _ _); refine wpList_alloc_var (o := ⟨some 2, _, _, _, _, _⟩) rfl 29 rfl g HG.out _ HZ.out ?_; intro w2 H2 B2)
    | fail)
  refine (HH.out w2 B2.out).mono ?_
  rintro e w3 ⟨rfl, hb3⟩
  have HFT := Lib.hid hb3
  obtain ⟨v', f', P', a1, a2, a3⟩ := hb3
  have H3 := Lib.hid ((a2.block g HNG.out (lt_of_heap H2.out)).trans H2.out)
  clear a1 a2 a3
  go_wp2_with (first
    | ((with_reducible show wpList _ _ _ (⟨none, .store _ (.tmp 2) _, _, _, _, _⟩ :: _) _ _); refine wpList_store_only (o := ⟨none, .store 29 (.tmp 2) (.tmp 11), _, _, _, _⟩) rfl _ _ _ rfl rfl g #[.string y.str, .int .u64 (y.id : Nat), .int .u64 (y.ver : Nat), .int .i64 y.line, .int .i64 y.cl] rfl rfl 29 _ H3.out size_link rfl (onesL _ _ _ _ _) ?_; intro w5 H5 B5)
    | fail)
  refine bodyPost_ret (results_l2 rfl rfl rfl (HEB.out _ _ H5.out)) rfl ?_
  rw [HYB.out]
  exact ⟨rfl, HEND.out _ _ _ B2.out (lt_of_heap H2.out) HFT.out ⟨B5.out.os, B5.out.tape, B5.out.output, B5.out.size, fun k hk hl => B5.out.block k hk hk hl⟩⟩
set_option maxHeartbeats 400000 in
theorem fiall_any {w : World} {p f : Nat} {v : Value} {P L : List Ln} (h : Fi w p v f P L) : Calls Tryz.prog 38 #[.pointer (some ⟨p, 0, none⟩)] w (AllN L w) := by
  have H := Lib.hid (rall_any h)
  obtain ⟨R, hR⟩ : ∃ R, AllN L w = R := ⟨_, rfl⟩
  rw [hR] at H ⊢
  have HRE : Hid (∀ e w', R e w' → ∃ V, e = .returned V) := fun e w' h => by rw [← hR] at h; obtain ⟨g, h1, _⟩ := h; exact ⟨_, h1⟩
  clear h hR
  go_enter Tryz.func38, Tryz.ntmps38
  go_wp2_with (go_at_call 82; refine H.out.mono ?_; intro e w' hh; obtain ⟨V, rfl⟩ := HRE.out _ _ hh)
  exact hh

end Go.Proofs.YtlghphccmgmomaaGreat

/-
  Proved here: elements of a slice that lie as cells, whatever their type: rows that are read, rows of the call's own, append, copy, clear.
  Conditions: rows of at most 2^20 elements.
-/
namespace Go.Proofs.YtlghphccmgmomaaGreat
open Go Go.RowKit
set_option maxRecDepth 100000

/-- How the elements of a slice lie as cells: the element's type, the slice's, the cells of one, its zero value. -/
structure Rec (α : Type) where
  tE : TypeId
  tS : TypeId
  k : Nat
  by_ : Nat
  zv : Value
  cells : α → List Value
  hk : 0 < k
  klen : ∀ x, (cells x).length = k
  one : ∀ x, ∀ u ∈ cells x, u.oneCell' = true
  und : Tryz.prog.underlying tS = some (.slice tE)
  info : ∃ i, Tryz.prog.info? tE = some i ∧ i.zero = some zv ∧ i.size = k ∧ i.bytes = by_
  zk : zv.cells.size = k
  small : by_ ≤ 4096
namespace Rec
variable {α : Type} (R : Rec α)
/-- Elements one behind the other, as cells. -/
def enc (L : List α) : List Value := L.flatMap R.cells
theorem enc_nil : R.enc [] = [] := rfl
theorem enc_cons (x : α) (L : List α) : R.enc (x :: L) = R.cells x ++ R.enc L := rfl
theorem enc_len (L : List α) : (R.enc L).length = L.length * R.k := by
  induction L with
  | nil => simp [enc]
  | cons e L ih => rw [enc_cons, List.length_append, ih, R.klen, List.length_cons, Nat.add_mul]; omega
theorem enc_append (a b : List α) : R.enc a ++ R.enc b = R.enc (a ++ b) := by simp [enc]
theorem enc_one {L : List α} : ∀ u ∈ R.enc L, u.oneCell' = true := by
  intro u hu
  simp only [enc, List.mem_flatMap] at hu
  obtain ⟨e, _, h⟩ := hu
  exact R.one e u h
theorem enc_at (L : List α) (rest : List Value) {i : Nat} {e : α} (h : L[i]? = some e) (j : Nat) (hj : j < R.k) : (R.enc L ++ rest)[i * R.k + j]? = (R.cells e)[j]? := by
  induction L generalizing i with
  | nil => cases h
  | cons a L ih =>
    rw [enc_cons, List.append_assoc]
    have ha : (R.cells a).length = R.k := R.klen a
    cases i with
    | zero =>
      obtain rfl : a = e := by simpa using h
      rw [Nat.zero_mul, Nat.zero_add, List.getElem?_append_left (by omega)]
    | succ i =>
      rw [List.getElem?_append_right (by rw [Nat.add_mul]; omega), ha, show (i + 1) * R.k + j - R.k = i * R.k + j by rw [Nat.add_mul]; omega]
      exact ih (by simpa using h)
theorem enc_take (l : List α) (i : Nat) : (R.enc l).take (i * R.k) = R.enc (l.take i) := by
  induction l generalizing i with
  | nil => simp [enc]
  | cons a l ih =>
    cases i with
    | zero => simp [enc]
    | succ i =>
      have ha := R.klen a
      rw [List.take_succ_cons, enc_cons, enc_cons, show (i + 1) * R.k = (R.cells a).length + i * R.k by rw [Nat.add_mul, ha]; omega, List.take_length_add_append, ih]
theorem enc_drop (l : List α) (i : Nat) : (R.enc l).drop (i * R.k) = R.enc (l.drop i) := by
  induction l generalizing i with
  | nil => simp [enc]
  | cons a l ih =>
    cases i with
    | zero => simp
    | succ i =>
      have ha := R.klen a
      rw [List.drop_succ_cons, enc_cons, show (i + 1) * R.k = (R.cells a).length + i * R.k by rw [Nat.add_mul, ha]; omega, List.drop_length_add_append, ih]
/-- The slice at A holds the elements l. -/
def Row (w : World) (A : Option Addr) (l : List α) : Prop :=
  l.length ≤ 1048576 ∧ (0 < l.length → ∃ b off, A = some ⟨b, off, none⟩ ∧ b < w.heap.size ∧ ∀ i e, l[i]? = some e → ∀ j u, (R.cells e)[j]? = some u → w.cell? ⟨b, off + i * R.k + j, none⟩ = some u)
theorem row_nil (w : World) (A : Option Addr) : R.Row w A [] := ⟨by simp, fun h => by simp at h⟩
variable {R}
theorem Row.below {w w' : World} {A : Option Addr} {l : List α} (h : R.Row w A l) (hb : Below w.heap.size w w') : R.Row w' A l :=
  ⟨h.1, fun hl => by
    obtain ⟨b, off, e, hlt, hc⟩ := h.2 hl
    exact ⟨b, off, e, Nat.lt_of_lt_of_le hlt hb.size, fun i t ht j u hu => (hb.cell (p := ⟨b, off + i * R.k + j, none⟩) hlt).trans (hc i t ht j u hu)⟩⟩
theorem Row.same {w w' : World} {A : Option Addr} {l : List α} (h : R.Row w A l) (hs : w.heap.size ≤ w'.heap.size) (hb : ∀ x, A = some x → x.block < w.heap.size → w'.heap[x.block]? = w.heap[x.block]?) : R.Row w' A l :=
  ⟨h.1, fun hl => by
    obtain ⟨b, off, e, hlt, hc⟩ := h.2 hl
    have hbl := hb ⟨b, off, none⟩ e hlt
    exact ⟨b, off, e, Nat.lt_of_lt_of_le hlt hs, fun i t ht j u hu => (World.cell?_of_block (w := w) (a := ⟨b, off + i * R.k + j, none⟩) hbl).trans (hc i t ht j u hu)⟩⟩
theorem Row.cells_at {w : World} {b off : Nat} {l : List α} (h : R.Row w (some ⟨b, off, none⟩) l) : ∀ j u, (R.enc l)[j]? = some u → w.cell? ⟨b, off + j, none⟩ = some u := by
  intro j u hu
  have hk := R.hk
  have hj : j < l.length * R.k := by rw [← R.enc_len]; exact (List.getElem?_eq_some_iff.1 hu).1
  have hl0 : 0 < l.length := by
    rcases Nat.eq_zero_or_pos l.length with h0 | h0
    · rw [h0, Nat.zero_mul] at hj; omega
    · exact h0
  obtain ⟨b2, off2, e1, _, hc⟩ := h.2 hl0
  cases e1
  have hi : j / R.k < l.length := (Nat.div_lt_iff_lt_mul hk).2 hj
  have hm : j % R.k < R.k := Nat.mod_lt _ hk
  have hdm : j / R.k * R.k + j % R.k = j := by rw [Nat.mul_comm]; exact Nat.div_add_mod j R.k
  have h1 := R.enc_at l [] (List.getElem?_eq_getElem hi) (j % R.k) hm
  rw [List.append_nil, hdm, hu] at h1
  have := hc (j / R.k) _ (List.getElem?_eq_getElem hi) (j % R.k) u h1.symm
  rwa [Nat.add_assoc, hdm] at this
theorem Row.drop {w : World} {b off : Nat} {l : List α} (h : R.Row w (some ⟨b, off, none⟩) l) (k : Nat) : R.Row w (some ⟨b, off + k * R.k, none⟩) (l.drop k) :=
  ⟨by rw [List.length_drop]; have := h.1; omega, fun hl => by
    rw [List.length_drop] at hl
    obtain ⟨b2, off2, e1, hlt, hc⟩ := h.2 (by omega)
    cases e1
    refine ⟨b, off + k * R.k, rfl, hlt, fun i e hi j u hu => ?_⟩
    rw [List.getElem?_drop] at hi
    have := hc (k + i) e hi j u hu
    rwa [show off + k * R.k + i * R.k + j = off + (k + i) * R.k + j by rw [Nat.add_mul]; omega]⟩
theorem Row.take {w : World} {A : Option Addr} {l : List α} (h : R.Row w A l) (k : Nat) : R.Row w A (l.take k) :=
  ⟨by rw [List.length_take]; have := h.1; omega, fun hl => by
    rw [List.length_take] at hl
    obtain ⟨b, off, e1, hlt, hc⟩ := h.2 (by omega)
    refine ⟨b, off, e1, hlt, fun i e hi => hc i e ?_⟩
    rw [List.getElem?_take] at hi
    split at hi
    · exact hi
    · cases hi⟩
/-- A row of the call's own, at its form. -/
theorem row_of_own {w : World} {base n : Nat} {v : Value} {l : List α} (h : w.ownsRow base R.tE R.k v n (R.enc l)) (hl : l.length ≤ 1048576) : l.length = n ∧ ∃ A cap, v = .slice A n cap ∧ n ≤ cap ∧ cap ≤ maxLen ∧ R.Row w A l ∧ (A = none → n = 0 ∧ cap = 0) ∧ ∀ x, A = some x → base ≤ x.block ∧ x.block < w.heap.size ∧ x = ⟨x.block, 0, none⟩ ∧ v.ownBlock = some x.block := by
  have hn : l.length = n := by have := h.1; rw [enc_len] at this; exact Nat.eq_of_mul_eq_mul_right R.hk this
  refine ⟨hn, ?_⟩
  rcases h.2 with ⟨e, e0⟩ | ⟨g, cap, cur, e, hge, hh, hc, hm, _⟩
  · have h0 : l = [] := List.eq_nil_of_length_eq_zero (by omega)
    subst h0
    exact ⟨none, 0, by rw [e, e0], by omega, by unfold maxLen; omega, R.row_nil _ _, fun _ => ⟨e0, rfl⟩, fun x hx => by cases hx⟩
  · refine ⟨_, _, e, hc, hm, ⟨hl, fun hpos => ⟨g, 0, rfl, lt_of_heap hh, fun i t ht j u hu => ?_⟩⟩, (fun h => by cases h), (fun x hx => by cases hx; exact ⟨hge, lt_of_heap hh, rfl, by rw [e]; rfl⟩)⟩
    have hj : j < R.k := by rw [← R.klen t]; exact (List.getElem?_eq_some_iff.1 hu).1
    have h1 := R.enc_at l [] ht j hj
    rw [List.append_nil, hu] at h1
    have h2 := h.cells (g := g) (by rw [e]; rfl) (i * R.k + j) u h1
    rw [add_plain] at h2
    rwa [Nat.zero_add] at h2 ⊢
variable (R)
theorem fits {n : Nat} (h : n ≤ 1048576) : n * R.by_ ≤ 140737488355328 :=
  Nat.le_trans (Nat.mul_le_mul h R.small) (by omega)
/-- Elements put behind a row that is owned; where there are none nothing turns. -/
theorem run_app (w : World) (base n : Nat) (v : Value) (l : List α) (hown : w.ownsRow base R.tE R.k v n (R.enc l)) (A : Option Addr) (m c : Nat) (l' : List α) (hm : l'.length = m) (hr : R.Row w A l') (hA : A = none → c = 0) (hl : n + m ≤ 1048576) (hbase : base ≤ w.heap.size) (ty : TypeId) :
    ∃ v' w', (Builtin.append_ #[R.tS, R.tS] ty #[v, .slice A m c]).run Tryz.prog w = .ok v' w' ∧ w'.ownsRow base R.tE R.k v' (n + m) (R.enc (l ++ l')) ∧ w.grownBy w' v.ownBlock ∧ (v'.ownBlock = v.ownBlock ∨ v'.ownBlock = some w.heap.size) ∧ (v' = .slice none 0 0 ↔ v = .slice none 0 0 ∧ m = 0) := by
  obtain ⟨i, hi, hz, hs, hy⟩ := R.info
  cases A with
  | none =>
    obtain rfl := hA rfl
    have h0 : l' = [] := by
      rcases Nat.eq_zero_or_pos l'.length with h | h
      · exact List.eq_nil_of_length_eq_zero h
      · obtain ⟨_, _, e, _⟩ := hr.2 h
        cases e
    subst h0
    obtain rfl : m = 0 := by simpa using hm.symm
    refine ⟨v, w, run_append_owned_none (P := Tryz.prog) w base R.tS ty R.tE i R.k R.und hi v n (R.enc l) hown, by rw [List.append_nil]; exact hown, ⟨rfl, rfl, rfl, Nat.le_refl _, fun _ _ _ => rfl⟩, .inl rfl, by simp⟩
  | some a =>
    have hnews : ∀ j u, (R.enc l')[j]? = some u → w.cell? (a.add j) = some u := fun j u hu => by
      have hj : j < l'.length * R.k := by rw [← R.enc_len]; exact (List.getElem?_eq_some_iff.1 hu).1
      have hl0 : 0 < l'.length := by
        rcases Nat.eq_zero_or_pos l'.length with h0 | h0
        · rw [h0, Nat.zero_mul] at hj; omega
        · exact h0
      obtain ⟨b, off, e1, _, _⟩ := hr.2 hl0
      cases e1
      rw [add_plain]
      exact hr.cells_at j u hu
    obtain ⟨v', w', h1, h2, h3, h5, h4⟩ := run_append_own_at (P := Tryz.prog) w base R.tS ty R.tE i _ R.k R.by_ R.und hi hz hs hy R.zk R.hk v n (R.enc l) hown a m c (R.enc l') (by rw [R.enc_len, hm]) hnews R.enc_one (by unfold maxLen; omega) (R.fits hl) hbase
    exact ⟨v', w', h1, by rw [← R.enc_append]; exact h2, h3, h4, h5⟩
/-- An element that has just been laid: a row of one. -/
theorem row_one {w : World} {b : Nat} {x : α} (h : w.heap[b]? = some (.cells (R.cells x).toArray R.tE (0, 0))) : R.Row w (some ⟨b, 0, none⟩) [x] :=
  ⟨by simp, fun _ => ⟨b, 0, rfl, lt_of_heap h, fun i e hi j u hu => by
    obtain rfl : i = 0 := by have := (List.getElem?_eq_some_iff.1 hi).1; simp at this; omega
    obtain rfl : x = e := by simpa using hi
    rw [Nat.zero_mul, Nat.zero_add]
    simp [World.cell?, h, hu]⟩⟩
/-- One element put behind a row that is owned. -/
theorem run_app_one (w : World) (base n : Nat) (v : Value) (l : List α) (x : α) (hown : w.ownsRow base R.tE R.k v n (R.enc l)) (hl : n < 1048576) (hbase : base ≤ w.heap.size) (ty : TypeId) :
    ∃ v' w', (Builtin.append_ #[R.tS, R.tS] ty #[v, .slice (some ⟨w.heap.size, 0, none⟩) 1 1]).run Tryz.prog (w.alloc (.cells (R.cells x).toArray R.tE)) = .ok v' w' ∧ w'.ownsRow base R.tE R.k v' (n + 1) (R.enc (l ++ [x])) ∧ w.grownBy w' v.ownBlock ∧ (v'.ownBlock = v.ownBlock ∨ v'.ownBlock = some (w.heap.size + 1)) ∧ v' ≠ .slice none 0 0 := by
  obtain ⟨v', w', h1, h2, h3, h4, h5⟩ := R.run_app (w.alloc (.cells (R.cells x).toArray R.tE)) base n v l (own_alloc hown _) (some ⟨w.heap.size, 0, none⟩) 1 1 [x] rfl (R.row_one (heap_alloc_new w _)) (fun h => by cases h) (by omega) (by simp; omega) ty
  exact ⟨v', w', h1, h2, (World.grownBy_alloc w _ _).trans h3, by simpa using h4, fun e => by have := (h5.1 e).2; omega⟩
variable {R}
/-- A row is what its block holds. -/
theorem own_block {w : World} {g n cap B : Nat} {l : List α} (h : w.ownsRow B R.tE R.k (.slice (some ⟨g, 0, none⟩) n cap) n (R.enc l)) : ∃ cur, w.heap[g]? = some (.cells cur R.tE (0, 0)) ∧ n ≤ cap ∧ cap ≤ maxLen ∧ cur.size = cap * R.k ∧ cur.toList.take (n * R.k) = R.enc l ∧ B ≤ g := by
  rcases h.2 with ⟨e, _⟩ | ⟨g2, c2, cur, e, hb, h1, h2, h3, h4, h5⟩
  · cases e
  · cases e
    exact ⟨cur, h1, h2, h3, h4, h5, hb⟩
theorem block_own {w : World} {g n cap B : Nat} {l : List α} {cur : Array Value} (hb : w.heap[g]? = some (.cells cur R.tE (0, 0))) (h1 : n ≤ cap) (h2 : cap ≤ maxLen) (h3 : cur.size = cap * R.k) (h4 : cur.toList.take (n * R.k) = R.enc l) (hB : B ≤ g) : w.ownsRow B R.tE R.k (.slice (some ⟨g, 0, none⟩) n cap) n (R.enc l) := by
  refine ⟨?_, .inr ⟨g, cap, cur, rfl, hB, hb, h1, h2, h3, h4⟩⟩
  rw [← h4, List.length_take]
  have : cur.toList.length = cap * R.k := by rw [Array.length_toList, h3]
  have : n * R.k ≤ cap * R.k := Nat.mul_le_mul_right _ h1
  omega
/-- What is written behind a row turns none of it. -/
theorem own_behind {w : World} {g n cap o B : Nat} {l : List α} (h : w.ownsRow B R.tE R.k (.slice (some ⟨g, 0, none⟩) n cap) n (R.enc l)) (vs : List Value) (ho : n * R.k ≤ o) (hv : o + vs.length ≤ cap * R.k) : (w.setCells g o vs).ownsRow B R.tE R.k (.slice (some ⟨g, 0, none⟩) n cap) n (R.enc l) := by
  obtain ⟨cur, h1, h2, h3, h4, h5, hB⟩ := own_block h
  obtain ⟨cur', e1, e2, e3⟩ := heap_setCells _ g vs o w cur h1 (by omega)
  refine block_own e1 h2 h3 (e3.trans h4) ?_ hB
  rw [e2, List.append_assoc, List.take_append_of_le_length (by rw [List.length_take, Array.length_toList]; omega), List.take_take, Nat.min_eq_left ho, h5]
theorem own_take {w : World} {g n cap B : Nat} {l : List α} (h : w.ownsRow B R.tE R.k (.slice (some ⟨g, 0, none⟩) n cap) n (R.enc l)) {i : Nat} (hi : i ≤ n) : w.ownsRow B R.tE R.k (.slice (some ⟨g, 0, none⟩) i cap) i (R.enc (l.take i)) := by
  obtain ⟨cur, h1, h2, h3, h4, h5, hB⟩ := own_block h
  refine block_own h1 (Nat.le_trans hi h2) h3 h4 ?_ hB
  rw [← R.enc_take, ← h5, List.take_take, Nat.min_eq_left (Nat.mul_le_mul_right _ hi)]
/-- One element of an owned row written over, cell by cell or whole. -/
theorem own_set {w : World} {g n cap B i : Nat} {l : List α} (h : w.ownsRow B R.tE R.k (.slice (some ⟨g, 0, none⟩) n cap) n (R.enc l)) (hn : l.length = n) (hi : i < n) (x : α) : (w.setCells g (i * R.k) (R.cells x)).ownsRow B R.tE R.k (.slice (some ⟨g, 0, none⟩) n cap) n (R.enc (l.set i x)) := by
  obtain ⟨cur, h1, h2, h3, h4, h5, hB⟩ := own_block h
  have hk := R.klen x
  have hik : i * R.k + R.k ≤ n * R.k := by rw [← Nat.succ_mul]; exact Nat.mul_le_mul_right _ hi
  have hnc : n * R.k ≤ cap * R.k := Nat.mul_le_mul_right _ h2
  obtain ⟨cur', e1, e2, e3⟩ := heap_setCells _ g (R.cells x) (i * R.k) w cur h1 (by omega)
  refine block_own e1 h2 h3 (e3.trans h4) ?_ hB
  have hcl : cur.toList.length = cap * R.k := by rw [Array.length_toList]; exact h4
  have ht : cur.toList.take (i * R.k) = R.enc (l.take i) := by rw [← R.enc_take, ← h5, List.take_take, Nat.min_eq_left (by omega)]
  have hd : (cur.toList.take (n * R.k)).drop ((i + 1) * R.k) = R.enc (l.drop (i + 1)) := by rw [h5, R.enc_drop]
  have hs : l.set i x = l.take i ++ x :: l.drop (i + 1) := by rw [List.set_eq_take_append_cons_drop, if_pos (by omega)]
  rw [e2, hs, ← R.enc_append, R.enc_cons, ht, ← hd, hk]
  rw [show (i + 1) * R.k = i * R.k + R.k by rw [Nat.add_mul]; omega]
  rw [← List.append_assoc, List.take_append, List.take_of_length_le (by rw [List.length_append, R.enc_len, List.length_take, hk, Nat.min_eq_left (by omega)]; omega)]
  congr 1
  rw [List.length_append, R.enc_len, List.length_take, hk, Nat.min_eq_left (by omega), List.take_drop]
  congr 2
  omega
end Rec

end Go.Proofs.YtlghphccmgmomaaGreat
