/-
  Proved here: an element put into a row, with room and without; one taken out; whatever the elements are.
  Conditions: rows of less than 2^20 elements.
-/
import Derived.Test.YtpmgnhijiodbaaaRecMem
import Derived.Test.YtpmgnhijiodbaaaStay
import Derived.Lib.AppendZerosOnto
import Derived.Laws.NewBlocks
namespace Go.Proofs.Ytpmgnhijiodbaaa
open Go Go.RowKit
set_option maxRecDepth 100000

theorem nminL {a b : Nat} (h : a ≤ b) : Nat.min a b = a := Nat.min_eq_left h
theorem nminR {a b : Nat} (h : b ≤ a) : Nat.min a b = b := Nat.min_eq_right h
namespace Rec
variable {α : Type} {R : Rec α}
theorem grown_trans_set {w w1 : World} {g : Nat} (h : w.grownBy w1 (some g)) (o : Nat) (vs : List Value) : w.grownBy (w1.setCells g o vs) (some g) := by
  have h2 := grown_setCells g vs o w1
  exact ⟨h2.os.trans h.os, h2.tape.trans h.tape, h2.output.trans h.output, Nat.le_trans h.size h2.size, fun k hk hne => (h2.block k (Nat.lt_of_lt_of_le hk h.size) hne).trans (h.block k hk hne)⟩
/-- An element put into a row that has room: the two copies, and what they leave. -/
theorem ins_room {w : World} {g n cap B : Nat} {l : List α} (hn : l.length = n) (hown : w.ownsRow B R.tE R.k (.slice (some ⟨g, 0, none⟩) n cap) n (R.enc l)) {x : α} {vb : Nat} (hx : w.heap[vb]? = some (.cells (R.cells x).toArray R.tE (0, 0)))
    (hne : vb ≠ g) (i : Nat) (hi : i < n) (hroom : n + 1 ≤ cap) :
    ∃ W1 W2, (∀ ty dc sc, (Builtin.copy_ #[R.tS, R.tS] ty #[.slice (some ⟨g, (i + 1) * R.k, none⟩) (n - i) dc, .slice (some ⟨g, i * R.k, none⟩) (n + 1 - i) sc]).run Try.prog w.drew = .ok (goInt (Nat.min (n + 1 - i) (n - i) : Nat)) W1) ∧
      (∀ ty dc, (Builtin.copy_ #[R.tS, R.tS] ty #[.slice (some ⟨g, i * R.k, none⟩) (n + 1 - i) dc, .slice (some ⟨vb, 0, none⟩) 1 1]).run Try.prog W1 = .ok (goInt (Nat.min 1 (n + 1 - i) : Nat)) W2) ∧
      W2.ownsRow B R.tE R.k (.slice (some ⟨g, 0, none⟩) (n + 1) cap) (n + 1) (R.enc (l.take i ++ x :: l.drop i)) ∧ w.grownBy W2 (some g) := by
  have hk := R.hk
  obtain ⟨cur, hb1, hb2, hb3, hb4, hb5, hB⟩ := own_block hown
  have hcell : ∀ j u, (R.enc l)[j]? = some u → w.cell? ⟨g, j, none⟩ = some u := fun j u hu => by
    have := hown.cells (g := g) rfl j u hu
    rwa [add_plain, Nat.zero_add] at this
  have hdl : (R.enc (l.drop i)).length = (n - i) * R.k := by rw [R.enc_len, List.length_drop, hn]
  have e1 : (i + 1) * R.k = i * R.k + R.k := by rw [Nat.add_mul]; omega
  have e2 : i * R.k + (n - i) * R.k = n * R.k := by rw [← Nat.add_mul]; congr 1; omega
  have e3 : n * R.k + R.k ≤ cap * R.k := by rw [← Nat.succ_mul]; exact Nat.mul_le_mul_right _ hroom
  have e4 : (n + 1) * R.k = n * R.k + R.k := by rw [Nat.add_mul]; omega
  obtain ⟨W1, hW1⟩ : ∃ W1, w.drew.setCells g ((i + 1) * R.k) (R.enc (l.drop i)) = W1 := ⟨_, rfl⟩
  obtain ⟨cur1, q1, q2, q3⟩ := heap_setCells R.tE g (R.enc (l.drop i)) ((i + 1) * R.k) w.drew cur hb1 (by omega)
  have hcp1 : ∀ ty dc sc, (Builtin.copy_ #[R.tS, R.tS] ty #[.slice (some ⟨g, (i + 1) * R.k, none⟩) (n - i) dc, .slice (some ⟨g, i * R.k, none⟩) (n + 1 - i) sc]).run Try.prog w.drew = .ok (goInt (Nat.min (n + 1 - i) (n - i) : Nat)) W1 := fun ty dc sc => by
    rw [← hW1]
    exact run_copy R w.drew ty g ((i + 1) * R.k) (n - i) dc ⟨g, i * R.k, none⟩ (n + 1 - i) sc (R.enc (l.drop i)) cur hb1 (by rw [hdl, nminR (by omega)])
      (fun j u hu => by
        rw [add_plain]
        rw [← R.enc_drop, List.getElem?_drop] at hu
        exact hcell _ u hu) (by omega) R.enc_one
  rw [hW1] at q1
  have hxl : (R.cells x).length = R.k := R.klen x
  obtain ⟨cur2, r1, r2, r3⟩ := heap_setCells R.tE g (R.cells x) (i * R.k) W1 cur1 q1 (by rw [q3]; omega)
  have hW1g : w.grownBy W1 (some g) := by
    have := grown_setCells g (R.enc (l.drop i)) ((i + 1) * R.k) w.drew
    rw [hW1] at this
    exact ⟨this.os, this.tape, this.output, this.size, this.block⟩
  have hx1 : W1.heap[vb]? = some (.cells (R.cells x).toArray R.tE (0, 0)) := (hW1g.block vb (lt_of_heap hx) (fun e => hne (by cases e; rfl))).trans hx
  refine ⟨W1, W1.setCells g (i * R.k) (R.cells x), hcp1, fun ty dc => ?_, ?_, grown_trans_set hW1g _ _⟩
  · refine run_copy R W1 ty g (i * R.k) (n + 1 - i) dc ⟨vb, 0, none⟩ 1 1 (R.cells x) cur1 q1 (by rw [hxl, nminL (by omega)]; omega) (fun j u hu => ?_) (by rw [q3]; omega) (R.one x)
    rw [add_plain, Nat.zero_add]
    simp [World.cell?, hx1, hu]
  · have hlen : (l.take i ++ x :: l.drop i).length = n + 1 := by simp; omega
    refine block_own r1 hroom hb3 (by omega) ?_ hB
    have hcl : cur.toList.length = cap * R.k := by rw [Array.length_toList]; exact hb4
    have ht1 : cur.toList.take (i * R.k) = R.enc (l.take i) := by rw [← R.enc_take, ← hb5, List.take_take, Nat.min_eq_left (by omega)]
    have ht2 : cur1.toList.take (i * R.k) = R.enc (l.take i) := by
      rw [q2, List.append_assoc, List.take_append_of_le_length (by rw [List.length_take, hcl]; omega), List.take_take, Nat.min_eq_left (by omega), ht1]
    have ht3 : ∃ r, cur1.toList.drop (i * R.k + R.k) = R.enc (l.drop i) ++ r := by
      refine ⟨cur.toList.drop ((i + 1) * R.k + (R.enc (l.drop i)).length), ?_⟩
      rw [q2, List.append_assoc]
      have : (cur.toList.take ((i + 1) * R.k)).length = i * R.k + R.k := by rw [List.length_take, hcl]; omega
      rw [← this]
      exact List.drop_left
    obtain ⟨r, ht3⟩ := ht3
    rw [r2, ht2, hxl, ht3]
    have : R.enc (l.take i) ++ R.cells x ++ (R.enc (l.drop i) ++ r) = R.enc (l.take i ++ x :: l.drop i) ++ r := by
      rw [← R.enc_append, R.enc_cons]
      simp
    rw [this, ← hlen]
    exact R.take_enc _ _
/-- An element put into a row that has no room: the new row, the two copies, and what they leave. -/
theorem ins_grow {w : World} {g n B : Nat} {l : List α} (hn : l.length = n) (hown : w.ownsRow B R.tE R.k (.slice (some ⟨g, 0, none⟩) n n) n (R.enc l)) (hl : n < 1048576) {x : α} {vb : Nat} (hx : w.heap[vb]? = some (.cells (R.cells x).toArray R.tE (0, 0)))
    (i : Nat) (hi : i < n) {tI : TypeId} (hI : Try.prog.underlying tI = some (.int .i64)) (hBw : B ≤ w.heap.size) :
    ∃ N G W0 W1 W2, N = w.heap.size ∧ n + 1 ≤ G ∧ G ≤ maxLen ∧ (∀ ty, (Builtin.append_ #[R.tS, tI] ty #[.slice (some ⟨g, 0, none⟩) i n, .int .i64 ((n : Int) + 1 - (i : Int))]).run Try.prog w = .ok (.slice (some ⟨N, 0, none⟩) (n + 1) G) W0) ∧
      (∀ ty dc, (Builtin.copy_ #[R.tS, R.tS] ty #[.slice (some ⟨N, i * R.k, none⟩) (n + 1 - i) dc, .slice (some ⟨vb, 0, none⟩) 1 1]).run Try.prog W0 = .ok (goInt (Nat.min 1 (n + 1 - i) : Nat)) W1) ∧
      (∀ ty dc sc, (Builtin.copy_ #[R.tS, R.tS] ty #[.slice (some ⟨N, (i + 1) * R.k, none⟩) (n - i) dc, .slice (some ⟨g, i * R.k, none⟩) (n - i) sc]).run Try.prog W1.drew = .ok (goInt (Nat.min (n - i) (n - i) : Nat)) W2) ∧
      W2.ownsRow B R.tE R.k (.slice (some ⟨N, 0, none⟩) (n + 1) G) (n + 1) (R.enc (l.take i ++ x :: l.drop i)) ∧ w.grownBy W2 (some g) ∧ Below w.heap.size w W2 := by
  have hk := R.hk
  obtain ⟨inf, hinf, hz, hs5, hby⟩ := R.info
  obtain ⟨cur, hb1, hb2, hb3, hb4, hb5, hB⟩ := own_block hown
  have hcell : ∀ j u, (R.enc l)[j]? = some u → w.cell? ⟨g, j, none⟩ = some u := fun j u hu => by
    have := hown.cells (g := g) rfl j u hu
    rwa [add_plain, Nat.zero_add] at this
  have hdl : (R.enc (l.drop i)).length = (n - i) * R.k := by rw [R.enc_len, List.length_drop, hn]
  have htl : (R.enc (l.take i)).length = i * R.k := by rw [R.enc_len, List.length_take, hn, Nat.min_eq_left (by omega)]
  have hik : i + (n + 1 - i) = n + 1 := by omega
  have hkk : (n : Int) + 1 - (i : Int) = ((n + 1 - i : Nat) : Int) := by omega
  have m1 : (i + 1) * R.k = i * R.k + R.k := by rw [Nat.add_mul]; omega
  have m2 : i * R.k + (n - i) * R.k = n * R.k := by rw [← Nat.add_mul]; congr 1; omega
  have m4 : (n + 1) * R.k = n * R.k + R.k := by rw [Nat.add_mul]; omega
  obtain ⟨N, hN⟩ : ∃ N, w.heap.size = N := ⟨_, rfl⟩
  obtain ⟨G, hG⟩ : ∃ G, grownCap w (n + 1) n R.tE = G := ⟨_, rfl⟩
  have hGn : n + 1 ≤ G := by rw [← hG]; exact grownCap_ge w _ _ _
  have hGm : G ≤ maxLen := by rw [← hG]; exact grownCap_le_maxLen w (n + 1) n _ (by unfold maxLen; omega)
  have m3 : n * R.k + R.k ≤ G * R.k := by rw [← Nat.succ_mul]; exact Nat.mul_le_mul_right _ hGn
  have hfit := R.fits (n := n + 1) (by omega)
  have hold : (Builtin.firstCells inf.size i (.slice (some ⟨g, 0, none⟩) i n)).run Try.prog w.drew = .ok (R.enc (l.take i)).toArray w.drew := by
    rw [hs5]
    exact run_firstCells_some w.drew R.k i ⟨g, 0, none⟩ i n (R.enc (l.take i)) htl (fun j u hj => by
      rw [add_plain, Nat.zero_add]
      have hj5 : j < i * R.k := by rw [← htl]; exact (List.getElem?_eq_some_iff.1 hj).1
      rw [← R.enc_take, List.getElem?_take_of_lt hj5] at hj
      exact hcell j u hj)
  obtain ⟨ROW, hROW⟩ : ∃ ROW : Array Value, (R.enc (l.take i)).toArray ++ Builtin.zeroCells R.zv.cells (n + 1 - i) ++ Builtin.zeroCells R.zv.cells (G - (n + 1)) = ROW := ⟨_, rfl⟩
  have hRs : ROW.size = G * R.k := by
    rw [← hROW, Array.size_append, Array.size_append, size_zeroCells, size_zeroCells, R.zk]
    simp only [List.size_toArray, htl]
    rw [← Nat.add_mul, ← Nat.add_mul]
    congr 1
    omega
  have hRt : ROW.toList.take (i * R.k) = R.enc (l.take i) := by
    rw [← hROW, Array.toList_append, Array.toList_append, List.append_assoc, ← htl]
    exact List.take_left
  obtain ⟨W0, hW0⟩ : ∃ W0, w.drew.alloc (.cells ROW R.tE) = W0 := ⟨_, rfl⟩
  have hrz : ∀ ty, (Builtin.append_ #[R.tS, tI] ty #[.slice (some ⟨g, 0, none⟩) i n, .int .i64 ((n : Int) + 1 - (i : Int))]).run Try.prog w = .ok (.slice (some ⟨N, 0, none⟩) (n + 1) G) W0 := fun ty => by
    have h := Lib.run_append_grow_zeros w R.tS tI ty R.tE inf _ .i64 .i64 R.und hI hinf hz (some ⟨g, 0, none⟩) i n (R.enc (l.take i)) hold (n + 1 - i) (by omega) (by omega) (by omega) (by omega) (by rw [hby]; exact Nat.le_trans (Nat.mul_le_mul_right _ (show n + 1 - i ≤ n + 1 by omega)) (Nat.le_trans hfit (by omega))) (by rw [hby, hik]; exact growslice_fits (by omega) hfit)
    rw [hik, hG, hROW, hW0, hN] at h
    rw [hkk]
    exact h
  have hb0 : W0.heap[N]? = some (.cells ROW R.tE (0, 0)) := by rw [← hW0, ← hN]; exact heap_alloc_new w.drew _
  have hold0 : ∀ k, k < N → W0.heap[k]? = w.heap[k]? := fun k hk => by rw [← hW0]; exact Below.heap_alloc w.drew _ k (by show k < w.heap.size; omega)
  have hW0g : Below N w W0 := by rw [← hW0, ← hN]; exact (Below.refl _ _).drew.alloc (Nat.le_refl _) _
  have hxl : (R.cells x).length = R.k := R.klen x
  obtain ⟨W1, hW1⟩ : ∃ W1, W0.setCells N (i * R.k) (R.cells x) = W1 := ⟨_, rfl⟩
  obtain ⟨cur1, q1, q2, q3⟩ := heap_setCells R.tE N (R.cells x) (i * R.k) W0 ROW hb0 (by rw [hRs]; omega)
  have hgN : g < N := hN ▸ lt_of_heap hb1
  have hvN : vb < N := hN ▸ lt_of_heap hx
  have hx0 : W0.heap[vb]? = some (.cells (R.cells x).toArray R.tE (0, 0)) := (hold0 vb hvN).trans hx
  have hcpA : ∀ ty dc, (Builtin.copy_ #[R.tS, R.tS] ty #[.slice (some ⟨N, i * R.k, none⟩) (n + 1 - i) dc, .slice (some ⟨vb, 0, none⟩) 1 1]).run Try.prog W0 = .ok (goInt (Nat.min 1 (n + 1 - i) : Nat)) W1 := fun ty dc => by
    rw [← hW1]
    refine run_copy R W0 ty N (i * R.k) (n + 1 - i) dc ⟨vb, 0, none⟩ 1 1 (R.cells x) ROW hb0 (by rw [hxl, nminL (by omega)]; omega) (fun j u hu => ?_) (by rw [hRs]; omega) (R.one x)
    rw [add_plain, Nat.zero_add]
    simp [World.cell?, hx0, hu]
  rw [hW1] at q1
  have hW1k : ∀ k, k < N → W1.heap[k]? = w.heap[k]? := fun k hk => by rw [← hW1, setCells_other N _ _ _ k (by omega)]; exact hold0 k hk
  have hcell1 : ∀ j u, (R.enc l)[j]? = some u → W1.drew.cell? ⟨g, j, none⟩ = some u := fun j u hu => by
    have h1 := hcell j u hu
    rw [← h1]
    exact World.cell?_of_block (w := w) (a := ⟨g, j, none⟩) (hW1k g hgN)
  obtain ⟨cur2, r1, r2, r3⟩ := heap_setCells R.tE N (R.enc (l.drop i)) ((i + 1) * R.k) W1.drew cur1 q1 (by rw [q3, hRs]; omega)
  refine ⟨N, G, W0, W1, W1.drew.setCells N ((i + 1) * R.k) (R.enc (l.drop i)), hN.symm, hGn, hGm, hrz, hcpA, fun ty dc sc => ?_, ?_, ?_, ?_⟩
  · refine run_copy R W1.drew ty N ((i + 1) * R.k) (n - i) dc ⟨g, i * R.k, none⟩ (n - i) sc (R.enc (l.drop i)) cur1 q1 (by rw [hdl, nminL (Nat.le_refl _)]) (fun j u hu => ?_) (by rw [q3, hRs]; omega) R.enc_one
    rw [add_plain]
    rw [← R.enc_drop, List.getElem?_drop] at hu
    exact hcell1 _ u hu
  · have hlen : (l.take i ++ x :: l.drop i).length = n + 1 := by simp; omega
    refine block_own r1 hGn hGm (by rw [r3, q3, hRs]) ?_ (by omega)
    have hcl1 : cur1.toList.length = G * R.k := by rw [Array.length_toList, q3, hRs]
    have hRl : ROW.toList.length = G * R.k := by rw [Array.length_toList, hRs]
    have ht2 : cur1.toList.take ((i + 1) * R.k) = R.enc (l.take i) ++ R.cells x := by
      rw [q2, hRt]
      have : (R.enc (l.take i) ++ R.cells x).length = (i + 1) * R.k := by rw [List.length_append, htl, hxl]; omega
      rw [← this]
      exact List.take_left
    rw [r2, ht2]
    have : R.enc (l.take i) ++ R.cells x ++ R.enc (l.drop i) = R.enc (l.take i ++ x :: l.drop i) := by
      rw [← R.enc_append, R.enc_cons]
      simp
    rw [this, ← hlen]
    exact R.take_enc _ _
  · have h1 := setCells_rest N (R.cells x) (i * R.k) W0
    rw [hW1] at h1
    have h2 := setCells_rest N (R.enc (l.drop i)) ((i + 1) * R.k) W1.drew
    refine ⟨h2.1.trans (h1.1.trans hW0g.os), h2.2.1.trans (h1.2.1.trans hW0g.tape), h2.2.2.1.trans (h1.2.2.1.trans hW0g.output), ?_, fun k hk hne => ?_⟩
    · rw [h2.2.2.2]; show _ ≤ W1.heap.size; rw [h1.2.2.2]; exact hW0g.size
    · rw [setCells_other N _ _ _ k (by omega)]
      exact hW1k k (by omega)
  · have h1 := setCells_rest N (R.cells x) (i * R.k) W0
    rw [hW1] at h1
    have h2 := setCells_rest N (R.enc (l.drop i)) ((i + 1) * R.k) W1.drew
    refine ⟨h2.1.trans (h1.1.trans hW0g.os), h2.2.1.trans (h1.2.1.trans hW0g.tape), h2.2.2.1.trans (h1.2.2.1.trans hW0g.output), ?_, fun k hk => ?_⟩
    · rw [h2.2.2.2]; show _ ≤ W1.heap.size; rw [h1.2.2.2]; exact hW0g.size
    · rw [setCells_other N _ _ _ k (by omega)]
      exact hW1k k (by omega)
/-- One element taken out of a row: the copy down by append, the clearing, and what they leave. -/
theorem del_one {w : World} {g n cap B : Nat} {l : List α} (hn : l.length = n) (hown : w.ownsRow B R.tE R.k (.slice (some ⟨g, 0, none⟩) n cap) n (R.enc l)) (i : Nat) (hi : i < n)
    (hz0 : ∀ w, (zeroValue R.tE).run Try.prog w = .ok R.zv w) (hz1 : ∀ u ∈ R.zv.cells.toList, u.oneCell' = true) (a2 c : Nat) (ha : i + 1 < n → a2 = (i + 1) * R.k) (tC : TypeId) (c2 : Nat) :
    ∃ W1 W2, (Builtin.append_ #[R.tS, R.tS] R.tS #[.slice (some ⟨g, 0, none⟩) i cap, .slice (some ⟨g, a2, none⟩) (n - (i + 1)) c]).run Try.prog w.drew = .ok (.slice (some ⟨g, 0, none⟩) (n - 1) cap) W1 ∧
      (Builtin.clear_ #[R.tS] tC #[.slice (some ⟨g, (n - 1) * R.k, none⟩) 1 c2]).run Try.prog W1 = .ok (.tuple #[]) W2 ∧
      W2.ownsRow B R.tE R.k (.slice (some ⟨g, 0, none⟩) (n - 1) cap) (n - 1) (R.enc (l.take i ++ l.drop (i + 1))) ∧ w.grownBy W2 (some g) := by
  obtain ⟨inf, hinf, _, hs5, _⟩ := R.info
  obtain ⟨cur, hb1, hb2, hb3, hb4, hb5, hB⟩ := own_block hown
  have hcell : ∀ j u, (R.enc l)[j]? = some u → w.cell? ⟨g, j, none⟩ = some u := fun j u hu => by
    have := hown.cells (g := g) rfl j u hu
    rwa [add_plain, Nat.zero_add] at this
  have h1 := own_take hown (Nat.le_of_lt hi)
  obtain ⟨w1, e1, e2, e3⟩ := run_append_fits (P := Try.prog) w.drew B R.tS R.tS R.tE inf R.k R.und hinf hs5 g i cap _ (own_keep (w := w) h1 ((Below.refl _ _).drew)) ⟨g, a2, none⟩ (n - (i + 1)) c (R.enc (l.drop (i + 1)))
      (by rw [R.enc_len, List.length_drop, hn]) (fun j u hu => by
        rw [add_plain]
        have hj : j < (l.drop (i + 1)).length * R.k := by rw [← R.enc_len]; exact (List.getElem?_eq_some_iff.1 hu).1
        rw [List.length_drop, hn] at hj
        have hlt : i + 1 < n := by
          rcases Nat.eq_zero_or_pos (n - (i + 1)) with h0 | h0
          · rw [h0, Nat.zero_mul] at hj; omega
          · omega
        obtain rfl := ha hlt
        rw [← R.enc_drop, List.getElem?_drop] at hu
        exact hcell _ u hu) R.enc_one (by omega)
  rw [show i + (n - (i + 1)) = n - 1 by omega] at e1 e2
  rw [R.enc_append] at e2
  obtain ⟨cur1, q1, q2, q3, q4, q5, q6⟩ := own_block e2
  have hm : (n - 1) * R.k + 1 * R.k ≤ cap * R.k := by rw [← Nat.add_mul]; exact Nat.mul_le_mul_right _ (by omega)
  obtain ⟨vs, hvl, hclr⟩ := run_clear R hz0 hz1 w1 tC g ((n - 1) * R.k) 1 c2 cur1 q1 (by rw [q4]; exact hm)
  exact ⟨w1, _, e1, hclr, own_behind e2 vs (Nat.le_refl _) (by rw [hvl]; exact hm), grown_trans_set (w := w) (g := g) ⟨e3.os, e3.tape, e3.output, e3.size, e3.block⟩ _ _⟩
end Rec

end Go.Proofs.Ytpmgnhijiodbaaa
