/-
  Proved here: what a push leaves where there is room.
  Conditions: at most 4,095 places.
-/
import Derived.Test.YtejljkpnhdnncaaFiC14
namespace Go.Proofs.Ytejljkpnhdnncaa
open Go Go.RowKit
set_option maxRecDepth 100000

theorem Fi.wrote {w w1 w2 : World} {p f f' : Nat} {v : Value} {P P' L L' : List Ln} (h : Fi w p v f P L) (ho : w1.ownsRow 0 29 5 v P'.length (encL P')) (hg : w.grownBy w1 v.ownBlock) (hl : P'.length = P.length) (hr : Ring P' f' L')
    (hm : w2.heap[p]? = some (.cells #[v, .int .i64 (f' : Nat), .int .i64 (L'.length : Nat)] 44 (0, 0))) (hs : Stay (fun k => k = p) w1 w2) : Fi w2 p v f' P' L' ∧ Stay (fiOwn p v) w w2 := by
  have hs1 : Stay (fun k => v.ownBlock = some k) w w1 := ⟨hg.os, hg.tape, hg.output, hg.size, fun k hk hl => hg.block k hl (fun e => hk e.symm)⟩
  refine ⟨⟨hm, own_same ho fun k hk => hs.block k (fun e => h.self (e ▸ hk)) (ho.lt k hk).2, hr, h.self, hl ▸ h.small⟩, ?_⟩
  exact (hs1.mono fun k _ hk => (.inr hk : fiOwn p v k)).trans (hs.mono fun k _ hk => (.inl hk : fiOwn p v k))
theorem grown_tr {a b' c : World} {b : Option Nat} (k1 : a.grownBy b' b) (k2 : b'.grownBy c b) : a.grownBy c b :=
  ⟨k2.os.trans k1.os, k2.tape.trans k1.tape, k2.output.trans k1.output, Nat.le_trans k1.size k2.size, fun k hk hne => (k2.block k (Nat.lt_of_lt_of_le hk k1.size) hne).trans (k1.block k hk hne)⟩
/-- One link of a row written over. -/
theorem own_set5 {w : World} {B b n cap i : Nat} {l : List Ln} (h : w.ownsRow B 29 5 (.slice (some ⟨b, 0, none⟩) n cap) n (encL l)) (x : Ln) (hi : i < l.length) :
    (((((w.setCell ⟨b, i * 5, none⟩ (.string x.str)).setCell ⟨b, i * 5 + 1, none⟩ (.int .u64 (x.id : Nat))).setCell ⟨b, i * 5 + 2, none⟩ (.int .u64 (x.ver : Nat))).setCell ⟨b, i * 5 + 3, none⟩ (.int .i64 x.line)).setCell ⟨b, i * 5 + 4, none⟩ (.int .i64 x.cl)).ownsRow B 29 5 (.slice (some ⟨b, 0, none⟩) n cap) n (encL (l.set i x)) ∧
      w.grownBy (((((w.setCell ⟨b, i * 5, none⟩ (.string x.str)).setCell ⟨b, i * 5 + 1, none⟩ (.int .u64 (x.id : Nat))).setCell ⟨b, i * 5 + 2, none⟩ (.int .u64 (x.ver : Nat))).setCell ⟨b, i * 5 + 3, none⟩ (.int .i64 x.line)).setCell ⟨b, i * 5 + 4, none⟩ (.int .i64 x.cl)) (some b) := by
  have s0 := h.stored (i * 5) (.string x.str)
  have s1 := s0.1.stored (i * 5 + 1) (.int .u64 (x.id : Nat))
  have s2 := s1.1.stored (i * 5 + 2) (.int .u64 (x.ver : Nat))
  have s3 := s2.1.stored (i * 5 + 3) (.int .i64 x.line)
  have s4 := s3.1.stored (i * 5 + 4) (.int .i64 x.cl)
  have e := s4.1
  rw [encL_set l _ x hi] at e
  exact ⟨e, grown_tr (grown_tr (grown_tr (grown_tr s0.2 s1.2) s2.2) s3.2) s4.2⟩
theorem own_where {w : World} {v : Value} {n : Nat} {l : List Ln} (h : w.ownsRow 0 29 5 v n (encL l)) (hn : 0 < n) : ∃ b cap, v = .slice (some ⟨b, 0, none⟩) n cap := by
  rcases h.2 with ⟨_, e⟩ | ⟨g, cap, cur, e, _⟩
  · omega
  · exact ⟨g, cap, e⟩
/-- Behind a push, where there was room. -/
theorem Fi.pushed {w : World} {p f b m cap n : Nat} {P L : List Ln} (h : Fi w p (.slice (some ⟨b, 0, none⟩) m cap) f P L) (hm : P.length = m) (hr : L.length < m) (x : Ln) (hn : L.length = n) {r : Nat} (hrr : (f + n) % m = r) :
    Fi ((((((w.setCell ⟨b, r * 5, none⟩ (.string x.str)).setCell ⟨b, r * 5 + 1, none⟩ (.int .u64 (x.id : Nat))).setCell ⟨b, r * 5 + 2, none⟩ (.int .u64 (x.ver : Nat))).setCell ⟨b, r * 5 + 3, none⟩ (.int .i64 x.line)).setCell ⟨b, r * 5 + 4, none⟩ (.int .i64 x.cl)).setCell ⟨p, 2, none⟩ (.int .i64 ((n : Int) + 1))) p (.slice (some ⟨b, 0, none⟩) m cap) f (P.set r x) (L ++ [x]) ∧
    Stay (fiOwn p (.slice (some ⟨b, 0, none⟩) m cap)) w ((((((w.setCell ⟨b, r * 5, none⟩ (.string x.str)).setCell ⟨b, r * 5 + 1, none⟩ (.int .u64 (x.id : Nat))).setCell ⟨b, r * 5 + 2, none⟩ (.int .u64 (x.ver : Nat))).setCell ⟨b, r * 5 + 3, none⟩ (.int .i64 x.line)).setCell ⟨b, r * 5 + 4, none⟩ (.int .i64 x.cl)).setCell ⟨p, 2, none⟩ (.int .i64 ((n : Int) + 1))) := by
  subst hn
  have hro := h.row
  rw [hm] at hro
  have hrl : r < P.length := by rw [← hrr, hm]; exact Nat.mod_lt _ (by omega)
  obtain ⟨h1, h2⟩ := own_set5 hro x hrl
  have hpb : p ≠ b := fun e => h.self (by rw [e]; rfl)
  have hmem := (h2.block p (lt_of_heap h.mem) (by simp; omega)).trans h.mem
  have h3 := heap_setCell_same _ p 2 _ _ (.int .i64 ((L.length : Int) + 1)) hmem
  refine h.wrote (P' := P.set r x) (by rw [List.length_set, hm]; exact h1) h2 (by simp) (by have := h.ring.push (by rw [hm]; exact hr) x; rwa [hm, hrr] at this) (by rw [h3]; simp) (Stay.setCell _ p 2 _ rfl)
theorem cell_set5 {w : World} {b p : Nat} (h : b ≠ p) (o j : Nat) (v0 v1 v2 v3 v4 : Value) : (((((w.setCell ⟨b, o, none⟩ v0).setCell ⟨b, o + 1, none⟩ v1).setCell ⟨b, o + 2, none⟩ v2).setCell ⟨b, o + 3, none⟩ v3).setCell ⟨b, o + 4, none⟩ v4).cell? ⟨p, j, none⟩ = w.cell? ⟨p, j, none⟩ := by
  have hb : ∀ (w : World) (i : Nat) (u : Value), (w.setCell ⟨b, i, none⟩ u).cell? ⟨p, j, none⟩ = w.cell? ⟨p, j, none⟩ := fun w i u => World.cell?_setCell_other _ _ _ _ (fun e => h (by cases e; rfl))
  rw [hb, hb, hb, hb, hb]
theorem frozen_set5 {w : World} {b p : Nat} (o j : Nat) (v0 v1 v2 v3 v4 : Value) : (((((w.setCell ⟨b, o, none⟩ v0).setCell ⟨b, o + 1, none⟩ v1).setCell ⟨b, o + 2, none⟩ v2).setCell ⟨b, o + 3, none⟩ v3).setCell ⟨b, o + 4, none⟩ v4).frozen? ⟨p, j, none⟩ = w.frozen? ⟨p, j, none⟩ := by simp
/-- The five cells of a link of a row. -/
theorem own_five {w : World} {B b n cap i : Nat} {l : List Ln} (h : w.ownsRow B 29 5 (.slice (some ⟨b, 0, none⟩) n cap) n (encL l)) (hi : i < l.length) :
    (∃ u, w.cell? ⟨b, i * 5, none⟩ = some u) ∧ (∃ u, w.cell? ⟨b, i * 5 + 1, none⟩ = some u) ∧ (∃ u, w.cell? ⟨b, i * 5 + 2, none⟩ = some u) ∧ (∃ u, w.cell? ⟨b, i * 5 + 3, none⟩ = some u) ∧ (∃ u, w.cell? ⟨b, i * 5 + 4, none⟩ = some u) ∧ ∀ j, w.frozen? ⟨b, j, none⟩ = false := by
  have hl : (encL l).length = n * 5 := h.1
  have key : ∀ j, j < 5 → ∃ u, w.cell? ⟨b, i * 5 + j, none⟩ = some u := fun j hj => by
    rw [encL_len] at hl
    rw [h.cellAt (i * 5 + j) (by omega)]
    have : i * 5 + j < (encL l).length := by rw [encL_len]; omega
    exact ⟨_, List.getElem?_eq_getElem this⟩
  exact ⟨key 0 (by omega), key 1 (by omega), key 2 (by omega), key 3 (by omega), key 4 (by omega), fun j => h.frozenAt j⟩

end Go.Proofs.Ytejljkpnhdnncaa
