/-
  Proved here: a bag and a clock beside one another; what the statements' own plain answers.
  Conditions: none.
-/
import Derived.Test.YtfonjkbdonbjdaaSame10
namespace Go.Proofs.Ytfonjkbdonbjdaa
open Go Go.RowKit

/-! ### Things beside one another -/
/-- Two pairs of blocks apart. -/
def Dis (p q r s : Nat) : Prop := p ≠ r ∧ p ≠ s ∧ q ≠ r ∧ q ≠ s
theorem Dis.sym {p q r s : Nat} (h : Dis p q r s) : Dis r s p q := ⟨h.1.symm, h.2.2.1.symm, h.2.1.symm, h.2.2.2.symm⟩
theorem Dis.moved {p q q' r s n : Nat} (h : Dis p q r s) (hq : q' = p ∨ q' = q ∨ n ≤ q') (hr : r < n) (hs : s < n) : Dis p q' r s := by
  obtain ⟨h1, h2, h3, h4⟩ := h
  refine ⟨h1, h2, ?_, ?_⟩
  · rcases hq with e | e | e
    · rw [e]; exact h1
    · rw [e]; exact h3
    · omega
  · rcases hq with e | e | e
    · rw [e]; exact h2
    · rw [e]; exact h4
    · omega
/-- A bag and a clock, behind a world w0 of g blocks. -/
structure Br (w0 : World) (g : Nat) (w : World) (p q : Nat) (L : List En) (rp rq : Nat) (R : List Nat) (now : Nat) : Prop where
  bg : BgP w p g q L
  rd : RdP w rp rq R now
  bel : Below g w0 w
  sz : w0.heap.size = g
  gp : g ≤ p
  gq : g ≤ q
  grp : g ≤ rp
  grq : g ≤ rq
  dis : Dis p q rp rq
section
variable {w0 w w' : World} {g p q rp rq now now' : Nat} {L L' : List En} {R R' : List Nat}
theorem Br.gw (h : Br w0 g w p q L rp rq R now) : g ≤ w.heap.size := by have := h.bel.size; have := h.sz; omega
theorem Br.below (h : Br w0 g w p q L rp rq R now) (hb : Below w.heap.size w w') : Br w0 g w' p q L rp rq R now :=
  ⟨h.bg.below hb, h.rd.below hb, h.bel.trans (hb.mono h.gw), h.sz, h.gp, h.gq, h.grp, h.grq, h.dis⟩
theorem Br.drewN (h : Br w0 g w p q L rp rq R now) (k : Nat) : Br w0 g (w.drewN k) p q L rp rq R now :=
  ⟨h.bg.drewN k, h.rd.drewN k, below_drewN h.bel k, h.sz, h.gp, h.gq, h.grp, h.grq, h.dis⟩
theorem Br.moved (h : Br w0 g w p q L rp rq R now) (hb : BgTo w p g q L' w') : ∃ q', Br w0 g w' p q' L' rp rq R now := by
  obtain ⟨q', h1, h2, h3⟩ := hb
  exact ⟨q', h1, h.rd.turns h2 h.dis.1.symm h.dis.2.2.1.symm h.dis.2.1.symm h.dis.2.2.2.symm, h.bel.trans (h2.below h.gp h.gq h.gw), h.sz, h.gp, by
    rcases h3 with e | e
    · rw [e]; exact h.gq
    · exact Nat.le_trans h.gw e, h.grp, h.grq, h.dis.moved (.inr h3) h.rd.lt_p h.rd.lt_q⟩
theorem Br.popped (h : Br w0 g w p q L rp rq R now) (hb : BgP w' p g q L') (ht : Turns p q w w') : Br w0 g w' p q L' rp rq R now :=
  ⟨hb, h.rd.turns ht h.dis.1.symm h.dis.2.2.1.symm h.dis.2.1.symm h.dis.2.2.2.symm, h.bel.trans (ht.below h.gp h.gq h.gw), h.sz, h.gp, h.gq, h.grp, h.grq, h.dis⟩
theorem Br.clock (h : Br w0 g w p q L rp rq R now) (hr : RdP w' rp rq R' now') (ht : Turns rp rq w w') : Br w0 g w' p q L rp rq R' now' :=
  ⟨h.bg.turns ht h.dis.1 h.dis.2.1 h.dis.2.2.1 h.dis.2.2.2, hr, h.bel.trans (ht.below h.grp h.grq h.gw), h.sz, h.gp, h.gq, h.grp, h.grq, h.dis⟩
theorem br_new {w1 w2 : World} {n : Nat} (hz : w0.heap.size = g) (hb : BgP w1 g g g []) (hbel : Below g w0 w1) (hp : w1.heap.size ≤ rp) (hq : w1.heap.size ≤ rq) (hr : RdP w2 rp rq (List.replicate n 0) 1) (hb2 : Below w1.heap.size w1 w2) : Br w0 g w2 g g [] rp rq (List.replicate n 0) 1 := by
  have h1 := hb.lt_p
  refine ⟨hb.below hb2, hr, hbel.trans (hb2.mono (by omega)), hz, Nat.le_refl _, Nat.le_refl _, by omega, by omega, ⟨by omega, by omega, by omega, by omega⟩⟩
end
theorem results_e1 {fn : Func} {t : Tmp} (hf : fn.results = #[.cell t 40]) {tmps : Array Value} {g : Nat} (ht : tmps.getD t undef = .pointer (some ⟨g, 0, none⟩)) {w : World} {e : En} (h : EBox w g e) :
    (results fn tmps).run Try.prog w = .ok e.val w := by
  have hl := h.load
  have ht' : tmps[t]?.getD undef = .pointer (some ⟨g, 0, none⟩) := by simpa using ht
  simp [results, hf, ht', hl, asAddr]
def plainE (r d : Nat) : En := ⟨2, 0, r, d, -1⟩
set_option maxHeartbeats 400000 in
theorem plain_any (r d : Nat) (w : World) : Calls Try.prog 24 #[.int .u64 (r : Nat), .int .u64 (d : Nat)] w fun y w' => y = .returned (.agg #[.int .i64 2, .int .i64 0, .int .u64 (r : Nat), .int .u64 (d : Nat), .int .i64 (-1)]) ∧ Below w.heap.size w w' := by
  have HZ := Lib.hid zero_entry
  obtain ⟨g, hg⟩ : ∃ g, w.heap.size = g := ⟨_, rfl⟩
  have HG := Lib.hid hg
  have HEB : Hid (∀ (w' : World) (g : Nat), w'.heap[g]? = some (.cells #[.int .i64 2, .int .i64 0, .int .u64 (r : Nat), .int .u64 (d : Nat), .int .i64 (-1)] 40 (0, 0)) → EBox w' g (plainE r d)) := fun w' g h => h
  have HV : Hid ((plainE r d).val = .agg #[.int .i64 2, .int .i64 0, .int .u64 (r : Nat), .int .u64 (d : Nat), .int .i64 (-1)]) := rfl
  generalize (r : Int) = x2 at *
  generalize (d : Int) = x3 at *
  clear hg
  go_enter Try.func24, Try.ntmps24
  go_wp2_with (first
    | ((with_reducible show wpList _ _ _ (⟨some 4, .alloc _, _, _, _, _⟩ :: _) _ _); refine wpList_alloc_var (o := ⟨some 4, _, _, _, _, _⟩) rfl 40 rfl g HG.out _ HZ.out ?_; intro w1 H1 B1)
    | ((with_reducible show wpList _ _ _ (⟨none, .store _ _ _, _, _, _, _⟩ :: _) _ _); refine wpList_store_whole (o := ⟨none, .store 40 (.tmp 4) (.tmp 7), _, _, _, _⟩) rfl _ _ _ rfl rfl g #[.int .i64 2, .int .i64 0, .int .u64 x2, .int .u64 x3, .int .i64 (-1)] rfl rfl 40 _ H1.out size_entry rfl (ones5 _ _ _ _ _) ?_; intro w5 H5 B5)
    | fail)
  refine bodyPost_ret (results_e1 rfl rfl (HEB.out _ _ H5.out)) rfl ⟨by rw [HV.out], ?_⟩
  rw [HG.out]
  exact B1.out.trans B5.out

end Go.Proofs.Ytfonjkbdonbjdaa
