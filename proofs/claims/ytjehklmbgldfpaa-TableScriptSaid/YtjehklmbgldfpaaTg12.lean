/-
  Proved here: a table behind a world; what the statements' own awake answers and leaves.
  Conditions: none.
-/
import Derived.Test.YtjehklmbgldfpaaTabE
import Derived.Test.YtjehklmbgldfpaaTabN
import Derived.Test.YtjehklmbgldfpaaTabAl
namespace Go.Proofs.Ytjehklmbgldfpaa
open Go Go.RowKit
set_option maxRecDepth 100000

/-! ### A table behind a world -/
structure Tg (w0 : World) (g : Nat) (w : World) (p : Nat) (m : Nat → Option Nat) (L : List Ln) : Prop where
  tb : Tb w p m L
  bel : Below g w0 w
  sz : w0.heap.size = g
  own : ∀ k, tbOwn p m k → g ≤ k
section
variable {w0 w w' : World} {g p : Nat} {m : Nat → Option Nat} {L L' : List Ln}
theorem Tg.gw (h : Tg w0 g w p m L) : g ≤ w.heap.size := by have := h.bel.size; have := h.sz; omega
theorem Tg.below (h : Tg w0 g w p m L) (hb : Below w.heap.size w w') : Tg w0 g w' p m L := ⟨h.tb.below hb, h.bel.trans (hb.mono h.gw), h.sz, h.own⟩
theorem Tg.drewN (h : Tg w0 g w p m L) (k : Nat) : Tg w0 g (w.drewN k) p m L := h.below (below_drewN (Below.refl _ _) k)
theorem Tg.moved (h : Tg w0 g w p m L) (hb : TbTo w p m L' w') : ∃ m', Tg w0 g w' p m' L' := by
  obtain ⟨m', h1, h2, h3⟩ := hb
  exact ⟨m', h1, h.bel.trans (h2.below h.own h.gw), h.sz, fun k hk => by
    rcases h3 k hk with e | e
    · exact h.own k e
    · exact Nat.le_trans h.gw e⟩
end
theorem tg_new {w0 w1 : World} {g : Nat} (hz : w0.heap.size = g) (h : Tb w1 g (fun _ => none) []) (hb : Below g w0 w1) : Tg w0 g w1 g (fun _ => none) [] :=
  ⟨h, hb, hz, fun k hk => by
    rcases hk with rfl | ⟨_, _, e⟩
    · exact Nat.le_refl _
    · cases e⟩
def lb1 : Ln := ⟨[98], 0, 1, 0, 0⟩
def la0 : Ln := ⟨[97], 0, 0, 0, 0⟩
def lb2 : Ln := ⟨[98], 0, 2, 0, 0⟩
set_option maxHeartbeats 1600000 in
set_option maxRecDepth 100000 in
theorem awake12_any (w : World) : Calls Try.prog 9 #[] w fun e w' => e = .returned (.bool true) ∧ Below w.heap.size w w' := by
  have HN := Lib.hid (tbnew_any w)
  obtain ⟨g, hg⟩ : ∃ g, w.heap.size = g := ⟨_, rfl⟩
  have HG := Lib.hid hg
  rw [hg] at HN ⊢
  have HZ := Lib.hid zero_link
  have HS1 : Hid (∀ w1 m, Tg w g w1 g m [] → Calls Try.prog 11 #[.pointer (some ⟨g, 0, none⟩), .agg #[.string ⟨#[98]⟩, .int .u64 0, .int .u64 1, .int .i64 0, .int .i64 0]] w1 fun y w' => y = .returned (.bool false) ∧ TbTo w1 g m [lb1] w') := fun w1 m h => tbset_any h.tb lb1 (by decide) (by decide)
  have HS2 : Hid (∀ w1 m, Tg w g w1 g m [lb1] → Calls Try.prog 11 #[.pointer (some ⟨g, 0, none⟩), .agg #[.string ⟨#[97]⟩, .int .u64 0, .int .u64 0, .int .i64 0, .int .i64 0]] w1 fun y w' => y = .returned (.bool false) ∧ TbTo w1 g m [la0, lb1] w') := fun w1 m h => tbset_any h.tb la0 (by decide) (by decide)
  have HS3 : Hid (∀ w1 m, Tg w g w1 g m [la0, lb1] → Calls Try.prog 11 #[.pointer (some ⟨g, 0, none⟩), .agg #[.string ⟨#[98]⟩, .int .u64 0, .int .u64 2, .int .i64 0, .int .i64 0]] w1 fun y w' => y = .returned (.bool true) ∧ TbTo w1 g m [la0, lb2] w') := fun w1 m h => tbset_any h.tb lb2 (by decide) (by decide)
  have HGT : Hid (∀ w1 m, Tg w g w1 g m [la0, lb2] → Calls Try.prog 15 #[.pointer (some ⟨g, 0, none⟩), .string ⟨#[98]⟩] w1 fun y w' => y = .returned (.tuple #[.agg #[.string ⟨#[98]⟩, .int .u64 0, .int .u64 2, .int .i64 0, .int .i64 0], .bool true]) ∧ Below w1.heap.size w1 w') := fun w1 m h => tbget_any h.tb ⟨#[98]⟩ (by decide)
  have HLN : Hid (∀ w1 m, Tg w g w1 g m [la0, lb2] → Calls Try.prog 19 #[.pointer (some ⟨g, 0, none⟩)] w1 fun y w' => y = .returned (.int .i64 2) ∧ w1 = w') := fun w1 m h => tblen_any h.tb (by decide)
  clear hg
  go_enter Try.func9, Try.ntmps9
  go_wp2_with fail
  refine HN.out.mono ?_
  rintro e w1 ⟨rfl, ht1, hb1⟩
  have HT1 := Lib.hid (tg_new HG.out ht1 hb1)
  clear ht1 hb1
  go_wp2_with fail
  refine (HS1.out _ _ HT1.out).mono ?_
  rintro e w2 ⟨rfl, hb2⟩
  obtain ⟨m2, ht2⟩ := HT1.out.moved hb2
  have HT2 := Lib.hid ht2
  clear hb2 ht2
  go_wp2_with fail
  refine (HS2.out _ _ HT2.out).mono ?_
  rintro e w3 ⟨rfl, hb3⟩
  obtain ⟨m3, ht3⟩ := HT2.out.moved hb3
  have HT3 := Lib.hid ht3
  clear hb3 ht3
  go_wp2_with fail
  refine (HS3.out _ _ HT3.out).mono ?_
  rintro e w4 ⟨rfl, hb4⟩
  obtain ⟨m4, ht4⟩ := HT3.out.moved hb4
  have HT4 := Lib.hid ht4
  clear hb4 ht4
  go_wp2_with fail
  refine (HGT.out _ _ HT4.out).mono ?_
  rintro e w5 ⟨rfl, hb5⟩
  have HT5 := Lib.hid (HT4.out.below hb5)
  obtain ⟨g5, hg5⟩ : ∃ g5, w5.heap.size = g5 := ⟨_, rfl⟩
  have HG5 := Lib.hid hg5
  clear hb5 hg5
  go_wp2_with (first
    | ((with_reducible show wpList _ _ _ (⟨some 2, .alloc _, _, _, _, _⟩ :: _) _ _); refine wpList_alloc_var (o := ⟨some 2, _, _, _, _, _⟩) rfl 33 rfl g5 HG5.out _ HZ.out ?_; intro x1 H1 X1)
    | ((with_reducible show wpList _ _ _ (⟨none, .store _ (.tmp 2) _, _, _, _, _⟩ :: _) _ _); refine wpList_store_whole (o := ⟨none, .store 33 (.tmp 2) (.tmp 26), _, _, _, _⟩) rfl _ _ _ rfl rfl g5 #[.string ⟨#[98]⟩, .int .u64 0, .int .u64 2, .int .i64 0, .int .i64 0] rfl rfl 33 _ H1.out size_link rfl (onesL _ _ _ _ _) ?_; intro x5 H5 X5; obtain ⟨c0, c1, c2, c3, c4⟩ := cellsL H5.out)
    | fail)
  have HT6 := Lib.hid (HT5.out.below (HG5.out.symm ▸ X1.out.trans X5.out))
  refine (HLN.out _ _ HT6.out).mono ?_
  rintro e x6 ⟨rfl, rfl⟩
  go_wp2
  go_ret
  exact ⟨rfl, HT6.out.bel⟩

end Go.Proofs.Ytjehklmbgldfpaa
