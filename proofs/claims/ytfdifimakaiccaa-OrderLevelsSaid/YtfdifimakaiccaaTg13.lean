/-
  Proved here: an order behind a world; what the statements' own awake answers and leaves.
  Conditions: none.
-/
import Derived.Test.YtfdifimakaiccaaSet13
import Derived.Test.YtfdifimakaiccaaDrop13
namespace Go.Proofs.Ytfdifimakaiccaa
open Go Go.RowKit
set_option maxRecDepth 100000


/-! ### A table behind a world -/
structure Tg (w0 : World) (g : Nat) (w : World) (p : Nat) (m : Nat → Value) (L : List Ln) : Prop where
  tb : Od w p m L
  bel : Below g w0 w
  sz : w0.heap.size = g
  own : ∀ k, odOwn p m k → g ≤ k
section
variable {w0 w w' : World} {g p : Nat} {m : Nat → Value} {L L' : List Ln}
theorem Tg.gw (h : Tg w0 g w p m L) : g ≤ w.heap.size := by have := h.bel.size; have := h.sz; omega
theorem Tg.below (h : Tg w0 g w p m L) (hb : Below w.heap.size w w') : Tg w0 g w' p m L := ⟨h.tb.below hb, h.bel.trans (hb.mono h.gw), h.sz, h.own⟩
theorem Tg.drewN (h : Tg w0 g w p m L) (k : Nat) : Tg w0 g (w.drewN k) p m L := h.below (below_drewN (Below.refl _ _) k)
theorem Tg.moved (h : Tg w0 g w p m L) (hb : OdTo w p m L' w') : ∃ m', Tg w0 g w' p m' L' := by
  obtain ⟨m', h1, h2, h3⟩ := hb
  exact ⟨m', h1, h.bel.trans (h2.below h.own h.gw), h.sz, fun k hk => by
    rcases h3 k hk with e | e
    · exact h.own k e
    · exact Nat.le_trans h.gw e⟩
end
theorem tg_new {w0 w1 : World} {g : Nat} (hz : w0.heap.size = g) (h : Od w1 g (fun _ => .slice none 0 0) []) (hb : Below g w0 w1) : Tg w0 g w1 g (fun _ => .slice none 0 0) [] :=
  ⟨h, hb, hz, fun k hk => by
    rcases hk with rfl | ⟨_, _, e⟩
    · exact Nat.le_refl _
    · cases e⟩
def l9 : Ln := ⟨[49, 50, 51, 52, 53, 54, 55, 56, 57], 0, 4, 0, 0⟩
theorem l9_hgt : hgt l9.k = 3 := by
  show lvl (addS 0 [49, 50, 51, 52, 53, 54, 55, 56, 57]) = 3
  rw [nine, nine_lvl]
theorem l9_three : rightT [l9] 3 [] false = some l9 := by
  unfold rightT nextT
  have h := l9_hgt
  simp [h]
theorem l9_four : rightT [l9] 4 [] false = none := by
  unfold rightT nextT
  have h := l9_hgt
  simp [h]
set_option maxHeartbeats 1600000 in
set_option maxRecDepth 100000 in
theorem awake13_any (w : World) : Calls Try.prog 9 #[] w fun e w' => e = .returned (.bool true) ∧ Below w.heap.size w w' := by
  have HN := Lib.hid (odnew_any w)
  obtain ⟨g, hg⟩ : ∃ g, w.heap.size = g := ⟨_, rfl⟩
  have HG := Lib.hid hg
  rw [hg] at HN ⊢
  have HZ := Lib.hid zero_link
  have HS1 : Hid (∀ w1 m, Tg w g w1 g m [] → Calls Try.prog 11 #[.pointer (some ⟨g, 0, none⟩), .agg #[.string ⟨#[49, 50, 51, 52, 53, 54, 55, 56, 57]⟩, .int .u64 0, .int .u64 4, .int .i64 0, .int .i64 0]] w1 fun y w' => y = .returned (.bool false) ∧ OdTo w1 g m [l9] w') := fun w1 m h => odset_any h.tb l9 (by decide) (by decide)
  have HR3 : Hid (∀ w1 m, Tg w g w1 g m [l9] → Calls Try.prog 15 #[.pointer (some ⟨g, 0, none⟩), .int .i64 3, .string ⟨#[]⟩, .bool false] w1 fun y w' => y = .returned (.tuple #[.agg #[.string ⟨#[49, 50, 51, 52, 53, 54, 55, 56, 57]⟩, .int .u64 0, .int .u64 4, .int .i64 0, .int .i64 0], .bool true]) ∧ Below w1.heap.size w1 w') := fun w1 m h => by
    have := odright_any h.tb (by decide) 3 ⟨#[]⟩ false
    rw [show (⟨#[]⟩ : ByteArray).data.toList = [] from rfl, l9_three] at this
    exact this
  have HR4 : Hid (∀ w1 m, Tg w g w1 g m [l9] → Calls Try.prog 15 #[.pointer (some ⟨g, 0, none⟩), .int .i64 4, .string ⟨#[]⟩, .bool false] w1 fun y w' => y = .returned (.tuple #[.agg #[.string ⟨#[]⟩, .int .u64 0, .int .u64 0, .int .i64 0, .int .i64 0], .bool false]) ∧ Below w1.heap.size w1 w') := fun w1 m h => by
    have := odright_any h.tb (by decide) 4 ⟨#[]⟩ false
    rw [show (⟨#[]⟩ : ByteArray).data.toList = [] from rfl, l9_four] at this
    exact this
  have HLN : Hid (∀ w1 m, Tg w g w1 g m [l9] → Calls Try.prog 17 #[.pointer (some ⟨g, 0, none⟩)] w1 fun y w' => y = .returned (.int .i64 1) ∧ w1 = w') := fun w1 m h => odlen_any h.tb (by decide)
  clear hg
  go_enter Try.func9, Try.ntmps9
  go_wp2_with fail
  refine HN.out.mono ?_
  rintro e w1 ⟨rfl, ht1, hb1⟩
  have HT1 := Lib.hid (tg_new HG.out ht1 hb1)
  clear ht1 hb1
  go_wp2_with fail
  refine (HS1.out _ _ HT1.out).mono ?_
  rintro e w2 ⟨rfl, hb2⟩
  obtain ⟨m2, ht2⟩ := HT1.out.moved hb2
  have HT2 := Lib.hid ht2
  clear hb2 ht2
  go_wp2_with fail
  refine (HR3.out _ _ HT2.out).mono ?_
  rintro e w3 ⟨rfl, hb3⟩
  have HT3 := Lib.hid (HT2.out.below hb3)
  obtain ⟨g3, hg3⟩ : ∃ g3, w3.heap.size = g3 := ⟨_, rfl⟩
  have HG3 := Lib.hid hg3
  clear hb3 hg3
  go_wp2_with (first
    | ((with_reducible show wpList _ _ _ (⟨some 2, .alloc _, _, _, _, _⟩ :: _) _ _); refine wpList_alloc_var (o := ⟨some 2, _, _, _, _, _⟩) rfl 33 rfl g3 HG3.out _ HZ.out ?_; intro x1 H1 X1)
    | ((with_reducible show wpList _ _ _ (⟨none, .store _ (.tmp 2) _, _, _, _, _⟩ :: _) _ _); refine wpList_store_whole (o := ⟨none, .store 33 (.tmp 2) (.tmp 17), _, _, _, _⟩) rfl _ _ _ rfl rfl g3 #[.string ⟨#[49, 50, 51, 52, 53, 54, 55, 56, 57]⟩, .int .u64 0, .int .u64 4, .int .i64 0, .int .i64 0] rfl rfl 33 _ H1.out size_link rfl (onesL _ _ _ _ _) ?_; intro x2 H2 X2)
    | fail)
  have HT4 := Lib.hid (HT3.out.below (HG3.out.symm ▸ X1.out.trans X2.out))
  refine (HR4.out _ _ HT4.out).mono ?_
  rintro e x3 ⟨rfl, hb5⟩
  have HT5 := Lib.hid (HT4.out.below hb5)
  have H3 := Lib.hid ((hb5.block g3 (lt_of_heap H2.out)).trans H2.out)
  obtain ⟨g5, hg5⟩ : ∃ g5, x3.heap.size = g5 := ⟨_, rfl⟩
  have HG5 := Lib.hid hg5
  have HL5 : Hid (g3 < g5) := hg5 ▸ lt_of_heap H3.out
  clear hb5 hg5
  go_wp2_with (first
    | ((with_reducible show wpList _ _ _ (⟨some 4, .alloc _, _, _, _, _⟩ :: _) _ _); refine wpList_alloc_var (o := ⟨some 4, _, _, _, _, _⟩) rfl 33 rfl g5 HG5.out _ HZ.out ?_; intro x4 H4 X4)
    | ((with_reducible show wpList _ _ _ (⟨none, .store _ (.tmp 4) _, _, _, _, _⟩ :: _) _ _); refine wpList_store_whole (o := ⟨none, .store 33 (.tmp 4) (.tmp 22), _, _, _, _⟩) rfl _ _ _ rfl rfl g5 #[.string ⟨#[]⟩, .int .u64 0, .int .u64 0, .int .i64 0, .int .i64 0] rfl rfl 33 _ H4.out size_link rfl (onesL _ _ _ _ _) ?_; intro x5 H5 X5; have HT6 := Lib.hid (HT5.out.below (HG5.out.symm ▸ X4.out.trans X5.out)); have H6 := Lib.hid (((X4.out.trans X5.out).block g3 HL5.out).trans H3.out); obtain ⟨c0, c1, c2, c3, c4⟩ := cellsL H6.out)
    | (go_at_call 17; refine (HLN.out _ _ HT6.out).mono ?_; rintro e x6 ⟨rfl, rfl⟩)
    | fail)
  go_ret
  exact ⟨rfl, HT6.out.bel⟩

end Go.Proofs.Ytfdifimakaiccaa
