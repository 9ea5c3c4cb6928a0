/-
  Proved here: what no list answers; a list behind a world; what the statements' own awake answers and leaves.
  Conditions: none.
-/
import Derived.Test.YtejljkpnhdnncaaFiH14
namespace Go.Proofs.Ytejljkpnhdnncaa
open Go Go.RowKit
set_option maxRecDepth 100000

set_option maxHeartbeats 800000 in
theorem fihead_nil (w : World) : Calls Try.prog 8 #[.pointer none] w fun e w' => e = .returned (.tuple #[.agg #[.string ⟨#[]⟩, .int .u64 0, .int .u64 0, .int .i64 0, .int .i64 0], .bool false]) ∧ Below w.heap.size w w' := by
  obtain ⟨g, hg⟩ : ∃ g, w.heap.size = g := ⟨_, rfl⟩
  have HG := Lib.hid hg
  have HZ := Lib.hid zero_link
  have HEZ : Hid (∀ (w' : World) (g : Nat), w'.heap[g]? = some (.cells #[.string ⟨#[]⟩, .int .u64 0, .int .u64 0, .int .i64 0, .int .i64 0] 29 (0, 0)) → LBox w' g Ln.zero) := fun w' g h => h
  rw [hg]
  go_enter Try.func8, Try.ntmps8
  go_wp2_with (first
    | ((with_reducible show wpList _ _ _ (⟨some 2, .alloc _, _, _, _, _⟩ :: _) _ _); refine wpList_alloc_var (o := ⟨some 2, _, _, _, _, _⟩) rfl 29 rfl g HG.out _ HZ.out ?_; intro w2 H2 B2)
    | ((with_reducible show wpList _ _ _ (⟨none, .store _ (.tmp 2) _, _, _, _, _⟩ :: _) _ _); refine wpList_store_whole (o := ⟨none, .store 29 (.tmp 2) (.tmp 6), _, _, _, _⟩) rfl _ _ _ rfl rfl g #[.string ⟨#[]⟩, .int .u64 0, .int .u64 0, .int .i64 0, .int .i64 0] rfl rfl 29 _ H2.out size_link rfl (onesL _ _ _ _ _) ?_; intro w5 H5 B5)
    | fail)
  refine bodyPost_ret (results_l2 rfl rfl rfl (HEZ.out _ _ H5.out)) rfl ?_
  exact ⟨rfl, B2.out.trans B5.out⟩
set_option maxHeartbeats 800000 in
theorem fipop_nil (w : World) : Calls Try.prog 9 #[.pointer none] w fun e w' => e = .returned (.tuple #[.agg #[.string ⟨#[]⟩, .int .u64 0, .int .u64 0, .int .i64 0, .int .i64 0], .bool false]) ∧ Below w.heap.size w w' := by
  obtain ⟨g, hg⟩ : ∃ g, w.heap.size = g := ⟨_, rfl⟩
  have HG := Lib.hid hg
  have HZ := Lib.hid zero_link
  have HEZ : Hid (∀ (w' : World) (g : Nat), w'.heap[g]? = some (.cells #[.string ⟨#[]⟩, .int .u64 0, .int .u64 0, .int .i64 0, .int .i64 0] 29 (0, 0)) → LBox w' g Ln.zero) := fun w' g h => h
  rw [hg]
  go_enter Try.func9, Try.ntmps9
  go_wp2_with (first
    | ((with_reducible show wpList _ _ _ (⟨some 2, .alloc _, _, _, _, _⟩ :: _) _ _); refine wpList_alloc_var (o := ⟨some 2, _, _, _, _, _⟩) rfl 29 rfl g HG.out _ HZ.out ?_; intro w2 H2 B2)
    | ((with_reducible show wpList _ _ _ (⟨none, .store _ (.tmp 2) _, _, _, _, _⟩ :: _) _ _); refine wpList_store_whole (o := ⟨none, .store 29 (.tmp 2) (.tmp 6), _, _, _, _⟩) rfl _ _ _ rfl rfl g #[.string ⟨#[]⟩, .int .u64 0, .int .u64 0, .int .i64 0, .int .i64 0] rfl rfl 29 _ H2.out size_link rfl (onesL _ _ _ _ _) ?_; intro w5 H5 B5)
    | fail)
  refine bodyPost_ret (results_l2 rfl rfl rfl (HEZ.out _ _ H5.out)) rfl ?_
  exact ⟨rfl, B2.out.trans B5.out⟩
set_option maxHeartbeats 400000 in
theorem fipush_nil (s : ByteArray) (a b c d : Int) (w : World) : Calls Try.prog 10 #[.pointer none, .agg #[.string s, .int .u64 a, .int .u64 b, .int .i64 c, .int .i64 d]] w fun e w' => e = .returned (.tuple #[]) ∧ Below w.heap.size w w' := by
  go_enter Try.func10, Try.ntmps10
  go_wp2
  refine bodyPost_end (results_none rfl _ _ _) rfl ?_
  exact ⟨rfl, (Below.refl _ _).alloc (Nat.le_refl _) _⟩
set_option maxHeartbeats 400000 in
theorem fiall_nil (w : World) : Calls Try.prog 12 #[.pointer none] w fun e w' => e = .returned (.slice none 0 0) ∧ w = w' := by
  go_enter Try.func12, Try.ntmps12
  go_wp2
  go_ret
  exact ⟨rfl, rfl⟩
set_option maxHeartbeats 400000 in
theorem filen_nil (w : World) : Calls Try.prog 11 #[.pointer none] w fun e w' => e = .returned (.int .i64 0) ∧ w = w' := by
  go_enter Try.func11, Try.ntmps11
  go_wp2
  go_ret
  exact ⟨rfl, rfl⟩

/-! ### A list behind a world -/
structure Fg (w0 : World) (g : Nat) (w : World) (p : Nat) (v : Value) (L : List Ln) : Prop where
  fi : ∃ f P, Fi w p v f P L
  bel : Below g w0 w
  sz : w0.heap.size = g
  own : ∀ k, fiOwn p v k → g ≤ k
section
variable {w0 w w' : World} {g p : Nat} {v : Value} {L L' : List Ln}
theorem Fg.gw (h : Fg w0 g w p v L) : g ≤ w.heap.size := by have := h.bel.size; have := h.sz; omega
theorem Fg.lt (h : Fg w0 g w p v L) {k : Nat} (hk : fiOwn p v k) : k < w.heap.size := by obtain ⟨f, P, h1⟩ := h.fi; exact h1.lt hk
theorem Fg.below (h : Fg w0 g w p v L) (hb : Below w.heap.size w w') : Fg w0 g w' p v L := by
  obtain ⟨f, P, h1⟩ := h.fi
  exact ⟨⟨f, P, h1.below hb⟩, h.bel.trans (hb.mono h.gw), h.sz, h.own⟩
theorem Fg.drewN (h : Fg w0 g w p v L) (k : Nat) : Fg w0 g (w.drewN k) p v L := h.below (below_drewN (Below.refl _ _) k)
theorem Fg.moved (h : Fg w0 g w p v L) (hb : FiTo w p v L' w') : ∃ v', Fg w0 g w' p v' L' := by
  obtain ⟨v', f', P', h1, h2, h3⟩ := hb
  exact ⟨v', ⟨f', P', h1⟩, h.bel.trans (h2.below h.own h.gw), h.sz, fun k hk => by
    rcases h3 k hk with e | e
    · exact h.own k e
    · exact Nat.le_trans h.gw e⟩
end
theorem fg_new {w0 w1 : World} {g : Nat} (hz : w0.heap.size = g) (h : Fi w1 g (.slice none 0 0) 0 [] []) (hb : Below g w0 w1) : Fg w0 g w1 g (.slice none 0 0) [] :=
  ⟨⟨_, _, h⟩, hb, hz, fun k hk => by
    rcases hk with rfl | e
    · exact Nat.le_refl _
    · cases e⟩
def lv (n : Nat) : Ln := ⟨[], 0, n, 0, 0⟩
set_option maxHeartbeats 1600000 in
set_option maxRecDepth 100000 in
theorem awake14_any (w : World) : Calls Try.prog 6 #[] w fun e w' => e = .returned (.bool true) ∧ Below w.heap.size w w' := by
  have HN := Lib.hid (finew_any w)
  obtain ⟨g, hg⟩ : ∃ g, w.heap.size = g := ⟨_, rfl⟩
  have HG := Lib.hid hg
  rw [hg] at HN ⊢
  have HZ := Lib.hid zero_link
  have HP1 : Hid (∀ w1 v, Fg w g w1 g v [] → Calls Try.prog 10 #[.pointer (some ⟨g, 0, none⟩), .agg #[.string ⟨#[]⟩, .int .u64 0, .int .u64 1, .int .i64 0, .int .i64 0]] w1 fun y w' => y = .returned (.tuple #[]) ∧ FiTo w1 g v [lv 1] w') := fun w1 v h => by
    obtain ⟨f, P, h1⟩ := h.fi
    exact fipush_any h1 (by simp) (lv 1)
  have HP2 : Hid (∀ w1 v, Fg w g w1 g v [lv 1] → Calls Try.prog 10 #[.pointer (some ⟨g, 0, none⟩), .agg #[.string ⟨#[]⟩, .int .u64 0, .int .u64 2, .int .i64 0, .int .i64 0]] w1 fun y w' => y = .returned (.tuple #[]) ∧ FiTo w1 g v [lv 1, lv 2] w') := fun w1 v h => by
    obtain ⟨f, P, h1⟩ := h.fi
    exact fipush_any h1 (by simp) (lv 2)
  have HHD : Hid (∀ w1 v, Fg w g w1 g v [lv 1, lv 2] → Calls Try.prog 8 #[.pointer (some ⟨g, 0, none⟩)] w1 fun y w' => y = .returned (.tuple #[.agg #[.string ⟨#[]⟩, .int .u64 0, .int .u64 1, .int .i64 0, .int .i64 0], .bool true]) ∧ FiTo w1 g v [lv 1, lv 2] w') := fun w1 v h => by
    obtain ⟨f, P, h1⟩ := h.fi
    exact fihead_any h1
  have HLN : Hid (∀ w1 v, Fg w g w1 g v [lv 1, lv 2] → Calls Try.prog 11 #[.pointer (some ⟨g, 0, none⟩)] w1 fun y w' => y = .returned (.int .i64 2) ∧ w1 = w') := fun w1 v h => by
    obtain ⟨f, P, h1⟩ := h.fi
    exact filen_any h1
  clear hg
  go_enter Try.func6, Try.ntmps6
  go_wp2_with fail
  refine HN.out.mono ?_
  rintro e w1 ⟨rfl, ht1, hb1⟩
  have HT1 := Lib.hid (fg_new HG.out ht1 hb1)
  clear ht1 hb1
  go_wp2_with fail
  refine (HP1.out _ _ HT1.out).mono ?_
  rintro e w2 ⟨rfl, hb2⟩
  obtain ⟨v2, ht2⟩ := HT1.out.moved hb2
  have HT2 := Lib.hid ht2
  clear hb2 ht2
  go_wp2_with fail
  refine (HP2.out _ _ HT2.out).mono ?_
  rintro e w3 ⟨rfl, hb3⟩
  obtain ⟨v3, ht3⟩ := HT2.out.moved hb3
  have HT3 := Lib.hid ht3
  clear hb3 ht3
  go_wp2_with fail
  refine (HHD.out _ _ HT3.out).mono ?_
  rintro e w4 ⟨rfl, hb4⟩
  obtain ⟨v4, ht4⟩ := HT3.out.moved hb4
  have HT4 := Lib.hid ht4
  obtain ⟨g4, hg4⟩ : ∃ g4, w4.heap.size = g4 := ⟨_, rfl⟩
  have HG4 := Lib.hid hg4
  clear hb4 ht4 hg4
  go_wp2_with (first
    | ((with_reducible show wpList _ _ _ (⟨some 2, .alloc _, _, _, _, _⟩ :: _) _ _); refine wpList_alloc_var (o := ⟨some 2, _, _, _, _, _⟩) rfl 29 rfl g4 HG4.out _ HZ.out ?_; intro x1 H1 X1)
    | ((with_reducible show wpList _ _ _ (⟨none, .store _ (.tmp 2) _, _, _, _, _⟩ :: _) _ _); refine wpList_store_whole (o := ⟨none, .store 29 (.tmp 2) (.tmp 16), _, _, _, _⟩) rfl _ _ _ rfl rfl g4 #[.string ⟨#[]⟩, .int .u64 0, .int .u64 1, .int .i64 0, .int .i64 0] rfl rfl 29 _ H1.out size_link rfl (onesL _ _ _ _ _) ?_; intro x2 H2 X2; have HT5 := Lib.hid (HT4.out.below (HG4.out.symm ▸ X1.out.trans X2.out)); obtain ⟨c0, c1, c2, c3, c4⟩ := cellsL H2.out)
    | (go_at_call 11; refine (HLN.out _ _ HT5.out).mono ?_; rintro e x6 ⟨rfl, rfl⟩)
    | fail)
  go_ret
  exact ⟨rfl, HT5.out.bel⟩

end Go.Proofs.Ytejljkpnhdnncaa
