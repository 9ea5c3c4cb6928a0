/-
  Proved here: what slices.Insert leaves of a row of pairs.
  Conditions: less than 2^20 pairs.
-/
import Derived.Test.YtpmgnhijiodbaaaKv15
import Derived.Lib.Overlaps
namespace Go.Proofs.Ytpmgnhijiodbaaa
open Go Go.RowKit
set_option maxRecDepth 100000

/-- What an insertion, or a deletion, leaves of a row. -/
def RowTo15 {α : Type} (R : Rec α) (B : Nat) (l : List α) (v : Value) (w : World) (e : Ending) (w' : World) : Prop :=
  ∃ u, e = .returned u ∧ w'.ownsRow B R.tE R.k u l.length (R.enc l) ∧ w.grownBy w' v.ownBlock ∧ ∀ k, u.ownBlock = some k → v.ownBlock = some k ∨ w.heap.size ≤ k
theorem insp_run {w : World} {v : Value} {l : List Kv} {x : Kv} {vb B : Nat} (hown : w.ownsRow B RP.tE RP.k v l.length (RP.enc l)) (hl : l.length < 1048576) (hx : w.heap[vb]? = some (.cells #[.string x.k, .string x.v] 42 (0, 0))) (hB : B ≤ w.heap.size) :
    ∃ u w', (Builtin.append_ #[22, 22] 22 #[v, .slice (some ⟨vb, 0, none⟩) 1 1]).run Try.prog w = .ok u w' ∧ RowTo15 RP B (l ++ [x]) v w (.returned u) w' := by
  obtain ⟨v', w', h1, h2, h3, h4, _⟩ := RP.run_app w B l.length v l hown (some ⟨vb, 0, none⟩) 1 1 [x] rfl (RP.row_one hx) (fun h => by cases h) (by omega) hB 22
  refine ⟨v', w', h1, v', rfl, by rw [List.length_append]; exact h2, h3, fun k hk => ?_⟩
  rcases h4 with h4 | h4
  · exact .inl (h4.symm.trans hk)
  · rw [h4] at hk
    cases hk
    exact .inr (Nat.le_refl _)
set_option maxHeartbeats 1600000 in
set_option maxRecDepth 100000 in
theorem insp_nil {w : World} {x : Kv} {vb B : Nat} (hx : w.heap[vb]? = some (.cells #[.string x.k, .string x.v] 42 (0, 0))) (hB : B ≤ w.heap.size) :
    Calls Try.prog 40 #[.slice none 0 0, .int .i64 0, .slice (some ⟨vb, 0, none⟩) 1 1] w (RowTo15 RP B [x] (.slice none 0 0) w) := by
  obtain ⟨u, w', e1, e2⟩ := insp_run (l := []) (World.ownsRow_nil w B RP.tE RP.k) (by simp) hx hB
  have E1 := Lib.hid e1
  obtain ⟨R, hR⟩ : ∃ R, RowTo15 RP B [x] (.slice none 0 0) w = R := ⟨_, rfl⟩
  have HFIN : Hid (R (.returned u) w') := by rw [← hR]; exact e2
  rw [hR]
  clear e1 e2 hR hx
  go_enter Try.func40, Try.ntmps40
  go_wp2_with (at_builtin; refine wpList_app rfl (.tmp 23) (.tmp 24) 22 rfl rfl rfl E1.out ?_)
  exact HFIN.out
set_option maxHeartbeats 1600000 in
set_option maxRecDepth 100000 in
theorem insp_end {w : World} {g n cap B : Nat} {l : List Kv} (hn : l.length = n) (hown : w.ownsRow B RP.tE RP.k (.slice (some ⟨g, 0, none⟩) n cap) n (RP.enc l)) (hl : n < 1048576) {x : Kv} {vb : Nat} (hx : w.heap[vb]? = some (.cells #[.string x.k, .string x.v] 42 (0, 0))) (hB : B ≤ w.heap.size) :
    Calls Try.prog 40 #[.slice (some ⟨g, 0, none⟩) n cap, .int .i64 (n : Int), .slice (some ⟨vb, 0, none⟩) 1 1] w (RowTo15 RP B (l ++ [x]) (.slice (some ⟨g, 0, none⟩) n cap) w) := by
  obtain ⟨cur, -, hnc, hcm, -⟩ := Rec.own_block hown
  subst hn
  obtain ⟨u, w', e1, e2⟩ := insp_run hown hl hx hB
  have E1 := Lib.hid e1
  obtain ⟨R, hR⟩ : ∃ R, RowTo15 RP B (l ++ [x]) (.slice (some ⟨g, 0, none⟩) l.length cap) w = R := ⟨_, rfl⟩
  have HFIN : Hid (R (.returned u) w') := by rw [← hR]; exact e2
  rw [hR]
  clear e1 e2 hR hx hown
  generalize l.length = n at *
  have hmx : cap ≤ 9223372036854775807 := hcm
  have heq : ((n : Int) == (n : Int)) = true := by simp
  have hnc2 : (n : Int) ≤ (cap : Int) := by omega
  by_cases hcn : cap = n
  · subst hcn
    go_enter Try.func40, Try.ntmps40
    go_wp2_with (at_builtin; refine wpList_app rfl (.tmp 23) (.tmp 24) 22 rfl rfl rfl E1.out ?_)
    exact HFIN.out
  · go_enter Try.func40, Try.ntmps40
    go_wp2_with (at_builtin; refine wpList_app rfl (.tmp 23) (.tmp 24) 22 rfl rfl rfl E1.out ?_)
    exact HFIN.out
set_option maxHeartbeats 1600000 in
set_option maxRecDepth 100000 in
theorem insp_room {w : World} {g n cap B : Nat} {l : List Kv} (hn : l.length = n) (hown : w.ownsRow B RP.tE RP.k (.slice (some ⟨g, 0, none⟩) n cap) n (RP.enc l)) (hl : n < 1048576) {x : Kv} {vb : Nat} (hx : w.heap[vb]? = some (.cells #[.string x.k, .string x.v] 42 (0, 0)))
    (hne : vb ≠ g) (i : Nat) (hi : i < n) (hroom : n + 1 ≤ cap) :
    Calls Try.prog 40 #[.slice (some ⟨g, 0, none⟩) n cap, .int .i64 (i : Int), .slice (some ⟨vb, 0, none⟩) 1 1] w (RowTo15 RP B (l.take i ++ x :: l.drop i) (.slice (some ⟨g, 0, none⟩) n cap) w) := by
  obtain ⟨W1, W2, hcp1, hcp2, hown2, hgr⟩ := Rec.ins_room (R := RP) hn hown hx hne i hi hroom
  obtain ⟨cur, hb1, hb2, hb3, hb4, hb5, hB⟩ := Rec.own_block hown
  have hFIN : RowTo15 RP B (l.take i ++ x :: l.drop i) (.slice (some ⟨g, 0, none⟩) n cap) w (.returned (.slice (some ⟨g, 0, none⟩) (n + 1) cap)) W2 :=
    ⟨_, rfl, by rw [show (l.take i ++ x :: l.drop i).length = n + 1 by simp; omega]; exact hown2, hgr, fun k hk => .inl hk⟩
  obtain ⟨R, hR⟩ : ∃ R, RowTo15 RP B (l.take i ++ x :: l.drop i) (.slice (some ⟨g, 0, none⟩) n cap) w = R := ⟨_, rfl⟩
  rw [hR] at hFIN ⊢
  have hcs : cur.size = cap * 2 := hb4
  have hov : ∀ c, (callFunc 62 #[.slice (some ⟨vb, 0, none⟩) 1 1, .slice (some ⟨g, (i + 1) * 2, none⟩) (n - i) c]).run Try.prog w = .ok (.value (.bool false)) w := fun c => by
    rw [run_callFunc_extern Try.func62 (by kernel_rfl) (by kernel_rfl) (by kernel_rfl) (e := Extern.SlicesOverlaps.overlaps #[22, 22] #[4]) (by kernel_rfl),
      Lib.run_overlaps_apart w 22 4 42 Try.underlying22 2 Try.sizeOf42 ⟨vb, 0, none⟩ ⟨g, (i + 1) * 2, none⟩ 1 1 _ _ hne 42 42 2 cur.size (by simp [World.shape?, hx]) (by have h1 : w.heap[g]? = some (.cells cur 42 (0, 0)) := hb1; simp [World.shape?, h1]) (by omega) (by simp [World.frozen?, hx]) (by simp [World.frozen?, hx])]
    rfl
  have HOV := Lib.hid hov
  have HFIN := Lib.hid hFIN
  have HC1 : Hid (∀ ty dc sc, (Builtin.copy_ #[22, 22] ty #[.slice (some ⟨g, (i + 1) * 2, none⟩) (n - i) dc, .slice (some ⟨g, i * 2, none⟩) (n + 1 - i) sc]).run Try.prog w.drew = .ok (goInt (Nat.min (n + 1 - i) (n - i) : Nat)) W1) := hcp1
  have HC2 : Hid (∀ ty dc, (Builtin.copy_ #[22, 22] ty #[.slice (some ⟨g, i * 2, none⟩) (n + 1 - i) dc, .slice (some ⟨vb, 0, none⟩) 1 1]).run Try.prog W1 = .ok (goInt (Nat.min 1 (n + 1 - i) : Nat)) W2) := hcp2
  have hmx : cap ≤ 9223372036854775807 := hb3
  have hne1 : ((i : Int) == (n : Int)) = false := by simp; omega
  have hw1 : IntKind.i64.wrap ((i : Int) + 1) = (i : Int) + 1 := by rw [IntKind.wrap_i64]; omega
  have hw2 : IntKind.i64.wrap ((n : Int) + 1) = (n : Int) + 1 := by rw [IntKind.wrap_i64]; omega
  have ht1 : ((i : Int) + 1).toNat = i + 1 := by omega
  have ht2 : ((n : Int) + 1).toNat = n + 1 := by omega
  have hb0 : (0 : Int) ≤ (i : Int) + 1 := by omega
  have hbn : (0 : Int) ≤ (n : Int) + 1 := by omega
  have hcc : ¬ (cap : Int) < (n : Int) + 1 := by omega
  have hcc2 : (n : Int) + 1 ≤ (cap : Int) := by omega
  have hin : (i : Int) ≤ (n : Int) := by omega
  have hin1 : (i : Int) + 1 ≤ (n : Int) + 1 := by omega
  have hin2 : (i : Int) ≤ (n : Int) + 1 := by omega
  have hci : ¬ cap = i := by omega
  have hci1 : ¬ cap = i + 1 := by omega
  have hnc : (n : Int) ≤ (cap : Int) := by omega
  clear hov hFIN hcp1 hcp2 hx hown hb1 hb2 hb3 hb4 hb5 hR hgr hown2 hcs hB
  go_enter Try.func40, Try.ntmps40
  go_wp2
  rw [HOV.out]
  rw [Oper.upon_value]
  go_wp2
  go_region_law (refine step_copyL rfl (.tmp 73) (.tmp 76) 22 rfl (by simp [Act.eval, Act.put]) (by simp [Act.eval, Act.put]) (HC1.out 3 (cap - (i + 1)) (cap - i)) ?_)
  go_wp2
  rw [HC2.out]
  simp only [Result.andThen]
  rw [Oper.upon_value]
  go_wp2
  exact HFIN.out
set_option maxHeartbeats 1600000 in
set_option maxRecDepth 100000 in
theorem insp_grow {w : World} {g n B : Nat} {l : List Kv} (hn : l.length = n) (hown : w.ownsRow B RP.tE RP.k (.slice (some ⟨g, 0, none⟩) n n) n (RP.enc l)) (hl : n < 1048576) {x : Kv} {vb : Nat} (hx : w.heap[vb]? = some (.cells #[.string x.k, .string x.v] 42 (0, 0)))
    (i : Nat) (hi : i < n) (hB : B ≤ w.heap.size) :
    Calls Try.prog 40 #[.slice (some ⟨g, 0, none⟩) n n, .int .i64 (i : Int), .slice (some ⟨vb, 0, none⟩) 1 1] w (RowTo15 RP B (l.take i ++ x :: l.drop i) (.slice (some ⟨g, 0, none⟩) n n) w) := by
  obtain ⟨N, G, W0, W1, W2, hN, hGn, hGm, hrz, hcpA, hcpB, hown2, hgr, _⟩ := Rec.ins_grow (R := RP) hn hown hl hx i hi (tI := 3) Try.underlying3 hB
  obtain ⟨cur, hb1, hb2, hb3, hb4, hb5, _⟩ := Rec.own_block hown
  have hFIN : RowTo15 RP B (l.take i ++ x :: l.drop i) (.slice (some ⟨g, 0, none⟩) n n) w (.returned (.slice (some ⟨N, 0, none⟩) (n + 1) G)) W2 :=
    ⟨_, rfl, by rw [show (l.take i ++ x :: l.drop i).length = n + 1 by simp; omega]; exact hown2, hgr, fun k hk => .inr (by cases hk; exact Nat.le_of_eq hN.symm)⟩
  obtain ⟨R, hR⟩ : ∃ R, RowTo15 RP B (l.take i ++ x :: l.drop i) (.slice (some ⟨g, 0, none⟩) n n) w = R := ⟨_, rfl⟩
  rw [hR] at hFIN ⊢
  have HFIN := Lib.hid hFIN
  have HRZ : Hid (∀ ty, (Builtin.append_ #[22, 3] ty #[.slice (some ⟨g, 0, none⟩) i n, .int .i64 ((n : Int) + 1 - (i : Int))]).run Try.prog w = .ok (.slice (some ⟨N, 0, none⟩) (n + 1) G) W0) := hrz
  have HCA : Hid (∀ ty dc, (Builtin.copy_ #[22, 22] ty #[.slice (some ⟨N, i * 2, none⟩) (n + 1 - i) dc, .slice (some ⟨vb, 0, none⟩) 1 1]).run Try.prog W0 = .ok (goInt (Nat.min 1 (n + 1 - i) : Nat)) W1) := hcpA
  have HCB : Hid (∀ ty dc sc, (Builtin.copy_ #[22, 22] ty #[.slice (some ⟨N, (i + 1) * 2, none⟩) (n - i) dc, .slice (some ⟨g, i * 2, none⟩) (n - i) sc]).run Try.prog W1.drew = .ok (goInt (Nat.min (n - i) (n - i) : Nat)) W2) := hcpB
  have hmx : n ≤ 9223372036854775807 := hb3
  have hGx : G ≤ 9223372036854775807 := hGm
  have hne1 : ((i : Int) == (n : Int)) = false := by simp; omega
  have hw1 : IntKind.i64.wrap ((i : Int) + 1) = (i : Int) + 1 := by rw [IntKind.wrap_i64]; omega
  have hw2 : IntKind.i64.wrap ((n : Int) + 1) = (n : Int) + 1 := by rw [IntKind.wrap_i64]; omega
  have hw3 : IntKind.i64.wrap ((n : Int) + 1 - (i : Int)) = (n : Int) + 1 - (i : Int) := by rw [IntKind.wrap_i64]; omega
  have ht1 : ((i : Int) + 1).toNat = i + 1 := by omega
  have ht2 : ((n : Int) + 1).toNat = n + 1 := by omega
  have hp0 : (0 : Int) ≤ (i : Int) + 1 := by omega
  have hcc : (n : Int) < (n : Int) + 1 := by omega
  have hin : (i : Int) ≤ (n : Int) := by omega
  have hin1 : (i : Int) + 1 ≤ (n : Int) + 1 := by omega
  have hin2 : (i : Int) ≤ (n : Int) + 1 := by omega
  have hni : ¬ n = i := by omega
  have hGi : ¬ G = i := by omega
  have hGi1 : ¬ G = i + 1 := by omega
  clear hFIN hrz hcpA hcpB hx hown hb1 hb2 hb3 hb4 hb5 hR hGm hGn hN hown2 hgr hB
  go_enter Try.func40, Try.ntmps40
  go_wp2_with (at_builtin; refine Lib.wpList_append_run _ rfl _ _ _ _ rfl _ _ rfl rfl _ _ (HRZ.out _) ?_)
  rw [HCA.out]
  simp only [Result.andThen]
  rw [Oper.upon_value]
  go_wp2
  go_region_law (refine step_copyL rfl (.tmp 50) (.tmp 53) 22 rfl (by simp [Act.eval, Act.put]) (by simp [Act.eval, Act.put]) (HCB.out 3 (G - (i + 1)) (n - i)) ?_)
  go_wp2
  exact HFIN.out
/-- A pair put into a row, anywhere. -/
theorem insp_any {w : World} {v : Value} {l : List Kv} {x : Kv} {vb B : Nat} (hown : w.ownsRow B RP.tE RP.k v l.length (RP.enc l)) (hl : l.length < 1048576) (hx : w.heap[vb]? = some (.cells #[.string x.k, .string x.v] 42 (0, 0))) (hne : v.ownBlock ≠ some vb) (i : Nat) (hi : i ≤ l.length) (hB : B ≤ w.heap.size) :
    Calls Try.prog 40 #[v, .int .i64 (i : Int), .slice (some ⟨vb, 0, none⟩) 1 1] w (RowTo15 RP B (l.take i ++ x :: l.drop i) v w) := by
  rcases hown.2 with ⟨rfl, h0⟩ | ⟨g, cap, cur, rfl, hg, hh, hnc, hcm, _⟩
  · obtain rfl : l = [] := List.eq_nil_of_length_eq_zero h0
    obtain rfl : i = 0 := by simpa using hi
    exact insp_nil hx hB
  · rcases Nat.lt_or_ge i l.length with h1 | h1
    · by_cases hr : l.length + 1 ≤ cap
      · exact insp_room rfl hown hl hx (fun e => hne (by rw [e]; rfl)) i h1 hr
      · obtain rfl : cap = l.length := by omega
        exact insp_grow rfl hown hl hx i h1 hB
    · obtain rfl : i = l.length := by omega
      rw [List.take_length, List.drop_length]
      exact insp_end rfl hown hl hx hB

end Go.Proofs.Ytpmgnhijiodbaaa
