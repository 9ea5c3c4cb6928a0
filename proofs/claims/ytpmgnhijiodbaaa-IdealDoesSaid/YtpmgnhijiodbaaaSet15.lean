/-
  Proved here: what set leaves of a store.
  Conditions: less than 10^6 pairs and texts.
-/
import Derived.Test.YtpmgnhijiodbaaaEff15
import Derived.Deep.RegionWith
namespace Go.Proofs.Ytpmgnhijiodbaaa
open Go Go.RowKit
set_option maxRecDepth 100000

theorem encP_setv (L : List Kv) (i : Nat) (hi : i < L.length) (v : ByteArray) : (RP.enc L).set (i * 2 + 1) (.string v) = RP.enc (L.set i ⟨(L[i]).k, v⟩) := by
  induction L generalizing i with
  | nil => simp at hi
  | cons a L ih =>
    cases i with
    | zero => rfl
    | succ i =>
      have h := ih i (by simpa using hi)
      rw [Rec.enc_cons, List.set_cons_succ, Rec.enc_cons, List.getElem_cons_succ, ← h]
      have ha : (RP.cells a).length = 2 := rfl
      rw [List.set_append_right _ _ (by omega), ha, show (i + 1) * 2 + 1 - 2 = i * 2 + 1 by omega]
section
variable {w : World} {p : Nat} {v1 v2 : Value} {L : List Kv} {Q : List ByteArray}
/-- The pairs' row written over where it lies. -/
theorem Shm.over (h : Shm w p v1 v2 L Q) {a : World} {L' : List Kv} (hl : L'.length = L.length) (h1 : a.ownsRow 0 RP.tE RP.k v1 L'.length (RP.enc L')) (h2 : Stay (fun k => v1.ownBlock = some k) w a) : ShTo w p v1 v2 L' Q a :=
  ⟨v1, v2, ⟨(h2.block p h.ne1 (h.lt (.inl rfl))).trans h.mem, h1, own_same h.o2 (fun k hk => h2.block k (fun e => h.ne3 k e hk) (h.lt (.inr (.inr hk)))), h.ne1, h.ne2, h.ne3, by rw [hl]; exact h.l1, h.l2⟩, h2.mono (fun k _ e => .inr (.inl e)), fun k hk => .inl hk⟩
end
theorem fIdx_has (L : List Kv) (s : ByteArray) : (fIdx (eqKv s) L = -1 ∧ hasK L s = false) ∨ (∃ i : Nat, fIdx (eqKv s) L = i ∧ i < L.length ∧ hasK L s = true ∧ i = L.findIdx (eqKv s)) := by
  unfold fIdx hasK
  cases h : L.any (eqKv s) with
  | false => exact .inl ⟨rfl, rfl⟩
  | true =>
    obtain ⟨x, hx, hp⟩ := List.any_eq_true.1 h
    exact .inr ⟨_, rfl, List.findIdx_lt_length_of_exists ⟨x, hx, hp⟩, rfl, rfl⟩
theorem setK_yes {L : List Kv} {s v : ByteArray} {i : Nat} (h : hasK L s = true) (hi : i = L.findIdx (eqKv s)) (hl : i < L.length) : setK L s v = L.set i ⟨(L[i]).k, v⟩ := by
  subst hi
  unfold setK
  rw [if_pos h]
  simp only [List.getD, List.getElem?_eq_getElem hl, Option.getD_some]
theorem setK_no {L : List Kv} {s v : ByteArray} (h : hasK L s = false) : setK L s v = L.take (L.findIdx (gtKv s)) ++ ⟨s, v⟩ :: L.drop (L.findIdx (gtKv s)) := by
  unfold setK
  rw [if_neg (by rw [h]; decide)]
theorem fIdx_gt (L : List Kv) (s : ByteArray) : (fIdx (gtKv s) L = -1 ∧ L.findIdx (gtKv s) = L.length) ∨ (∃ i : Nat, fIdx (gtKv s) L = i ∧ L.findIdx (gtKv s) = i ∧ i < L.length) := by
  unfold fIdx
  cases h : L.any (gtKv s) with
  | false =>
    refine .inl ⟨rfl, ?_⟩
    rw [List.findIdx_eq_length]
    intro x hx
    simpa using List.any_eq_false.1 h x hx
  | true =>
    obtain ⟨x, hx, hp⟩ := List.any_eq_true.1 h
    exact .inr ⟨_, rfl, rfl, List.findIdx_lt_length_of_exists ⟨x, hx, hp⟩⟩
theorem setK_len (L : List Kv) (s v : ByteArray) : (setK L s v).length ≤ L.length + 1 := by
  unfold setK
  split
  · simp
  · simp
    have := List.findIdx_le_length (p := gtKv s) (xs := L)
    omega
set_option maxHeartbeats 3200000 in
theorem set15_any {w : World} {p : Nat} {v1 v2 : Value} {L : List Kv} {Q : List ByteArray} (h : Shm w p v1 v2 L Q) (hl : L.length + 1 < 1000000) (s v : ByteArray) : Calls Try.prog 18 #[.pointer (some ⟨p, 0, none⟩), .string s, .string v] w fun e w' => e = .returned (.bool (hasK L s)) ∧ ShTo w p v1 v2 (setK L s v) Q w' := by
  obtain ⟨g, hg⟩ : ∃ g, w.heap.size = g := ⟨_, rfl⟩
  obtain ⟨w1, hw1⟩ : ∃ w1, w.alloc (.cells #[.string s] 9) = w1 := ⟨_, rfl⟩
  have HX : Hid (w1.heap[g]? = some (.cells #[.string s] 9 (0, 0))) := by rw [← hw1, ← hg]; exact heap_alloc_new w _
  have HB : Hid (Below g w w1) := by rw [← hw1, ← hg]; exact (Below.refl _ _).alloc (Nat.le_refl _) _
  have h1 := h.below (hg ▸ HB.out)
  have hlt : ∀ k, shOwn p v1 v2 k → k < g := fun k hk => hg ▸ h.lt hk
  obtain ⟨A, c1, _, _, f1, _, g1, g2, _, _, hrow, -, hA0, -⟩ := h1.forms
  have HGL : Hid (g < w1.heap.size) := lt_of_heap HX.out
  have HFI : Hid (∀ W, Below w1.heap.size w1 W → Calls Try.prog 33 #[v1, .string s] W fun e w' => e = .returned (.int .i64 (fIdx (eqKv s) L)) ∧ Below W.heap.size W w') := fun W hW => by
    rw [f1]
    exact findp_any L.length c1 rfl (hrow.below hW) s
  have HGT : Hid (∀ W, Below w1.heap.size w1 W → Calls Try.prog 38 #[v1, .func (.func 39) #[] #[.pointer (some ⟨g, 0, none⟩)]] W fun e w' => e = .returned (.int .i64 (fIdx (gtKv s) L)) ∧ Below W.heap.size W w') := fun W hW => by
    rw [f1]
    have hXW := (hW.block g HGL.out).trans HX.out
    exact idxp_any L.length c1 rfl (hrow.below hW) 39 #[.pointer (some ⟨g, 0, none⟩)] #[] (gtKv s) rfl (enters_of Try.func39 (by kernel_rfl) rfl) (fun W2 hW2 x _ => set1_15 x s g W2 (Nat.lt_of_lt_of_le (lt_of_heap hXW) hW2.size) (cells1 ((hW2.block g (lt_of_heap hXW)).trans hXW)))
  have HS : Hid (∀ W, Below w1.heap.size w1 W → W.cell? ⟨p, 0, none⟩ = some v1 ∧ W.cell? ⟨g, 0, none⟩ = some (.string s)) := fun W hW =>
    ⟨(cells2 ((h1.below hW).mem)).1, cells1 ((hW.block g HGL.out).trans HX.out)⟩
  have HAH : Hid (∀ W L' Q', ShTo w1 p v1 v2 L' Q' W → ShTo w p v1 v2 L' Q' W) := fun W L' Q' hh => ShTo.ahead (hg ▸ HB.out) hh
  have H1 := Lib.hid h1
  have HLT := Lib.hid hlt
  have HLM : Hid (L.length + 1 < 1000000) := hl
  have hpg : p < g := hlt p (.inl rfl)
  have hpne : ¬ p = g := by omega
  obtain ⟨B1, hB1⟩ : ∃ B1, w1.heap.size = B1 := ⟨_, rfl⟩
  have HB1 := Lib.hid hB1
  rw [hB1] at HFI HGT HS HGL
  obtain ⟨s0, s1⟩ := HS.out w1 (Below.refl _ _)
  obtain ⟨t0, t1⟩ := HS.out w1.drew (Below.refl _ _).drew
  rcases fIdx_has L s with ⟨e1, e2⟩ | ⟨i, e1, hi, e2, e3⟩
  · rw [e1] at HFI
    rw [e2, setK_no e2]
    obtain ⟨at_, hat⟩ : ∃ a, L.findIdx (gtKv s) = a := ⟨_, rfl⟩
    have hatl : at_ ≤ L.length := by rw [← hat]; exact List.findIdx_le_length
    rw [hat]
    obtain ⟨R, hR⟩ : ∃ R, ShTo w p v1 v2 (L.take at_ ++ ⟨s, v⟩ :: L.drop at_) Q = R := ⟨_, rfl⟩
    rw [hR]
    have HLN : Hid ((L.take at_ ++ (⟨s, v⟩ : Kv) :: L.drop at_).length = L.length + 1) := by
      show _ = _
      simp
      omega
    have HINS : Hid (∀ W, Below B1 w1 W → Calls Try.prog 40 #[v1, .int .i64 (at_ : Int), .slice (some ⟨W.heap.size, 0, none⟩) 1 1] (W.alloc (.cells #[.string s, .string v] 42)) fun e w' => ∃ A2 n2 c2, e = .returned (.slice A2 n2 c2) ∧ (w'.cell? ⟨p, 0, none⟩ = some v1 ∧ w'.cell? ⟨g, 0, none⟩ = some (.string s)) ∧ w'.frozen? ⟨p, 0, none⟩ = false ∧ R (w'.setCell ⟨p, 0, none⟩ (.slice A2 n2 c2))) := fun W hW => by
      obtain ⟨W2, hW2⟩ : ∃ W2, W.alloc (.cells #[.string s, .string v] 42) = W2 := ⟨_, rfl⟩
      have hb2 : Below B1 w1 W2 := by rw [← hW2]; exact hW.alloc (by have := hW.size; have := HB1.out; omega) _
      have hvb : W2.heap[W.heap.size]? = some (.cells #[.string s, .string v] 42 (0, 0)) := by rw [← hW2]; exact heap_alloc_new W _
      have hh := H1.out.below (HB1.out.symm ▸ hb2)
      have hBW : B1 ≤ W.heap.size := by have := hW.size; have := HB1.out; omega
      rw [hW2]
      refine (insp_any (x := ⟨s, v⟩) (B := 0) hh.o1 (by have := hh.l1; omega) hvb (fun e => by have := HLT.out _ (.inr (.inl e)); have := HGL.out; omega) at_ hatl (Nat.zero_le _)).mono ?_
      rintro e w3 ⟨u, rfl, k1, k2, k3⟩
      obtain ⟨_, A2, c2, rfl, -⟩ := Rec.row_of_own k1 (by rw [HLN.out]; have := HLM.out; omega)
      have hm := (k2.block p (hh.lt (.inl rfl)) (Ne.symm hh.ne1)).trans hh.mem
      have hm2 := (k2.block g (Nat.lt_of_lt_of_le HGL.out (by have := hb2.size; have := HB1.out; omega)) (fun e => by have := HLT.out _ (.inr (.inl e.symm)); omega)).trans ((hb2.block g HGL.out).trans HX.out)
      refine ⟨A2, _, c2, rfl, ⟨(cells2 hm).1, cells1 hm2⟩, by simp [World.frozen?, hm], ?_⟩
      rw [← hR]
      exact HAH.out _ _ _ (ShTo.ahead (HB1.out.symm ▸ hb2) (hh.pairs (by rw [HLN.out]; exact HLM.out) k1 (Stay.of_grown k2) k3))
    have hLm : L.length ≤ 1000000 := by have := HLM.out; omega
    have hatI : (at_ : Int) ≤ (L.length : Int) := by omega
    have hgt2 := fIdx_gt L s
    rw [hat] at hgt2
    clear hR hrow h h1 hlt e1 e2 H1 HLT HAH HX hat HLN
    subst f1
    rcases hgt2 with ⟨f1, f2⟩ | ⟨j, f1, f2, f3⟩
    · rw [f1] at HGT
      have f2' : (L.length : Int) = (at_ : Int) := by omega
      generalize L.length = n at *
      subst f2
      go_enter Try.func18, Try.ntmps18
      go_wp2
      clear hw1 hg hB1 s0 s1
      go_region_held3 (fun w' => w'.cell? ⟨p, 0, none⟩ = some (.slice A at_ c1) ∧ w'.cell? ⟨g, 0, none⟩ = some (.string s)) (go_keep)
        (first
          | (go_at_call 33; refine (HFI.out _ (Below.refl _ _).drew).mono ?_; rintro e w2 ⟨rfl, hb2⟩; have HB2 : Hid (Below B1 w1 w2) := (Below.refl _ _).drew.trans (hb2.mono (Nat.le_of_eq HB1.out.symm)); clear hb2; obtain ⟨r0, r1⟩ := HS.out w2 HB2.out))
      go_wp2_with (go_at_call 38; refine (HGT.out _ HB2.out).mono ?_; rintro e w4 ⟨rfl, hb4⟩; have HB4 : Hid (Below B1 w1 w4) := HB2.out.trans (hb4.mono (by have := HB2.out.size; have := HB1.out; omega)); clear hb4; obtain ⟨x0, x1⟩ := HS.out w4 HB4.out)
      have HD4 : Hid (Below B1 w1 w4.drew) := HB4.out.drew
      have HIN4 := Lib.hid (HINS.out w4.drew HD4.out)
      have hp4 : p < w4.heap.size := World.block_lt_of_cell? _ _ x0
      have hg4 : g < w4.heap.size := World.block_lt_of_cell? _ _ x1
      have hpn4 : ¬ p = w4.heap.size := by omega
      have hgn4 : ¬ g = w4.heap.size := by omega
      go_region_with (go_at_call 40; refine HIN4.out.mono ?_; rintro e w5 ⟨A2, n2, c2, rfl, ⟨y0, y1⟩, yf, hfin⟩; have HF := Lib.hid hfin; clear hfin)
      all_goals
        go_wp2
        go_ret
        exact ⟨rfl, HF.out⟩
    · rw [f1] at HGT
      subst f2
      generalize L.length = n at *
      go_enter Try.func18, Try.ntmps18
      go_wp2
      clear hw1 hg hB1 s0 s1
      go_region_held3 (fun w' => w'.cell? ⟨p, 0, none⟩ = some (.slice A n c1) ∧ w'.cell? ⟨g, 0, none⟩ = some (.string s)) (go_keep)
        (first
          | (go_at_call 33; refine (HFI.out _ (Below.refl _ _).drew).mono ?_; rintro e w2 ⟨rfl, hb2⟩; have HB2 : Hid (Below B1 w1 w2) := (Below.refl _ _).drew.trans (hb2.mono (Nat.le_of_eq HB1.out.symm)); clear hb2; obtain ⟨r0, r1⟩ := HS.out w2 HB2.out))
      go_wp2_with (go_at_call 38; refine (HGT.out _ HB2.out).mono ?_; rintro e w4 ⟨rfl, hb4⟩; have HB4 : Hid (Below B1 w1 w4) := HB2.out.trans (hb4.mono (by have := HB2.out.size; have := HB1.out; omega)); clear hb4; obtain ⟨x0, x1⟩ := HS.out w4 HB4.out)
      have HD4 : Hid (Below B1 w1 w4.drew) := HB4.out.drew
      have HIN4 := Lib.hid (HINS.out w4.drew HD4.out)
      have hp4 : p < w4.heap.size := World.block_lt_of_cell? _ _ x0
      have hg4 : g < w4.heap.size := World.block_lt_of_cell? _ _ x1
      have hpn4 : ¬ p = w4.heap.size := by omega
      have hgn4 : ¬ g = w4.heap.size := by omega
      go_region_with (go_at_call 40; refine HIN4.out.mono ?_; rintro e w5 ⟨A2, n2, c2, rfl, ⟨y0, y1⟩, yf, hfin⟩; have HF := Lib.hid hfin; clear hfin)
      all_goals
        go_wp2
        go_ret
        exact ⟨rfl, HF.out⟩
  · rw [e1] at HFI
    rw [e2, setK_yes e2 e3 hi]
    have hA : ∃ b, A = some ⟨b, 0, none⟩ := by
      have ho := h1.o1
      rw [f1] at ho
      rcases ho.2 with ⟨e, e0⟩ | ⟨b, cap, cur, e, _⟩
      · omega
      · cases e
        exact ⟨b, rfl⟩
    obtain ⟨b, rfl⟩ := hA
    subst f1
    obtain ⟨R, hR⟩ : ∃ R, ShTo w p (.slice (some ⟨b, 0, none⟩) L.length c1) v2 (L.set i ⟨(L[i]).k, v⟩) Q = R := ⟨_, rfl⟩
    rw [hR]
    have HFIN : Hid (∀ W, Below B1 w1 W → (∃ u, W.cell? ⟨b, i * 2 + 1, none⟩ = some u) ∧ W.frozen? ⟨b, i * 2 + 1, none⟩ = false ∧ R (W.setCell ⟨b, i * 2 + 1, none⟩ (.string v))) := fun W hW => by
      have hh := H1.out.below (HB1.out.symm ▸ hW)
      obtain ⟨cur, k1, k2, k3, k4, k5, _⟩ := Rec.own_block hh.o1
      have k4' : cur.size = c1 * 2 := k4
      refine ⟨Option.isSome_iff_exists.1 (cell_some k1 (by omega)), by simp [World.frozen?, k1], ?_⟩
      rw [← hR]
      refine HAH.out _ _ _ (ShTo.ahead (HB1.out.symm ▸ hW) (hh.over (by simp) ?_ (Stay.setCell W b _ _ rfl)))
      have hst := (hh.o1.stored (i * 2 + 1) (.string v)).1
      rw [encP_setv L i hi v] at hst
      rw [List.length_set]
      exact hst
    have hin : (i : Int) < (L.length : Int) := by omega
    have hi0 : (0 : Int) ≤ (i : Int) := by omega
    clear hR hrow h h1 hlt e1 e2 e3 H1 HLT HAH HGT HX
    generalize L.length = n at *
    go_enter Try.func18, Try.ntmps18
    go_wp2
    clear hw1 hg hB1 s0 s1
    go_region_held3 (fun w' => w'.cell? ⟨p, 0, none⟩ = some (.slice (some ⟨b, 0, none⟩) n c1) ∧ w'.cell? ⟨g, 0, none⟩ = some (.string s)) (go_keep)
      (first
        | (go_at_call 33; refine (HFI.out _ (Below.refl _ _).drew).mono ?_; rintro e w2 ⟨rfl, hb2⟩; have HB2 : Hid (Below B1 w1 w2) := (Below.refl _ _).drew.trans (hb2.mono (Nat.le_of_eq HB1.out.symm)); clear hb2; obtain ⟨r0, r1⟩ := HS.out w2 HB2.out; obtain ⟨⟨u, hu⟩, hf, hfin⟩ := HFIN.out w2 HB2.out; have HF := Lib.hid hfin; clear hfin))
    go_wp2
    go_ret
    exact ⟨rfl, HF.out⟩

end Go.Proofs.Ytpmgnhijiodbaaa
