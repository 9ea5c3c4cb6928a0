/-
  Proved here: what the statements' own alike answers where a pool and chapter 7's own hold the same.
  Conditions: none.
-/
import Derived.Test.YtjebpggoajfjkaaRef7D
import Derived.Deep.RegionWith
namespace Go.Proofs.Ytjebpggoajfjkaa
open Go Go.RowKit

set_option maxHeartbeats 800000 in
/-- What OverTaken leaves: all but the row's own block. -/
theorem overt_sp (w : World) (B n : Nat) (v : Value) (r : List Tk) (hr : r.length = n) (hn : n < 67108864) (h : w.ownsRow B 52 2 v n (encT r)) (hB : B ≤ w.heap.size) :
    Calls Try.prog 47 #[v] w fun e w' => e = .returned (.tuple #[]) ∧ Below B w w' ∧ ∀ k, k < w.heap.size → v.ownBlock ≠ some k → w'.heap[k]? = w.heap[k]? := by
  rcases h.2 with ⟨rfl, h0⟩ | ⟨g, cap, cur, rfl, hg, _⟩
  · obtain ⟨V', w', hrun, _, hb', _, hk'⟩ := run_appT_one w B (.slice none 0 0) [] (-8) 0 (World.ownsRow_nil _ _ _ _) (by simp) hB
    have HRUN : Hid (Sem.run Try.prog (Builtin.append_ #[47, 47] 47 #[.slice none 0 0, .slice (some ⟨w.heap.size, 0, none⟩) 1 1]) (w.alloc (.cells #[.int .i64 (-8), .int .i64 0] 52)) = .ok V' w') := hrun
    have HB' := Lib.hid hb'
    have HK' := Lib.hid hk'
    clear hrun hb' h hr h0 hk'
    go_enter Try.func47, Try.ntmps47
    go_wp2
    go_loopg [2] 0 (fun gk s2 wx => gk = 0 ∧ s2 = .int .i64 0 ∧ w = wx)
    case atStart => exact ⟨rfl, rfl, rfl⟩
    case round =>
      obtain ⟨rfl, rfl, rfl⟩ := hrel
      go_wp2_with (at_builtin; refine wpList_app rfl (.tmp 13) (.tmp 15) 47 rfl rfl rfl HRUN.out ?_)
      refine bodyPost_end (results_none rfl _ _ _) rfl ?_
      exact ⟨rfl, HB'.out, HK'.out⟩
  · have HO0 := Lib.hid h
    have HR := Lib.hid hr
    have HFIN : Hid (∀ w', Below B w w' → (∀ k, k < w.heap.size → g ≠ k → w'.heap[k]? = w.heap[k]?) → Below B w w' ∧ ∀ k, k < w.heap.size → (Value.slice (some ⟨g, 0, none⟩) n cap).ownBlock ≠ some k → w'.heap[k]? = w.heap[k]?) := fun w' a b => ⟨a, fun k hk hne => b k hk (fun e => hne (by rw [e]; rfl))⟩
    obtain ⟨R, hR⟩ : ∃ R : World → Prop, R = fun w' => Below B w w' ∧ ∀ k, k < w.heap.size → (Value.slice (some ⟨g, 0, none⟩) n cap).ownBlock ≠ some k → w'.heap[k]? = w.heap[k]? := ⟨_, rfl⟩
    have HFI2 : Hid (∀ w', Below B w w' → (∀ k, k < w.heap.size → g ≠ k → w'.heap[k]? = w.heap[k]?) → R w') := fun w' a b => by rw [hR]; exact HFIN.out w' a b
    show Calls _ _ _ _ fun e w' => e = .returned (.tuple #[]) ∧ (fun w' => Below B w w' ∧ ∀ k, k < w.heap.size → (Value.slice (some ⟨g, 0, none⟩) n cap).ownBlock ≠ some k → w'.heap[k]? = w.heap[k]?) w'
    rw [← hR]
    clear h hr HFIN hR
    go_enter Try.func47, Try.ntmps47
    go_wp2
    go_loopg [2] n (fun gk s2 wx => ∃ (i : Nat) (q : List Tk), i + gk = n ∧ s2 = .int .i64 i ∧ Hid (q.length = n) ∧ Hid (wx.ownsRow B 52 2 (.slice (some ⟨g, 0, none⟩) n cap) n (encT q)) ∧ Hid (Below B w wx) ∧ Hid (∀ k, k < w.heap.size → g ≠ k → wx.heap[k]? = w.heap[k]?))
    case atStart => exact ⟨0, r, by omega, rfl, HR, HO0, Below.refl _ _, fun k _ _ => rfl⟩
    case round =>
      obtain ⟨i, q, hin, rfl, HQ, HO, HW, HK⟩ := hrel
      cases gk with
      | zero =>
        obtain rfl : i = n := by omega
        have hii : ¬ (i : Int) < (i : Int) := by omega
        obtain ⟨V', w', hrun, _, hb', _, hk'⟩ := run_appT_one wr B (.slice (some ⟨g, 0, none⟩) i cap) q (-8) 0 (by rw [HQ.out]; exact HO.out) (by have := HQ.out; omega) (Nat.le_trans hB HW.out.size)
        have HRUN : Hid (Sem.run Try.prog (Builtin.append_ #[47, 47] 47 #[.slice (some ⟨g, 0, none⟩) i cap, .slice (some ⟨wr.heap.size, 0, none⟩) 1 1]) (wr.alloc (.cells #[.int .i64 (-8), .int .i64 0] 52)) = .ok V' w') := hrun
        have HB' : Hid (Below B w w') := HW.out.trans hb'
        have HK' : Hid (∀ k, k < w.heap.size → g ≠ k → w'.heap[k]? = w.heap[k]?) := fun k hk hne => (hk' k (Nat.lt_of_lt_of_le hk HW.out.size) (fun e => hne (by simpa [Value.ownBlock] using e))).trans (HK.out k hk hne)
        clear hrun hb' hk'
        go_wp2_with (at_builtin; refine wpList_app rfl (.tmp 13) (.tmp 15) 47 rfl rfl rfl HRUN.out ?_)
        refine bodyPost_end (results_none rfl _ _ _) rfl ?_
        exact ⟨rfl, HFI2.out _ HB'.out HK'.out⟩
      | succ gk =>
        have hii : (i : Int) < (n : Int) := by omega
        have hil : i < q.length := by have := HQ.out; omega
        obtain ⟨e1, e2⟩ := encT_at (List.getElem?_eq_getElem hil)
        have hcell := HO.out.cellAt (i * 2) (by omega)
        rw [e1] at hcell
        have hcell2 := HO.out.cellAt (i * 2 + 1) (by omega)
        rw [e2] at hcell2
        have hfr := HO.out.frozenAt (i * 2)
        have hfr2 := HO.out.frozenAt (i * 2 + 1)
        have hst := (HO.out.stored (i * 2) (.int .i64 (-9))).1
        have hst2 := (hst.stored (i * 2 + 1) (.int .i64 (-9))).1
        rw [encT_set hil] at hst2
        have HST := Lib.hid hst2
        have HQ2 : Hid ((q.set i (-9, -9)).length = n) := by show _ = _; rw [List.length_set]; exact HQ.out
        have HWB : Hid (Below B w ((wr.setCell ⟨g, i * 2, none⟩ (.int .i64 (-9))).setCell ⟨g, i * 2 + 1, none⟩ (.int .i64 (-9)))) := (HW.out.setCell hg _).setCell hg _
        have HK2 : Hid (∀ k, k < w.heap.size → g ≠ k → ((wr.setCell ⟨g, i * 2, none⟩ (.int .i64 (-9))).setCell ⟨g, i * 2 + 1, none⟩ (.int .i64 (-9))).heap[k]? = w.heap[k]?) := fun k hk hne => by
          rw [Below.heap_setCell _ _ _ _ (by simpa using fun e => hne e.symm), Below.heap_setCell _ _ _ _ (by simpa using fun e => hne e.symm)]
          exact HK.out k hk hne
        clear hst hst2 e1 e2
        go_wp2
        go_roundg gk
        case measure => omega
        case rel => exact ⟨i + 1, _, by omega, by go_num, HQ2, HST, HWB, HK2⟩
theorem own_same {w w' : World} {base size n : Nat} {e : TypeId} {v : Value} {xs : List Value} (h : w.ownsRow base e size v n xs) (hk : ∀ k, v.ownBlock = some k → w'.heap[k]? = w.heap[k]?) : w'.ownsRow base e size v n xs := by
  refine ⟨h.1, h.2.imp id fun ⟨g, cap, cur, h1, h2, h3, h4⟩ => ⟨g, cap, cur, h1, h2, (hk g (by rw [h1]; rfl)).trans h3, h4⟩⟩
theorem free_nocls (n : Nat) (L : List Tk) {c : Int} (hc : ¬ (0 ≤ c ∧ c ≤ 3)) : freeL n L c = [] := free_all fun j _ => by
  unfold freeAt
  split
  · rw [startsN_none (spanN_none (by omega))]
    rfl
  · rfl
set_option maxHeartbeats 4000000 in
set_option maxRecDepth 100000 in
theorem alike_any {w : World} {p q r lo n : Nat} {L : List Tk} (h : PlP w p q n L) (hr : Rf w r lo n L) : Calls Try.prog 23 #[.pointer (some ⟨p, 0, none⟩), .pointer (some ⟨r, 0, none⟩)] w fun e w' => e = .returned (.bool true) ∧ Below w.heap.size w w' := by
  have hlen : L.length ≤ 256 := by have := pool_len h.pool; have := h.most; omega
  have hn := h.most
  have HPL : Hid (∀ wx, Below w.heap.size w wx → PlP wx p q n L) := fun wx hb => h.below hb
  have HRF : Hid (∀ wx, Below w.heap.size w wx → Rf wx r lo n L) := fun wx hb => hr.below hb
  obtain ⟨A, cap, hrd⟩ := hr.reads
  have HRD : Hid (∀ wx, Below w.heap.size w wx → wx.cell? ⟨r, 1, none⟩ = some (.slice A L.length cap)) := fun wx hb => (hrd wx hb).2.1
  have HRT : Hid (∀ wx, Below w.heap.size w wx → RowT wx A L) := fun wx hb => by
    obtain ⟨_, A2, cap2, hc2, hr2⟩ := (hr.below hb).cells
    rw [(hrd wx hb).2.1] at hc2
    injection hc2 with hc2
    injection hc2 with e1 _ _
    rw [e1]
    exact hr2
  obtain ⟨g, hg⟩ : ∃ g, w.heap.size = g := ⟨_, rfl⟩
  rw [hg] at HPL HRF HRD HRT ⊢
  have HG := Lib.hid hg
  have HT1 := Lib.hid (taken_any h)
  unfold RowToT at HT1
  rw [hg] at HT1
  obtain ⟨m, hm⟩ : ∃ m, L.length = m := ⟨_, rfl⟩
  rw [hm] at hlen HRD HT1
  have HM := Lib.hid hm
  clear h hr hrd hg hm
  go_enter Try.func23, Try.ntmps23
  go_wp2_with fail
  refine HT1.out.mono ?_
  rintro e v1 ⟨V1, rfl, ho1, hb1⟩
  have HO1 := Lib.hid ho1
  have HB1 := Lib.hid hb1
  clear ho1 hb1
  go_wp2_with fail
  refine (slabs_all (HPL.out v1 HB1.out)).mono ?_
  rintro e v2 ⟨V2, rfl, ho2, hb2⟩
  have HGS1 : Hid (g ≤ v1.heap.size) := by have := HB1.out.size; have := HG.out; show g ≤ v1.heap.size; omega
  have HB2 : Hid (Below g w v2) := HB1.out.trans (hb2.mono HGS1.out)
  have HO1b := Lib.hid (own_keep HO1.out hb2)
  have HO2 := Lib.hid ho2
  obtain ⟨A1, c1, rfl, hr1, _, _⟩ := (rowT_of_own HO1b.out (by have := HM.out; omega)).2
  obtain ⟨A2, c2, rfl, hr2, _, _⟩ := rowI_of_own HO2.out (by rw [slabsL_len]; omega)
  have HR1 := Lib.hid hr1
  have HR2 := Lib.hid hr2
  have hc1 := HRD.out v2 HB2.out
  have HNB : Hid (∀ k, (Value.slice A2 (slabsL n L).length c2).ownBlock = some k → (Value.slice A1 m c1).ownBlock ≠ some k) := fun k hk e => by
    have h1 := own_ge HO2.out k hk
    have h2 := own_lt HO1.out e
    omega
  have HS12 : Hid (v1.heap.size ≤ v2.heap.size) := hb2.size
  rw [slabsL_len] at HNB HO2 ⊢
  clear ho2 hb2 hr1 hr2
  go_wp2_with fail
  refine (samet_any v2 A1 A m c1 cap L HM.out HR1.out (HRT.out v2 HB2.out)).mono ?_
  rintro e v3 ⟨rfl, k3, rfl⟩
  have HB3 : Hid (Below g w (v2.drewN k3)) := below_drewN HB2.out k3
  go_wp2_with fail
  refine (rslabs_all (HRF.out _ HB3.out)).mono ?_
  rintro e v4 ⟨V4, rfl, ho4, hb4⟩
  replace hb4 : Below v2.heap.size v2 v4 := (below_drewN (Below.refl _ _) k3).trans hb4
  obtain ⟨A4, c4, rfl, hr4, _, _⟩ := rowI_of_own ho4 (by rw [slabsL_len]; omega)
  have HR4 := Lib.hid hr4
  have HR24 : Hid (RowI v4 A2 (slabsL n L)) := HR2.out.below hb4
  have HGS2 : Hid (g ≤ v2.heap.size) := by have := HB2.out.size; have := HG.out; show g ≤ v2.heap.size; omega
  have HB4 : Hid (Below g w v4) := HB2.out.trans (hb4.mono HGS2.out)
  have HO14 : Hid (v4.ownsRow g 52 2 (.slice A1 m c1) m (encT L)) := own_keep (w := v2) HO1b.out hb4
  have HO24 : Hid (v4.ownsRow v1.heap.size 3 1 (.slice A2 n c2) n (encI (slabsL n L))) := own_keep (w := v2) HO2.out hb4
  have HS24 : Hid (v2.heap.size ≤ v4.heap.size) := hb4.size
  rw [slabsL_len]
  clear ho4 hb4 hr4
  go_wp2_with fail
  refine (samei_any v4 A2 A4 n c2 c4 (slabsL n L) (slabsL_len n L) HR24.out HR4.out).mono ?_
  rintro e v5 ⟨rfl, k5, rfl⟩
  go_wp2_with fail
  refine (overt_sp (v4.drewN k5) g m (.slice A1 m c1) L HM.out (by omega) HO14.out (by have h1 := HB4.out.size; have h2 := HG.out; show g ≤ v4.heap.size; omega)).mono ?_
  rintro e v6 ⟨rfl, hb6, hk6⟩
  have HB6 : Hid (Below g w v6) := (below_drewN HB4.out k5).trans hb6
  have HO26 : Hid (v6.ownsRow v1.heap.size 3 1 (.slice A2 n c2) n (encI (slabsL n L))) := own_same HO24.out fun k hk => hk6 k (own_lt HO24.out hk) (HNB.out k hk)
  have HS6 : Hid (v1.heap.size ≤ v6.heap.size) := by
    have h1 : v4.heap.size ≤ v6.heap.size := hb6.size
    have h2 := HS24.out
    have h3 := HS12.out
    show v1.heap.size ≤ v6.heap.size
    omega
  clear hb6 hk6
  go_wp2_with fail
  refine (overi_any v6 v1.heap.size n (.slice A2 n c2) (slabsL n L) (slabsL_len n L) (by omega) HO26.out HS6.out).mono ?_
  rintro e v7 ⟨rfl, hb7⟩
  have HB7 : Hid (Below g w v7) := HB6.out.trans (hb7.mono HGS1.out)
  clear hb7 hc1
  clear HO26 HO24 HO14 HR24 HR4 HR1 HR2 HO1 HO1b HO2 HNB HS24 HS12 HS6 HB6 HB4 HB3 HB2 HB1 HGS1 HGS2
  go_wp2
  go_loopg [7] 6 (fun gk s7 wx => ∃ z : Int, z + (gk : Int) = 5 ∧ -1 ≤ z ∧ s7 = .int .i64 z ∧ Hid (Below g w wx))
  case atStart => exact ⟨-1, by omega, by omega, rfl, HB7⟩
  case round =>
    obtain ⟨z, hzg, hz1, rfl, HW⟩ := hrel
    have HGW : Hid (g ≤ wr.heap.size) := by have := HW.out.size; have := HG.out; show g ≤ wr.heap.size; omega
    cases gk with
    | zero =>
      obtain rfl : z = 5 := by omega
      have HPr := Lib.hid ((HPL.out wr HW.out).drew)
      have HTK : Hid (Calls Try.prog 25 #[.pointer (some ⟨p, 0, none⟩)] wr.drew fun e w' => ∃ A1 c1, e = .returned (.slice A1 m c1) ∧ Below g w w' ∧ RowT w' A1 L) := (taken_any HPr.out).mono fun e w' hh => by
        obtain ⟨v, rfl, ho, hb⟩ := hh
        obtain ⟨_, A1, c1, rfl, hr1, _, _⟩ := rowT_of_own ho (by have := HM.out; omega)
        rw [HM.out]
        exact ⟨A1, c1, rfl, HW.out.trans ((Below.refl _ _).drew.trans (hb.mono HGW.out)), hr1⟩
      have HSM : Hid (∀ w' A1 c1, Below g w w' → RowT w' A1 L → Calls Try.prog 32 #[.slice A1 m c1, .slice A m cap] w' fun e w2 => e = .returned (.bool true) ∧ Below g w w2) := fun w' A1 c1 hb hr1 => (samet_any w' A1 A m c1 cap L HM.out hr1 (HRT.out w' hb)).mono fun e w2 hh => by
        obtain ⟨rfl, k, rfl⟩ := hh
        exact ⟨rfl, below_drewN hb k⟩
      have hc1 := HRD.out wr HW.out
      clear hzg hz1
      go_wp2
      go_region_with ((first | (go_at_call 25; refine HTK.out.mono ?_; rintro e v8 ⟨A8, c8, rfl, hb8, hr8⟩; have HB8 := Lib.hid hb8; have HR8 := Lib.hid hr8; have hc8 := HRD.out v8 hb8; clear hb8 hr8) | (go_at_call 32; refine (HSM.out _ _ _ HB8.out HR8.out).mono ?_; rintro e v9 ⟨rfl, hb9⟩; have HB9 := Lib.hid hb9; clear hb9)))
      all_goals
        go_wp2
        go_ret
        exact ⟨rfl, HB9.out⟩
    | succ gk =>
      have hz4 : z ≤ 4 := by omega
      have hz5 : z < 5 := by omega
      have HFR := Lib.hid (free_any (HPL.out wr HW.out) z)
      unfold RowTo7 at HFR
      have hfl := freeL_le n L z
      rcases Classical.em (0 ≤ z ∧ z ≤ 3) with hc | hc
      · obtain ⟨hc0, hc3⟩ := hc
        have hc4 : z < 4 := by omega
        go_wp2_with fail
        refine HFR.out.mono ?_
        rintro e w1 ⟨v, rfl, ho1, hb1⟩
        obtain ⟨A1, c1, rfl, hr1, _, _⟩ := rowI_of_own ho1 (by omega)
        have HB1 : Hid (Below g w w1) := HW.out.trans (hb1.mono HGW.out)
        have HO1 := Lib.hid ho1
        have HR1 := Lib.hid hr1
        have HGW1 : Hid (wr.heap.size ≤ w1.heap.size) := hb1.size
        clear ho1 hb1 hr1
        go_wp2_with fail
        refine (rfree_any (HRF.out w1 HB1.out) z).mono ?_
        rintro e w2 ⟨v, rfl, ho2, hb2⟩
        obtain ⟨A2, c2, rfl, hr2, _, _⟩ := rowI_of_own ho2 (by omega)
        have HB2 : Hid (Below g w w2) := HB1.out.trans (hb2.mono (Nat.le_trans HGW.out HGW1.out))
        have HO12 := Lib.hid (own_keep HO1.out hb2)
        have HR12 : Hid (RowI w2 A1 (freeL n L z)) := HR1.out.below hb2
        have HR2 := Lib.hid hr2
        have HGW2 : Hid (wr.heap.size ≤ w2.heap.size) := Nat.le_trans HGW1.out hb2.size
        clear ho2 hb2 hr2 HO1 HR1
        obtain ⟨f, hf⟩ : ∃ f, (freeL n L z).length = f := ⟨_, rfl⟩
        rw [hf] at HO12 hfl ⊢
        have HF := Lib.hid hf
        clear hf
        go_wp2_with fail
        refine (samei_any w2 A1 A2 f c1 c2 _ HF.out HR12.out HR2.out).mono ?_
        rintro e w3 ⟨rfl, k3, rfl⟩
        have HB3 : Hid (Below g w (w2.drewN k3)) := below_drewN HB2.out k3
        go_wp2_with fail
        refine (room_any (HPL.out _ HB3.out) z).mono ?_
        rintro e w4 ⟨rfl, hb4⟩
        replace hb4 : Below w2.heap.size w2 w4 := (below_drewN (Below.refl _ _) k3).trans hb4
        have HB4 : Hid (Below g w w4) := HB2.out.trans (hb4.mono (Nat.le_trans HGW.out HGW2.out))
        have HO14 : Hid (w4.ownsRow wr.heap.size 3 1 (.slice A1 f c1) f (encI (freeL n L z))) := own_keep (w := w2) HO12.out hb4
        have HGW4 : Hid (wr.heap.size ≤ w4.heap.size) := Nat.le_trans HGW2.out hb4.size
        clear hb4
        go_wp2_with fail
        refine (rroom_any (HRF.out _ HB4.out) z).mono ?_
        rintro e w5 ⟨rfl, hb5⟩
        have HB5 : Hid (Below g w w5) := HB4.out.trans (hb5.mono (Nat.le_trans HGW.out HGW4.out))
        have HO15 : Hid (w5.ownsRow wr.heap.size 3 1 (.slice A1 f c1) f (encI (freeL n L z))) := own_keep HO14.out hb5
        have HGW5 : Hid (wr.heap.size ≤ w5.heap.size) := Nat.le_trans HGW4.out hb5.size
        clear hb5
        generalize roomB n L z = rb at *
        have hrb : (rb != rb) = false := by simp
        go_wp2_with fail
        refine (overi_any w5 wr.heap.size f (.slice A1 f c1) (freeL n L z) HF.out (by omega) HO15.out HGW5.out).mono ?_
        rintro e w6 ⟨rfl, hb6⟩
        have HB6 : Hid (Below g w w6) := HB5.out.trans (hb6.mono HGW.out)
        clear hb6
        go_wp2
        go_roundg gk
        case measure => omega
        case rel => exact ⟨z + 1, by omega, by omega, rfl, HB6⟩
      · have he := free_nocls n L hc
        have HE := Lib.hid he
        rw [he] at HFR
        have hw : decide (0 ≤ z) = false ∨ (decide (0 ≤ z) = true ∧ decide (z < 4) = false) := by
          rcases Classical.em (0 ≤ z) with h0 | h0
          · exact .inr ⟨decide_eq_true h0, decide_eq_false (by omega)⟩
          · exact .inl (decide_eq_false h0)
        have hz : z = -1 ∨ z = 4 := by omega
        clear hc he hfl hw hz4 hz5 hz1
        rcases hz with rfl | rfl
        all_goals
          go_wp2_with fail
          refine HFR.out.mono ?_
          rintro e w1 ⟨v, rfl, ho1, hb1⟩
          obtain ⟨A1, c1, rfl, hr1, _, _⟩ := rowI_of_own ho1 (by simp)
          have HB1 : Hid (Below g w w1) := HW.out.trans (hb1.mono HGW.out)
          have HO1 : Hid (w1.ownsRow wr.heap.size 3 1 (.slice A1 0 c1) 0 (encI [])) := ho1
          have HR1 := Lib.hid hr1
          have HGW1 : Hid (wr.heap.size ≤ w1.heap.size) := hb1.size
          simp only [List.length_nil]
          clear ho1 hb1 hr1
          go_wp2_with fail
          refine (samei_any w1 A1 none 0 c1 0 [] rfl HR1.out (rowI_nil _ _)).mono ?_
          rintro e w3 ⟨rfl, k3, rfl⟩
          have HB3 : Hid (Below g w (w1.drewN k3)) := below_drewN HB1.out k3
          go_wp2_with fail
          refine (room_any (HPL.out _ HB3.out) _).mono ?_
          rintro e w4 ⟨rfl, hb4⟩
          replace hb4 : Below w1.heap.size w1 w4 := (below_drewN (Below.refl _ _) k3).trans hb4
          have HB4 : Hid (Below g w w4) := HB1.out.trans (hb4.mono (Nat.le_trans HGW.out HGW1.out))
          have HO14 : Hid (w4.ownsRow wr.heap.size 3 1 (.slice A1 0 c1) 0 (encI [])) := own_keep (w := w1) HO1.out hb4
          have HGW4 : Hid (wr.heap.size ≤ w4.heap.size) := Nat.le_trans HGW1.out hb4.size
          clear hb4
          go_wp2_with fail
          refine (rroom_any (HRF.out _ HB4.out) _).mono ?_
          rintro e w5 ⟨rfl, hb5⟩
          have HB5 : Hid (Below g w w5) := HB4.out.trans (hb5.mono (Nat.le_trans HGW.out HGW4.out))
          have HO15 : Hid (w5.ownsRow wr.heap.size 3 1 (.slice A1 0 c1) 0 (encI [])) := own_keep HO14.out hb5
          have HGW5 : Hid (wr.heap.size ≤ w5.heap.size) := Nat.le_trans HGW4.out hb5.size
          clear hb5
          generalize roomB n L _ = rb at *
          have hrb : (rb != rb) = false := by simp
          go_wp2_with fail
          refine (overi_any w5 wr.heap.size 0 (.slice A1 0 c1) [] rfl (by omega) HO15.out HGW5.out).mono ?_
          rintro e w6 ⟨rfl, hb6⟩
          have HB6 : Hid (Below g w w6) := HB5.out.trans (hb6.mono HGW.out)
          clear hb6
          go_wp2
          go_roundg gk
          case measure => omega
          case rel => exact ⟨_, by omega, by omega, rfl, HB6⟩

end Go.Proofs.Ytjebpggoajfjkaa
