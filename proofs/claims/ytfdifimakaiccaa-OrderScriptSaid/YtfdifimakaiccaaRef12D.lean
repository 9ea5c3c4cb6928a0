/-
  Proved here: what chapter 12's own Drop answers and leaves.
  Conditions: fewer than 2^20 links.
-/
import Derived.Test.YtfdifimakaiccaaRef12B
import Derived.Test.YtfdifimakaiccaaRef12C
namespace Go.Proofs.Ytfdifimakaiccaa
open Go Go.RowKit
set_option maxRecDepth 100000

theorem Rt.cell {w : World} {p lo q : Nat} {L : List Ln} (h : Rt w p lo q L) : ∃ v, w.cell? ⟨p, 0, none⟩ = some v := by
  obtain ⟨v, hm, _⟩ := h.mem
  exact ⟨v, by simp [World.cell?, hm]⟩
/-- The table told of a row made in between: what it leaves. -/
theorem rtTo_of {w w4 w5 w7 : World} {p lo q g : Nat} {L L' : List Ln} {v : Value} (h : Rt w p lo q L) (hg : w.heap.size = g) (hlo : lo ≤ g) (h4 : Below g w w4) (hg4 : g < w4.heap.size) (h5 : Below w4.heap.size w4 w5) (ho : w5.ownsRow w4.heap.size 33 5 v L'.length (encL L')) (hl : L'.length ≤ 1048576)
    (h7 : Turns g g (w5.setCell ⟨p, 0, none⟩ v) w7) : RtTo w p lo q L' w7 := by
  have h4r := h.below (hg.symm ▸ h4)
  obtain ⟨q', k1, k2, k3⟩ := Rt.fresh h4r h5 ho hl (by omega)
  have hp : p < g := hg ▸ h.lt_p
  have h7' : Stay (fun k => k = g) (w5.setCell ⟨p, 0, none⟩ v) w7 := ⟨h7.os, h7.tape, h7.output, h7.size, fun k hk hl => h7.block k hk hk hl⟩
  refine ⟨q', k1.stay h7' (by omega) (by rcases k3 with e | e <;> omega), Stay.new ((Stay.of_below (hg.symm ▸ h4)).trans k2) h7' (fun i hi => .inr (by omega)), ?_⟩
  rcases k3 with e | e
  · exact .inl e
  · exact .inr (.inr (by omega))
set_option maxHeartbeats 1600000 in
set_option maxRecDepth 100000 in
theorem r12drop_any {w : World} {p lo q : Nat} {L : List Ln} (h : Rt w p lo q L) (hlo : lo ≤ w.heap.size) (hl : L.length < 1048576) (s : ByteArray) :
    Calls Try.prog 14 #[.pointer (some ⟨p, 0, none⟩), .string s] w fun e w' => e = .returned (.tuple #[(linkT L s.data.toList).agg, .bool (hasT L s.data.toList)]) ∧ RtTo w p lo q (dropT L s.data.toList) w' := by
  obtain ⟨g, hg⟩ : ∃ g, w.heap.size = g := ⟨_, rfl⟩
  have HG := Lib.hid hg
  obtain ⟨R, hR⟩ : ∃ R, RtTo w p lo q (dropT L s.data.toList) = R := ⟨_, rfl⟩
  have HGET : Hid (∀ w1, Below g w w1 → Calls Try.prog 25 #[.pointer (some ⟨p, 0, none⟩), .string s] w1 fun e w' => e = .returned (.tuple #[.agg #[.string (linkT L s.data.toList).str, .int .u64 ((linkT L s.data.toList).id : Nat), .int .u64 ((linkT L s.data.toList).ver : Nat), .int .i64 (linkT L s.data.toList).line, .int .i64 (linkT L s.data.toList).cl], .bool (hasT L s.data.toList)]) ∧ Below w1.heap.size w1 w') := fun w1 hb => r12get_any (h.below (hg.symm ▸ hb)) s
  obtain ⟨A, cap, -, -, hrd⟩ := h.reads
  have HRC : Hid (∀ w4, Below g w w4 → w4.cell? ⟨p, 0, none⟩ = some (.slice A L.length cap) ∧ w4.frozen? ⟨p, 0, none⟩ = false) := fun w4 hb => ⟨(hrd w4 (hg.symm ▸ hb)).1, (h.below (hg.symm ▸ hb)).frozen⟩
  have HWO : Hid (∀ w4, Below g w w4 → Calls Try.prog 26 #[.slice A L.length cap, .string s] w4 (WoTo L s.data.toList w4)) := fun w4 hb => without_any L.length cap rfl (hrd w4 (hg.symm ▸ hb)).2 hl s
  have HFIN : Hid (∀ w4 w5 v, Below g w w4 → g < w4.heap.size → Below w4.heap.size w4 w5 → w5.ownsRow w4.heap.size 33 5 v (dropT L s.data.toList).length (encL (dropT L s.data.toList)) → ∀ w7, Turns g g (w5.setCell ⟨p, 0, none⟩ v) w7 → R w7) := fun w4 w5 v h4 hg4 h5 ho w7 h7 => by
    rw [← hR]
    have hdl : (dropT L s.data.toList).length ≤ L.length := List.length_filter_le _ _
    exact rtTo_of h hg (hg ▸ hlo) h4 hg4 h5 ho (by omega) h7
  have HLP : Hid (p < g) := hg ▸ h.lt_p
  have HDL : Hid ((dropT L s.data.toList).length ≤ 1048576) := Nat.le_trans (List.length_filter_le _ _) (Nat.le_of_lt hl)
  have HZ := Lib.hid zero_link
  obtain ⟨x, hx⟩ : ∃ x, linkT L s.data.toList = x := ⟨_, rfl⟩
  rw [hx] at HGET ⊢
  rw [hR]
  have HEB : Hid (∀ (w' : World) (g : Nat), w'.heap[g]? = some (.cells #[.string x.str, .int .u64 (x.id : Nat), .int .u64 (x.ver : Nat), .int .i64 x.line, .int .i64 x.cl] 33 (0, 0)) → LBox w' g x) := fun w' g h => h
  obtain ⟨V, hV⟩ : ∃ V, V = x.agg := ⟨_, rfl⟩
  have HV := Lib.hid hV
  rw [← hV]
  unfold WoTo at HWO
  generalize hasT L s.data.toList = hb at *
  generalize dropT L s.data.toList = L' at *
  generalize L.length = n at *
  generalize x.str = x0 at *
  generalize (x.id : Int) = x1 at *
  generalize (x.ver : Int) = x2 at *
  generalize x.line = x3 at *
  generalize x.cl = x4 at *
  clear h hx hV hg hR hrd
  go_enter Try.func14, Try.ntmps14
  go_wp2_with (first
    | ((with_reducible show wpList _ _ _ (⟨some 4, .alloc _, _, _, _, _⟩ :: _) _ _); refine wpList_alloc_var (o := ⟨some 4, _, _, _, _, _⟩) rfl 33 rfl g HG.out _ HZ.out ?_; intro w1 H1 B1)
    | fail)
  refine (HGET.out w1 B1.out).mono ?_
  rintro e w2 ⟨rfl, hb2⟩
  have hlt1 := lt_of_heap H1.out
  have HB2 : Hid (Below g w w2) := B1.out.trans (hb2.mono (by omega))
  have H2 := Lib.hid ((hb2.block g hlt1).trans H1.out)
  obtain ⟨g2, hg2⟩ : ∃ g2, w2.heap.size = g2 := ⟨_, rfl⟩
  have HG2 := Lib.hid hg2
  have HL2 : Hid (g < g2) := hg2 ▸ lt_of_heap H2.out
  clear hb2 hlt1 hg2
  go_wp2_with (first
    | ((with_reducible show wpList _ _ _ (⟨some 6, .alloc _, _, _, _, _⟩ :: _) _ _); refine wpList_alloc_var (o := ⟨some 6, _, _, _, _, _⟩) rfl 33 rfl g2 HG2.out _ HZ.out ?_; intro w3 H3 B3)
    | (((with_reducible show wpList _ _ _ (⟨none, .store _ (.tmp 6) _, _, _, _, _⟩ :: _) _ _); refine wpList_store_whole (o := ⟨none, .store 33 (.tmp 6) (.tmp 12), _, _, _, _⟩) rfl _ _ _ rfl rfl g2 #[.string x0, .int .u64 x1, .int .u64 x2, .int .i64 x3, .int .i64 x4] rfl rfl 33 _ H3.out size_link rfl (onesL _ _ _ _ _) ?_; intro w4 H4 B4); have HB4 : Hid (Below g w w4) := HB2.out.trans ((B3.out.trans B4.out).mono (Nat.le_of_lt HL2.out)); obtain ⟨k0, -⟩ := HRC.out w4 HB4.out)
    | fail)
  have HO4 := Lib.hid ((B4.out.block g HL2.out).trans ((B3.out.block g HL2.out).trans H2.out))
  have HS4 : Hid (g < w4.heap.size) := lt_of_heap HO4.out
  refine (HWO.out w4 HB4.out).mono ?_
  rintro e w5 ⟨v, rfl, ho5, hb5⟩
  obtain ⟨-, A2, cap2, rfl, -⟩ := rowL_of_own ho5 HDL.out
  have H5 := Lib.hid ((hb5.block g2 (lt_of_heap H4.out)).trans H4.out)
  have HO5 := Lib.hid ((hb5.block g HS4.out).trans HO4.out)
  have HB5 : Hid (Below g w w5) := HB4.out.trans (hb5.mono (Nat.le_of_lt HS4.out))
  obtain ⟨k1, k2⟩ := HRC.out w5 HB5.out
  have HF := Lib.hid (HFIN.out w4 w5 _ HB4.out HS4.out hb5 ho5)
  obtain ⟨w6, hw6⟩ : ∃ w6, w5.setCell ⟨p, 0, none⟩ (.slice A2 L'.length cap2) = w6 := ⟨_, rfl⟩
  rw [hw6] at HF
  have hpg : p ≠ g := Nat.ne_of_lt HLP.out
  have hpg2 : p ≠ g2 := Nat.ne_of_lt (Nat.lt_trans HLP.out HL2.out)
  have H6 : Hid (w6.heap[g2]? = some (.cells #[.string x0, .int .u64 x1, .int .u64 x2, .int .i64 x3, .int .i64 x4] 33 (0, 0))) := by rw [← hw6]; exact (Below.heap_setCell _ _ _ _ (fun e => hpg2 e.symm)).trans H5.out
  have HO6 : Hid (w6.heap[g]? = some (.cells #[.string ⟨#[]⟩, .int .u64 0, .int .u64 0, .int .i64 0, .int .i64 0] 33 (0, 0))) := by rw [← hw6]; exact (Below.heap_setCell _ _ _ _ (fun e => hpg e.symm)).trans HO5.out
  obtain ⟨c0, c1, c2, c3, c4⟩ := cellsL H6.out
  clear ho5 hb5 hpg hpg2
  go_wp2_with (first
    | ((with_reducible show wpList _ _ _ (⟨none, .store _ (.tmp 4) _, _, _, _, _⟩ :: _) _ _); refine wpList_store_only (o := ⟨none, .store 33 (.tmp 4) (.tmp 23), _, _, _, _⟩) rfl _ _ _ rfl rfl g #[.string x0, .int .u64 x1, .int .u64 x2, .int .i64 x3, .int .i64 x4] rfl rfl 33 _ HO6.out size_link rfl (onesL _ _ _ _ _) ?_; intro w7 H7 B7)
    | fail)
  exact bodyPost_ret (results_l2 rfl rfl rfl (HEB.out _ _ H7.out)) rfl ⟨by rw [HV.out]; rfl, HF.out _ B7.out⟩

end Go.Proofs.Ytfdifimakaiccaa
