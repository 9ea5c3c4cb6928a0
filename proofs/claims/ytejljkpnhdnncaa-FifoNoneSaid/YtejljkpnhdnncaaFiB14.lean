/-
  Proved here: what the ring's all answers.
  Conditions: at most 4,095 places.
-/
import Derived.Test.YtejljkpnhdnncaaFiA14
import Derived.Test.YtejljkpnhdnncaaSame12
import Derived.Deep.RegionHeld3
namespace Go.Proofs.Ytejljkpnhdnncaa
open Go Go.RowKit
set_option maxRecDepth 100000

theorem madeL_list (n : Nat) : (madeCells (Value.agg #[.string ⟨#[]⟩, .int .u64 0, .int .u64 0, .int .i64 0, .int .i64 0]).cells (n * 5)).toList = encL (List.replicate n Ln.zero) := by
  have hz : (Value.agg #[.string ⟨#[]⟩, .int .u64 0, .int .u64 0, .int .i64 0, .int .i64 0]).cells = #[.string ⟨#[]⟩, .int .u64 0, .int .u64 0, .int .i64 0, .int .i64 0] := by kernel_rfl
  rw [hz]
  apply List.ext_getElem?
  intro j
  rcases Nat.lt_or_ge j (n * 5) with hj | hj
  · have h1 := encL_at (List.replicate n Ln.zero) [] (i := j / 5) (e := Ln.zero) (by rw [List.getElem?_replicate, if_pos (by omega)]) (j % 5) (by omega)
    rw [List.append_nil, show j / 5 * 5 + j % 5 = j by omega] at h1
    rw [h1]
    have hm : j % 5 < 5 := Nat.mod_lt _ (by omega)
    simp only [madeCells, Array.getElem?_toList, Array.getElem?_map, Array.getElem?_range, if_pos hj, Option.map_some]
    rw [show (#[Value.string { data := #[] }, Value.int IntKind.u64 0, Value.int IntKind.u64 0, Value.int IntKind.i64 0, Value.int IntKind.i64 0] : Array Value).size = 5 from rfl]
    generalize j % 5 = r at *
    match r, hm with
    | 0, _ => simp [Ln.cells, Ln.zero, Ln.str]
    | 1, _ => simp [Ln.cells, Ln.zero]
    | 2, _ => simp [Ln.cells, Ln.zero]
    | 3, _ => simp [Ln.cells, Ln.zero]
    | 4, _ => simp [Ln.cells, Ln.zero]
  · rw [List.getElem?_eq_none (by simp [madeCells]; exact hj), List.getElem?_eq_none (by rw [encL_len, List.length_replicate]; exact hj)]
/-- A new row of n zero links. -/
theorem madeL (w : World) (n : Nat) (hn : n ≤ 1048576) : ∃ w1, (Instr.makeSlice 22 (.int .i64 (n : Int)) (.int .i64 (n : Int))).run Try.prog w = .ok (.slice (some ⟨w.heap.size, 0, none⟩) n n) w1 ∧
    w1.ownsRow w.heap.size 29 5 (.slice (some ⟨w.heap.size, 0, none⟩) n n) n (encL (List.replicate n Ln.zero)) ∧ Below w.heap.size w w1 := by
  obtain ⟨i, hi, hz, hs, hy⟩ := link_info'
  obtain ⟨w1, h1, h2, h3⟩ := run_make_full (P := Try.prog) w w.heap.size 22 29 i _ 5 Try.underlying22 hi hz hs .i64 .i64 n (by rw [hy]; omega) (by unfold maxLen; omega) (Nat.le_refl _)
  rw [madeL_list] at h2
  exact ⟨w1, h1, h2, (Below.refl _ _).grown h3 (Nat.le_refl _) (fun k e => by cases e)⟩
/-- What All has told of the links L behind i rounds. -/
def outA (L : List Ln) (i : Nat) : List Ln := L.take i ++ List.replicate (L.length - i) Ln.zero
theorem outA_len (L : List Ln) {i : Nat} (h : i ≤ L.length) : (outA L i).length = L.length := by simp [outA]; omega
theorem outA_end (L : List Ln) : outA L L.length = L := by simp [outA]
theorem outA_set (L : List Ln) {i : Nat} {x : Ln} (h : L[i]? = some x) : (outA L i).set i x = outA L (i + 1) := by
  obtain ⟨hi, rfl⟩ := List.getElem?_eq_some_iff.1 h
  unfold outA
  rw [List.set_append_right _ _ (by simp; omega), show L.length - i = (L.length - (i + 1)) + 1 by omega, List.replicate_succ]
  simp only [List.length_take, Nat.min_eq_left (Nat.le_of_lt hi), Nat.sub_self, List.set_cons_zero]
  have e : L.take (i + 1) = L.take i ++ [L[i]] := by rw [List.take_add_one, List.getElem?_eq_getElem hi]; rfl
  rw [e, List.append_assoc]
  rfl
/-- What the ring's all leaves. -/
def AllN (L : List Ln) (w : World) (e : Ending) (w' : World) : Prop := ∃ g, e = .returned (.slice (some ⟨g, 0, none⟩) L.length L.length) ∧ w'.ownsRow w.heap.size 29 5 (.slice (some ⟨g, 0, none⟩) L.length L.length) L.length (encL L) ∧ Below w.heap.size w w'
set_option maxHeartbeats 3200000 in
set_option maxRecDepth 100000 in
theorem rall_any {w : World} {p f : Nat} {v : Value} {P L : List Ln} (h : Fi w p v f P L) : Calls Try.prog 19 #[.pointer (some ⟨p, 0, none⟩)] w (AllN L w) := by
  obtain ⟨g, hg⟩ : ∃ g, w.heap.size = g := ⟨_, rfl⟩
  obtain ⟨n, hn⟩ : ∃ n, L.length = n := ⟨_, rfl⟩
  have hnP : n ≤ P.length := by have := h.ring.fits; omega
  have hn5 : n ≤ 4095 := Nat.le_trans hnP h.small
  obtain ⟨w1, hmk, ho1, hb1⟩ := madeL w n (by omega)
  rw [hg] at hmk ho1 hb1
  obtain ⟨A, cap, rfl, _, _⟩ := h.reads
  obtain ⟨m, hm⟩ : ∃ m, P.length = m := ⟨_, rfl⟩
  obtain ⟨_, _, c2⟩ := h.cells
  rw [hn] at c2
  rw [hm] at h hnP
  have HF : Hid (∀ w', Below g w w' → Fi w' p (.slice A m cap) f P L) := fun w' hb => h.below (hg.symm ▸ hb)
  have HPG : Hid (p < g) := hg ▸ h.lt (.inl rfl)
  have HM := Lib.hid hm
  have HN := Lib.hid hn
  have HO1 : Hid (w1.ownsRow g 29 5 (.slice (some ⟨g, 0, none⟩) n n) n (encL (outA L 0))) := by
    show World.ownsRow _ _ _ _ _ _ _
    have : outA L 0 = List.replicate n Ln.zero := by simp [outA, hn]
    rw [this]
    exact ho1
  have HB1 := Lib.hid hb1
  have HEND : Hid (∀ w', w'.ownsRow g 29 5 (.slice (some ⟨g, 0, none⟩) n n) n (encL L) → Below g w w' → AllN L w (.returned (.slice (some ⟨g, 0, none⟩) n n)) w') := fun w' h1 h2 => ⟨g, by rw [hn], by rw [hn, hg]; exact h1, by rw [hg]; exact h2⟩
  have HM5 : Hid (m ≤ 4095) := hm ▸ h.small
  have HFL : Hid (0 < m → f < m) := fun h0 => hm ▸ h.ring.first_lt (by omega)
  have HAT := Lib.hid h.ring.at_
  have HBLT : Hid (∀ x, A = some x → x.block < g) := fun x hx => hg ▸ h.lt (.inr (by rw [hx]; rfl))
  obtain ⟨R, hR⟩ : ∃ R, AllN L w = R := ⟨_, rfl⟩
  rw [hR] at HEND ⊢
  have HOE := Lib.hid (outA_end L)
  have HOS := Lib.hid (fun i x => @outA_set L i x)
  have HOL := Lib.hid (fun i => @outA_len L i)
  generalize outA L = O at *
  clear h hg hm hb1 ho1 hR
  go_enter Try.func19, Try.ntmps19
  go_wp2
  go_loopg [12, 4] n (fun gk s12 s4 wx => ∃ (i : Nat) (V : Value), i + gk = n ∧ s12 = .int .i64 i ∧ V = s4 ∧ Hid (wx.ownsRow g 29 5 (.slice (some ⟨g, 0, none⟩) n n) n (encL (O i))) ∧ Hid (Below g w wx))
  case atStart => exact ⟨0, _, by omega, rfl, rfl, HO1, HB1⟩
  case round =>
    obtain ⟨i, V, hin, rfl, rfl, HO, HB⟩ := hrel
    cases gk with
    | zero =>
      obtain rfl : i = n := by omega
      have hii : ¬ (i : Int) < (i : Int) := by omega
      go_wp2
      exact HEND.out _ (by have h1 := HO.out; rw [← HN.out, HOE.out] at h1; rw [← HN.out]; exact h1) HB.out
    | succ gk =>
      have hii : (i : Int) < (n : Int) := by omega
      have hFw := HF.out wr HB.out
      obtain ⟨c0, c1, _⟩ := hFw.cells
      have hlt : i < L.length := by have := HN.out; omega
      have hx := HAT.out i _ (List.getElem?_eq_getElem hlt)
      have hxL := List.getElem?_eq_getElem hlt
      generalize L[i] = x at *
      rw [HM.out] at hx
      obtain ⟨r, hr⟩ : ∃ r, (f + i) % m = r := ⟨_, rfl⟩
      have hm0 : 0 < m := by omega
      have hrm : r < m := by rw [← hr]; exact Nat.mod_lt _ hm0
      rw [hr] at hx
      have HC := Lib.hid (place_of (w := wr.drew) (i := i) c0 c1 hm0 HM5.out (HFL.out hm0) (by omega))
      rw [hr] at HC
      have c0d : wr.drew.cell? ⟨p, 0, none⟩ = some (.slice A m cap) := c0
      have hri : (r : Int) < (m : Int) := by omega
      have hrd := hFw.reads
      rw [HM.out] at hrd
      obtain ⟨A2, cap2, e2, _, hrow⟩ := hrd
      cases e2
      obtain ⟨b, off, rfl, hbg, d0, d1, d2, d3, d4⟩ := hrow.at_ hx
      have hOi : i < (O i).length := by rw [HOL.out i (by omega)]; exact hlt
      have hin5 : i * 5 + 4 < n * 5 := by omega
      have HCE : Hid (∀ w2 : World, w2.heap[g]? = wr.heap[g]? → ∀ j, j < 5 → ∃ u, w2.cell? ⟨g, i * 5 + j, none⟩ = some u) := fun w2 hw2 j hj => by
        rw [World.cell?_of_block (w := wr) (a := ⟨g, i * 5 + j, none⟩) hw2, HO.out.cellAt (i * 5 + j) (by omega)]
        have : i * 5 + j < (encL (O i)).length := by rw [encL_len]; omega
        exact ⟨_, List.getElem?_eq_getElem this⟩
      have HFR : Hid (∀ w2 : World, w2.ownsRow g 29 5 (.slice (some ⟨g, 0, none⟩) n n) n (encL (O i)) → ∀ j, w2.frozen? ⟨g, j, none⟩ = false) := fun w2 h2 j => h2.frozenAt j
      have HGW : Hid (g < wr.heap.size) := by have := (HO.out.lt g rfl).2; exact this
      have HPW : Hid (p < wr.heap.size) := Nat.lt_of_lt_of_le HPG.out (Nat.le_of_lt HGW.out)
      have HS : Hid (∀ w2 : World, w2.ownsRow g 29 5 (.slice (some ⟨g, 0, none⟩) n n) n (encL (O i)) → (((((w2.setCell ⟨g, i * 5, none⟩ (.string x.str)).setCell ⟨g, i * 5 + 1, none⟩ (.int .u64 (x.id : Nat))).setCell ⟨g, i * 5 + 2, none⟩ (.int .u64 (x.ver : Nat))).setCell ⟨g, i * 5 + 3, none⟩ (.int .i64 x.line)).setCell ⟨g, i * 5 + 4, none⟩ (.int .i64 x.cl)).ownsRow g 29 5 (.slice (some ⟨g, 0, none⟩) n n) n (encL (O (i + 1)))) := fun w2 h2 => by
        have s0 := h2.stored (i * 5) (.string x.str)
        have s1 := s0.1.stored (i * 5 + 1) (.int .u64 (x.id : Nat))
        have s2 := s1.1.stored (i * 5 + 2) (.int .u64 (x.ver : Nat))
        have s3 := s2.1.stored (i * 5 + 3) (.int .i64 x.line)
        have s4 := s3.1.stored (i * 5 + 4) (.int .i64 x.cl)
        have e := s4.1
        rwa [encL_set (O i) _ x hOi, HOS.out i x hxL] at e
      have HBG : Hid (b < wr.heap.size) := hbg
      have hgp : g ≠ p := by have := HPG.out; omega
      have hgb' : g ≠ b := by have h1 := HBLT.out _ rfl; have h2 : b < g := h1; omega
      clear hFw hx hxL hrow hr hOi hbg hlt
      generalize x.str = x0 at *
      generalize (x.id : Int) = x1 at *
      generalize (x.ver : Int) = x2 at *
      generalize x.line = x3 at *
      generalize x.cl = x4 at *
      go_wp2
      go_region_held3 (fun w' => w'.cell? ⟨p, 0, none⟩ = some (.slice (some ⟨b, off, none⟩) m cap) ∧ w'.cell? ⟨b, off + r * 5, none⟩ = some (.string x0) ∧ w'.cell? ⟨b, off + r * 5 + 1, none⟩ = some (.int .u64 x1) ∧ w'.cell? ⟨b, off + r * 5 + 2, none⟩ = some (.int .u64 x2) ∧ w'.cell? ⟨b, off + r * 5 + 3, none⟩ = some (.int .i64 x3) ∧ w'.cell? ⟨b, off + r * 5 + 4, none⟩ = some (.int .i64 x4)) (go_keep)
        (first
          | (go_at_call 20; refine HC.out.mono ?_; rintro e w2 ⟨rfl, k, hk⟩; have hb2 : Below wr.heap.size wr w2 := (by rw [hk]; exact below_drewN ((Below.refl _ _).drew) k); clear hk; have e1 : w2.cell? ⟨p, 0, none⟩ = some (.slice (some ⟨b, off, none⟩) m cap) := (hb2.cell (p := ⟨p, 0, none⟩) HPW.out).trans c0; have HB2 := Lib.hid hb2; have hO2 := own_same HO.out (fun k hk => by cases hk; exact hb2.block g HGW.out); have HO2 := Lib.hid hO2; have s0 := (hb2.cell (p := ⟨b, off + r * 5, none⟩) HBG.out).trans d0; have s1 := (hb2.cell (p := ⟨b, off + r * 5 + 1, none⟩) HBG.out).trans d1; have s2 := (hb2.cell (p := ⟨b, off + r * 5 + 2, none⟩) HBG.out).trans d2; have s3 := (hb2.cell (p := ⟨b, off + r * 5 + 3, none⟩) HBG.out).trans d3; have s4 := (hb2.cell (p := ⟨b, off + r * 5 + 4, none⟩) HBG.out).trans d4; have hgb := hb2.block g HGW.out; obtain ⟨u0, t0⟩ := HCE.out w2 hgb 0 (by omega); obtain ⟨u1, t1⟩ := HCE.out w2 hgb 1 (by omega); obtain ⟨u2, t2⟩ := HCE.out w2 hgb 2 (by omega); obtain ⟨u3, t3⟩ := HCE.out w2 hgb 3 (by omega); obtain ⟨u4, t4⟩ := HCE.out w2 hgb 4 (by omega); have f0 := HFR.out w2 hO2 (i * 5); have f1 := HFR.out w2 hO2 (i * 5 + 1); have f2 := HFR.out w2 hO2 (i * 5 + 2); have f3 := HFR.out w2 hO2 (i * 5 + 3); have f4 := HFR.out w2 hO2 (i * 5 + 4); rw [Nat.add_zero] at t0; clear hb2 hgb hO2))
      go_wp2
      go_roundg gk
      case measure => omega
      case rel => exact ⟨i + 1, _, by omega, by go_num, rfl, HS.out _ HO2.out, below_set5 (HB.out.trans (HB2.out.mono (Nat.le_of_lt HGW.out))) (Nat.le_refl _) _ _ _ _ _ _⟩

end Go.Proofs.Ytejljkpnhdnncaa
