/-
  Proved here: what a pop leaves of a list with links.
  Conditions: at most 4,095 places.
-/
import Derived.Test.YtejljkpnhdnncaaFiF14
namespace Go.Proofs.Ytejljkpnhdnncaa
open Go Go.RowKit
set_option maxRecDepth 100000

set_option maxHeartbeats 3200000 in
set_option maxRecDepth 100000 in
theorem rpop_yes {w : World} {p f : Nat} {v : Value} {P L : List Ln} {x : Ln} (h : Fi w p v f P (x :: L)) : Calls Try.prog 17 #[.pointer (some ⟨p, 0, none⟩)] w fun e w' => e = .returned (hdV (x :: L)) ∧ FiTo w p v L w' := by
  obtain ⟨R, hR⟩ : ∃ R : Ending → World → Prop, (fun e w' => e = .returned (hdV (x :: L)) ∧ FiTo w p v L w') = R := ⟨_, rfl⟩
  rw [hR]
  obtain ⟨g, hg⟩ : ∃ g, w.heap.size = g := ⟨_, rfl⟩
  obtain ⟨n, hn⟩ : ∃ n, L.length = n := ⟨_, rfl⟩
  obtain ⟨m, hm⟩ : ∃ m, P.length = m := ⟨_, rfl⟩
  have hfm := h.ring.head.1
  rw [hm] at hfm
  obtain ⟨b, cap, rfl⟩ := own_where h.row (by omega)
  rw [hm] at h hR
  have hmc : m ≤ cap ∧ cap ≤ maxLen := by
    have h1 := h.row
    rw [hm] at h1
    obtain ⟨_, _, h2, h3, _⟩ := own_block h1
    exact ⟨h2, h3⟩
  have hbp : b ≠ p := fun e => h.self (by rw [e]; rfl)
  have hbg : b < g := hg ▸ h.lt (.inr rfl)
  have hpg : p < g := hg ▸ h.lt (.inl rfl)
  have HG := Lib.hid hg
  have HZ := Lib.hid zero_link
  obtain ⟨X, hX⟩ : ∃ X, x.agg = X := ⟨_, rfl⟩
  have HEB : Hid (∀ (w' : World) (g : Nat), w'.heap[g]? = some (.cells #[.string x.str, .int .u64 (x.id : Nat), .int .u64 (x.ver : Nat), .int .i64 x.line, .int .i64 x.cl] 29 (0, 0)) → LBox w' g x) := fun w' g h => h
  have HH : Hid (∀ w2, Below g w w2 → Calls Try.prog 16 #[.pointer (some ⟨p, 0, none⟩)] w2 fun e w' => e = .returned (.tuple #[.agg #[.string x.str, .int .u64 (x.id : Nat), .int .u64 (x.ver : Nat), .int .i64 x.line, .int .i64 x.cl], .bool true]) ∧ Below w2.heap.size w2 w') := fun w2 hb => rhead_yes (h.below (hg.symm ▸ hb))
  have HFB : Hid (∀ w2, Below g w w2 → Fi w2 p (.slice (some ⟨b, 0, none⟩) m cap) f P (x :: L)) := fun w2 hb => h.below (hg.symm ▸ hb)
  have HSM : Hid (m ≤ 4095) := hm ▸ h.small
  have HPO : Hid (∀ (w5 w1 w2 : World), Fi w5 p (.slice (some ⟨b, 0, none⟩) m cap) f P (x :: L) → w5.setCells b (f * 5) Ln.zero.cells = w1 → Below w1.heap.size w1 w2 → ∀ r, (f + 1) % m = r → _) := fun w5 w1 w2 h5 h1 hb r hr => h5.popped hm hn hr h1 hb
  have HEND : Hid (∀ w6 r, Fi w6 p (.slice (some ⟨b, 0, none⟩) m cap) r (P.set f Ln.zero) L → Stay (fiOwn p (.slice (some ⟨b, 0, none⟩) m cap)) w w6 → R (.returned (.tuple #[x.agg, .bool true])) w6) := fun w6 r h1 h2 => by
    rw [← hR]
    exact ⟨rfl, _, _, _, h1, h2, fun k hk => .inl hk⟩
  have HMX : Hid (P.length = m) := hm
  have HN := Lib.hid hn
  rw [hX] at HEND
  have HX := Lib.hid hX
  have hfi : (f : Int) < (m : Int) := by omega
  have hw1 : IntKind.i64.wrap ((f : Int) + 1) = (f : Int) + 1 := by rw [IntKind.wrap_i64]; have := HSM.out; omega
  have hf1 : (0 : Int) ≤ (f : Int) + 1 := by omega
  have hf2 : (f : Int) ≤ (f : Int) + 1 := by omega
  have hf3 : (f : Int) + 1 ≤ (cap : Int) := by omega
  have hf4 : (f : Int) ≤ (cap : Int) := by omega
  have hf5 : ((f : Int) + 1).toNat = f + 1 := by omega
  have hf6 : f + 1 - f = 1 := by omega
  have hf7 : ¬ cap = f := by omega
  have HW2 : Hid (wrap64 (n : Int) = (n : Int)) := by
    have h1 := h.ring.fits
    rw [hm, List.length_cons, hn] at h1
    have h2 := HSM.out
    show _ = _
    unfold wrap64
    omega
  clear h hX hm hn hmc hR
  generalize x.str = x0 at *
  generalize (x.id : Int) = x1 at *
  generalize (x.ver : Int) = x2 at *
  generalize x.line = x3 at *
  generalize x.cl = x4 at *
  go_enter Try.func17, Try.ntmps17
  go_wp2_with (first
    | ((with_reducible show wpList _ _ _ (⟨some 2, .alloc _, _, _, _, _⟩ :: _) _ _); refine wpList_alloc_var (o := ⟨some 2, _, _, _, _, _⟩) rfl 29 rfl g HG.out _ HZ.out ?_; intro w2 H2 B2)
    | fail)
  refine (HH.out w2 B2.out).mono ?_
  rintro e w3 ⟨rfl, hb3⟩
  have H3 := Lib.hid ((hb3.block g (lt_of_heap H2.out)).trans H2.out)
  have B3 : Hid (Below g w w3) := B2.out.trans (hb3.mono (Nat.le_of_lt (lt_of_heap H2.out)))
  obtain ⟨g3, hg3⟩ : ∃ g3, w3.heap.size = g3 := ⟨_, rfl⟩
  have HG3 := Lib.hid hg3
  have HL3 : Hid (g < g3) := hg3 ▸ lt_of_heap H3.out
  clear hb3 hg3
  go_wp2_with (first
    | ((with_reducible show wpList _ _ _ (⟨some 4, .alloc _, _, _, _, _⟩ :: _) _ _); refine wpList_alloc_var (o := ⟨some 4, _, _, _, _, _⟩) rfl 29 rfl g3 HG3.out _ HZ.out ?_; intro w4 H4 B4)
    | ((with_reducible show wpList _ _ _ (⟨none, .store _ (.tmp 4) _, _, _, _, _⟩ :: _) _ _); refine wpList_store_whole (o := ⟨none, .store 29 (.tmp 4) (.tmp 9), _, _, _, _⟩) rfl _ _ _ rfl rfl g3 #[.string x0, .int .u64 x1, .int .u64 x2, .int .i64 x3, .int .i64 x4] rfl rfl 29 _ H4.out size_link rfl (onesL _ _ _ _ _) ?_; intro w5 H5 B5; have H25 := Lib.hid (((B4.out.trans B5.out).block g HL3.out).trans H3.out))
    | fail)
  have B5w : Hid (Below g w w5) := B3.out.trans ((B4.out.trans B5.out).mono (Nat.le_of_lt HL3.out))
  have HF5 := Lib.hid (HFB.out w5 B5w.out)
  obtain ⟨c0, c1, c2⟩ := HF5.out.cells
  have hro := HF5.out.row
  rw [HMX.out] at hro
  obtain ⟨cur, hcb, _, _, hcs, _⟩ := own_block hro
  have hcl := run_clearL w5.drew 0 b (f * 5) (cap - f) cur hcb (by omega)
  have EC := Lib.hid hcl
  obtain ⟨w6, hw6⟩ : ∃ w6, w5.drew.setCells b (f * 5) Ln.zero.cells = w6 := ⟨_, rfl⟩
  rw [hw6] at EC
  have HW6 := Lib.hid hw6
  clear hw6 hcl hcb hcs hro
  obtain ⟨r, hr⟩ : ∃ r, (f + 1) % m = r := ⟨_, rfl⟩
  have HRR := Lib.hid hr
  obtain ⟨_, _, k3, k4, _, _⟩ := HPO.out w5.drew w6 w6 (HFB.out w5.drew B5w.out.drew) HW6.out (Below.refl _ _) r hr
  have HC := Lib.hid (place_of (w := w6) (i := 1) k3 k4 (by omega) HSM.out (by omega) (by omega))
  rw [hr] at HC
  have c0d : w5.drew.cell? ⟨p, 0, none⟩ = some (.slice (some ⟨b, 0, none⟩) m cap) := c0
  have c1d : w5.drew.cell? ⟨p, 1, none⟩ = some (.int .i64 (f : Nat)) := c1
  clear hr c2
  go_region_held3 (fun w' => w'.cell? ⟨p, 0, none⟩ = some (.slice (some ⟨b, 0, none⟩) m cap) ∧ w'.cell? ⟨p, 1, none⟩ = some (.int .i64 (f : Nat))) (go_keep)
    (first
      | (refine step_clearR rfl (.tmp 25) 22 rfl (by simp [Act.eval]) EC.out ?_))
  go_wp2_with fail
  refine (HC.out).mono ?_
  rintro e w7 ⟨rfl, k, hk⟩
  have hb7 : Below w6.heap.size w6 w7 := by rw [hk]; exact below_drewN (Below.refl _ _) k
  obtain ⟨k1, k2, _, e1, e2, k6⟩ := HPO.out w5.drew w6 w7 (HFB.out w5.drew B5w.out.drew) HW6.out hb7 r HRR.out
  have HK1 := Lib.hid k1
  have HK2 := Lib.hid k2
  have hbb : ∀ j, j ≠ b → j < w5.heap.size → w7.heap[j]? = w5.heap[j]? := fun j hj hjl => by
    have h1 : w6.heap.size = w5.heap.size := by rw [← HW6.out]; exact (setCells_rest b _ _ w5.drew).2.2.2
    rw [hb7.block j (by omega), ← HW6.out]
    exact setCells_other b _ _ w5.drew j hj
  have HBB := Lib.hid hbb
  have f1 := k6 1
  have f2' := k6 2
  have hpp : (w7.setCell ⟨p, 1, none⟩ (.int .i64 (r : Nat))).cell? ⟨p, 2, none⟩ = some (.int .i64 ((n : Int) + 1)) := (World.cell?_setCell_other _ _ _ _ (by simp)).trans e2
  have hg3b : g3 ≠ b := by have := HL3.out; omega
  have hgb : g ≠ b := by omega
  have hg3p : g3 ≠ p := by have := HL3.out; omega
  have hgp : g ≠ p := by omega
  have HA := Lib.hid ((HBB.out g3 hg3b (lt_of_heap H5.out)).trans H5.out)
  have HB := Lib.hid ((HBB.out g hgb (lt_of_heap H25.out)).trans H25.out)
  have HA2 : Hid (((w7.setCell ⟨p, 1, none⟩ (.int .i64 (r : Nat))).setCell ⟨p, 2, none⟩ (.int .i64 (n : Nat))).heap[g3]? = some (.cells #[.string x0, .int .u64 x1, .int .u64 x2, .int .i64 x3, .int .i64 x4] 29 (0, 0))) := by
    show _ = _
    rw [Below.heap_setCell _ _ _ _ hg3p, Below.heap_setCell _ _ _ _ hg3p]
    exact HA.out
  have hB2e : ((w7.setCell ⟨p, 1, none⟩ (.int .i64 (r : Nat))).setCell ⟨p, 2, none⟩ (.int .i64 (n : Nat))).heap[g]? = w7.heap[g]? := by rw [Below.heap_setCell _ _ _ _ hgp, Below.heap_setCell _ _ _ _ hgp]
  have HB2 := Lib.hid (hB2e.trans HB.out)
  clear hB2e
  obtain ⟨q0, q1, q2, q3, q4⟩ := cellsL HA2.out
  have hw2 := HW2.out
  clear k1 k2 k6 hb7 hbb hk e2
  go_wp2_with (first
    | ((with_reducible show wpList _ _ _ (⟨none, .store _ (.tmp 2) _, _, _, _, _⟩ :: _) _ _); refine wpList_store_whole (o := ⟨none, .store 29 (.tmp 2) (.tmp 38), _, _, _, _⟩) rfl _ _ _ rfl rfl g #[.string x0, .int .u64 x1, .int .u64 x2, .int .i64 x3, .int .i64 x4] rfl rfl 29 _ HB2.out size_link rfl (onesL _ _ _ _ _) ?_; intro w9 H9 B9)
    | fail)
  refine bodyPost_ret (results_l2 rfl rfl rfl (HEB.out _ _ H9.out)) rfl ?_
  rw [HX.out]
  have hgl : g ≤ ((w7.setCell ⟨p, 1, none⟩ (.int .i64 (r : Nat))).setCell ⟨p, 2, none⟩ (.int .i64 (n : Nat))).heap.size := Nat.le_of_lt (lt_of_heap HB2.out)
  have h5l : g ≤ w5.heap.size := Nat.le_of_lt (lt_of_heap H25.out)
  refine HEND.out _ r (HK1.out.stay (S := fun k => g ≤ k) ⟨B9.out.os, B9.out.tape, B9.out.output, B9.out.size, fun k hk _ => B9.out.block k (by omega)⟩ ?_) ?_
  · rintro k (rfl | hk)
    · omega
    · have : b = k := Option.some.inj hk
      omega
  · have k2 := HK2.out
    refine ⟨B9.out.os.trans (k2.os.trans B5w.out.os), B9.out.tape.trans (k2.tape.trans B5w.out.tape), B9.out.output.trans (k2.output.trans B5w.out.output), Nat.le_trans B5w.out.size (Nat.le_trans k2.size B9.out.size), fun k hk hl => ?_⟩
    rw [HG.out] at hl
    exact (B9.out.block k hl).trans ((k2.block k hk (by show k < w5.heap.size; omega)).trans (B5w.out.block k hl))

end Go.Proofs.Ytejljkpnhdnncaa
