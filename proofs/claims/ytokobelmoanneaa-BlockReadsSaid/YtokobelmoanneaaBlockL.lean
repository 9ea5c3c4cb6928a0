/-
    Proved here: what package block's Decode answers.
  Conditions: rows of at most 2^30 bytes.
-/
import Derived.Test.YtokobelmoanneaaBlockK
namespace Go.Proofs.Ytokobelmoanneaa
open Go Go.RowKit

set_option maxHeartbeats 1600000 in
set_option maxRecDepth 100000 in
theorem dec_bad (w : World) (b off n c : Nat) (l : List UInt8) (hl : l.length = n) (hc : n ≤ c) (hr : Row w (some ⟨b, off, none⟩) l) (hR : Readable l) (hm : mayB (readL l) = false) :
    Calls Try.prog 20 #[.slice (some ⟨b, off, none⟩) n c] w fun e w' => e = .returned (.tuple #[zeroBV.agg, .bool false]) ∧ Below w.heap.size w w' := by
  obtain ⟨p, hp⟩ : ∃ p, w.heap.size = p := ⟨_, rfl⟩
  have HP := Lib.hid hp
  have HZ := Lib.hid zero_block
  have HR : Hid (∀ W, Below p w W → Calls Try.prog 37 #[.slice (some ⟨b, off, none⟩) n c] W fun e w' => e = .returned (.tuple #[(readL l).agg, .bool true]) ∧ Below W.heap.size W w') := fun W hW => read_ok W b off n c l hl hc (hr.below (hp.symm ▸ hW)) hR.head (hl.symm.trans hR.len) hR.fits
  have HE := Lib.hid (fun W => enc_no (readL l) (readL_sizes hR).1 (readL_sizes hR).2 hm W)
  have HRW : Hid (∀ W, Below p w W → Row W (some ⟨b, off, none⟩) l) := fun W hW => hr.below (hp.symm ▸ hW)
  have HL := Lib.hid hl
  have hn512 : n ≤ 512 := by
    have h1 := hR.len
    have := spanN_cases (clOf l : Nat)
    omega
  rw [BV.agg] at HR HE
  have HBX : Hid (∀ W g, W.heap[g]? = some (.cells #[.int .i64 (readL l).cl, .int .i64 (readL l).kd, .int .u64 ((readL l).id : Nat), .int .u64 ((readL l).ver : Nat), .int .u64 ((readL l).ep : Nat), .string (readL l).key, .string (readL l).val] 24 (0, 0)) → Box W g (readL l)) := fun _ _ h => h
  have HAC := Lib.hid (all_cells (readL l))
  generalize readL l = B at *
  obtain ⟨cl, kd, id, ver, ep, key, val⟩ := B
  simp only at *
  clear hp hl hr hR hm
  go_enter Try.func20, Try.ntmps20
  go_wp2_with (first
    | ((with_reducible show wpList _ _ _ (⟨some 2, .alloc _, _, _, _, _⟩ :: _) _ _); refine wpList_alloc_var (o := ⟨some 2, _, _, _, _, _⟩) rfl 24 rfl p HP.out _ HZ.out ?_; intro w1 HA1 HB1)
    | (go_at_call 37; refine (HR.out _ HB1.out).mono ?_; rintro e w2 ⟨rfl, hb⟩; have HA2 := Lib.hid ((hb.block p (lt_of_heap HA1.out)).trans HA1.out); have HB2 : Hid (Below p w w2) := HB1.out.trans (hb.mono (Nat.le_of_lt (lt_of_heap HA1.out))); obtain ⟨q, hq⟩ : ∃ q, w2.heap.size = q := ⟨_, rfl⟩; have HQ := Lib.hid hq; clear hb hq)
    | ((with_reducible show wpList _ _ _ (⟨some 4, .alloc _, _, _, _, _⟩ :: _) _ _); refine wpList_alloc_var (o := ⟨some 4, _, _, _, _, _⟩) rfl 24 rfl q HQ.out _ HZ.out ?_; intro w3 HA3 HB3; have HPQ : Hid (p < q) := HQ.out ▸ lt_of_heap HA2.out)
    | ((with_reducible show wpList _ _ _ (⟨none, .store _ (.tmp 4) _, _, _, _, _⟩ :: _) _ _); refine wpList_store_whole (o := ⟨none, .store 24 (.tmp 4) (.tmp 11), _, _, _, _⟩) rfl _ _ _ rfl rfl q #[.int .i64 cl, .int .i64 kd, .int .u64 (id : Nat), .int .u64 (ver : Nat), .int .u64 (ep : Nat), .string key, .string val] rfl rfl 24 _ HA3.out size_block rfl HAC.out ?_; intro w5 HA5 HB5; have HA6 := Lib.hid (((HB3.out.trans HB5.out).block p HPQ.out).trans HA2.out); have HBX5 := Lib.hid (HBX.out _ _ HA5.out); have HB5' : Hid (Below p w w5) := HB2.out.trans ((HB3.out.trans HB5.out).mono (Nat.le_of_lt HPQ.out)); obtain ⟨c0, c1, c2, c3, c4, c5, c6⟩ := HBX5.out.cells)
    | (go_at_call 15; refine (HE.out _).mono ?_; rintro e w6 ⟨rfl, hb⟩; have HA7 := Lib.hid ((hb.block p (lt_of_heap HA6.out)).trans HA6.out); have HB6 : Hid (Below p w w6) := HB5'.out.trans (hb.mono (Nat.le_of_lt (lt_of_heap HA6.out))); clear hb)
    | ((with_reducible show wpList _ _ _ (⟨none, .store _ (.tmp 2) _, _, _, _, _⟩ :: _) _ _); refine wpList_store_whole (o := ⟨none, .store 24 (.tmp 2) (.tmp 29), _, _, _, _⟩) rfl _ _ _ rfl rfl p zeroBV.cells.toArray rfl rfl 24 _ HA7.out size_block rfl (by decide +kernel) ?_; intro w7 HA8 HB7))
  refine bodyPost_ret (results_box rfl rfl rfl HA8.out) rfl ⟨rfl, ?_⟩
  rw [HP.out]
  exact HB6.out.trans HB7.out
set_option maxHeartbeats 1600000 in
set_option maxRecDepth 100000 in
theorem dec_else (w : World) (b off n c : Nat) (l : List UInt8) (hl : l.length = n) (hc : n ≤ c) (hr : Row w (some ⟨b, off, none⟩) l) (hR : Readable l) (hm : mayB (readL l) = true) (hne : linesL (readL l) ≠ l) :
    Calls Try.prog 20 #[.slice (some ⟨b, off, none⟩) n c] w fun e w' => e = .returned (.tuple #[zeroBV.agg, .bool false]) ∧ Below w.heap.size w w' := by
  obtain ⟨p, hp⟩ : ∃ p, w.heap.size = p := ⟨_, rfl⟩
  have HP := Lib.hid hp
  have HZ := Lib.hid zero_block
  have HR : Hid (∀ W, Below p w W → Calls Try.prog 37 #[.slice (some ⟨b, off, none⟩) n c] W fun e w' => e = .returned (.tuple #[(readL l).agg, .bool true]) ∧ Below W.heap.size W w') := fun W hW => read_ok W b off n c l hl hc (hr.below (hp.symm ▸ hW)) hR.head (hl.symm.trans hR.len) hR.fits
  have HE := Lib.hid (fun W => enc_ok (readL l) (readL_ok l) hm W)
  have HLB : Hid (0 < (linesL (readL l)).length ∧ (linesL (readL l)).length ≤ 1073741824) := (by
    have h1 := linesL_len hm
    have h2 := spanN_some (c := (readL l).cl) (by have := mayB_cl hm; omega)
    show _ ∧ _
    omega)
  have HEQ : Hid ((linesL (readL l) == l) = false) := (by show _ = _; simpa using hne)
  generalize linesL (readL l) = LL at *
  have HRW : Hid (∀ W, Below p w W → Row W (some ⟨b, off, none⟩) l) := fun W hW => hr.below (hp.symm ▸ hW)
  have HL := Lib.hid hl
  have hn512 : n ≤ 512 := by
    have h1 := hR.len
    have := spanN_cases (clOf l : Nat)
    omega
  rw [BV.agg] at HR HE
  have HBX : Hid (∀ W g, W.heap[g]? = some (.cells #[.int .i64 (readL l).cl, .int .i64 (readL l).kd, .int .u64 ((readL l).id : Nat), .int .u64 ((readL l).ver : Nat), .int .u64 ((readL l).ep : Nat), .string (readL l).key, .string (readL l).val] 24 (0, 0)) → Box W g (readL l)) := fun _ _ h => h
  have HAC := Lib.hid (all_cells (readL l))
  generalize readL l = B at *
  obtain ⟨cl, kd, id, ver, ep, key, val⟩ := B
  simp only at *
  clear hp hl hr hR hm hne
  go_enter Try.func20, Try.ntmps20
  go_wp2_with (first
    | ((with_reducible show wpList _ _ _ (⟨some 2, .alloc _, _, _, _, _⟩ :: _) _ _); refine wpList_alloc_var (o := ⟨some 2, _, _, _, _, _⟩) rfl 24 rfl p HP.out _ HZ.out ?_; intro w1 HA1 HB1)
    | (go_at_call 37; refine (HR.out _ HB1.out).mono ?_; rintro e w2 ⟨rfl, hb⟩; have HA2 := Lib.hid ((hb.block p (lt_of_heap HA1.out)).trans HA1.out); have HB2 : Hid (Below p w w2) := HB1.out.trans (hb.mono (Nat.le_of_lt (lt_of_heap HA1.out))); obtain ⟨q, hq⟩ : ∃ q, w2.heap.size = q := ⟨_, rfl⟩; have HQ := Lib.hid hq; clear hb hq)
    | ((with_reducible show wpList _ _ _ (⟨some 4, .alloc _, _, _, _, _⟩ :: _) _ _); refine wpList_alloc_var (o := ⟨some 4, _, _, _, _, _⟩) rfl 24 rfl q HQ.out _ HZ.out ?_; intro w3 HA3 HB3; have HPQ : Hid (p < q) := HQ.out ▸ lt_of_heap HA2.out)
    | ((with_reducible show wpList _ _ _ (⟨none, .store _ (.tmp 4) _, _, _, _, _⟩ :: _) _ _); refine wpList_store_whole (o := ⟨none, .store 24 (.tmp 4) (.tmp 11), _, _, _, _⟩) rfl _ _ _ rfl rfl q #[.int .i64 cl, .int .i64 kd, .int .u64 (id : Nat), .int .u64 (ver : Nat), .int .u64 (ep : Nat), .string key, .string val] rfl rfl 24 _ HA3.out size_block rfl HAC.out ?_; intro w5 HA5 HB5; have HA6 := Lib.hid (((HB3.out.trans HB5.out).block p HPQ.out).trans HA2.out); have HBX5 := Lib.hid (HBX.out _ _ HA5.out); have HB5' : Hid (Below p w w5) := HB2.out.trans ((HB3.out.trans HB5.out).mono (Nat.le_of_lt HPQ.out)); obtain ⟨c0, c1, c2, c3, c4, c5, c6⟩ := HBX5.out.cells)
    | (go_at_call 15; refine (HE.out _).mono ?_; rintro e w6 ⟨V, rfl, hown, hb⟩; have HA7 := Lib.hid ((hb.block p (lt_of_heap HA6.out)).trans HA6.out); have HB6 : Hid (Below p w w6) := HB5'.out.trans (hb.mono (Nat.le_of_lt (lt_of_heap HA6.out))); have HBX6 := Lib.hid (HBX5.out.below hb (lt_of_heap HBX5.out)); obtain ⟨g, cap, rfl, hcap, hgp, hgl, hrow⟩ := own_form hown HLB.out.1 HLB.out.2; have HRO := Lib.hid hrow; have HRL := Lib.hid (HRW.out w6 HB6.out); obtain ⟨d0, d1, d2, d3, d4, d5, d6⟩ := HBX6.out.cells; clear hb hown hrow)
    | (go_at_call 38; refine (beq_any _ _ _ _ _ _ _ LL l rfl HL.out HRO.out HRL.out).mono ?_; rw [HEQ.out]; rintro e w' ⟨rfl, rfl⟩)
    | ((with_reducible show wpList _ _ _ (⟨none, .store _ (.tmp 2) _, _, _, _, _⟩ :: _) _ _); refine wpList_store_whole (o := ⟨none, .store 24 (.tmp 2) (.tmp 29), _, _, _, _⟩) rfl _ _ _ rfl rfl p zeroBV.cells.toArray rfl rfl 24 _ HA7.out size_block rfl (by decide +kernel) ?_; intro w7 HA8 HB7))
  refine bodyPost_ret (results_box rfl rfl rfl HA8.out) rfl ⟨rfl, ?_⟩
  rw [HP.out]
  exact HB6.out.trans HB7.out
set_option maxHeartbeats 1600000 in
set_option maxRecDepth 100000 in
theorem dec_good (w : World) (b off n c : Nat) (l : List UInt8) (hl : l.length = n) (hc : n ≤ c) (hr : Row w (some ⟨b, off, none⟩) l) (hR : Readable l) (hm : mayB (readL l) = true) (he : linesL (readL l) = l) :
    Calls Try.prog 20 #[.slice (some ⟨b, off, none⟩) n c] w fun e w' => e = .returned (.tuple #[(readL l).agg, .bool true]) ∧ Below w.heap.size w w' := by
  obtain ⟨p, hp⟩ : ∃ p, w.heap.size = p := ⟨_, rfl⟩
  have HP := Lib.hid hp
  have HZ := Lib.hid zero_block
  have HR : Hid (∀ W, Below p w W → Calls Try.prog 37 #[.slice (some ⟨b, off, none⟩) n c] W fun e w' => e = .returned (.tuple #[(readL l).agg, .bool true]) ∧ Below W.heap.size W w') := fun W hW => read_ok W b off n c l hl hc (hr.below (hp.symm ▸ hW)) hR.head (hl.symm.trans hR.len) hR.fits
  have HE := Lib.hid (fun W => enc_ok (readL l) (readL_ok l) hm W)
  have HLB : Hid (0 < (linesL (readL l)).length ∧ (linesL (readL l)).length ≤ 1073741824) := (by
    have h1 := linesL_len hm
    have h2 := spanN_some (c := (readL l).cl) (by have := mayB_cl hm; omega)
    show _ ∧ _
    omega)
  have HEQ : Hid ((linesL (readL l) == l) = true) := (by show _ = _; simpa using he)
  generalize linesL (readL l) = LL at *
  have HRW : Hid (∀ W, Below p w W → Row W (some ⟨b, off, none⟩) l) := fun W hW => hr.below (hp.symm ▸ hW)
  have HL := Lib.hid hl
  have hn512 : n ≤ 512 := by
    have h1 := hR.len
    have := spanN_cases (clOf l : Nat)
    omega
  rw [BV.agg] at HR HE ⊢
  have HBX : Hid (∀ W g, W.heap[g]? = some (.cells #[.int .i64 (readL l).cl, .int .i64 (readL l).kd, .int .u64 ((readL l).id : Nat), .int .u64 ((readL l).ver : Nat), .int .u64 ((readL l).ep : Nat), .string (readL l).key, .string (readL l).val] 24 (0, 0)) → Box W g (readL l)) := fun _ _ h => h
  have HAC := Lib.hid (all_cells (readL l))
  generalize readL l = B at *
  obtain ⟨cl, kd, id, ver, ep, key, val⟩ := B
  simp only at *
  clear hp hl hr hR hm he
  go_enter Try.func20, Try.ntmps20
  go_wp2_with (first
    | ((with_reducible show wpList _ _ _ (⟨some 2, .alloc _, _, _, _, _⟩ :: _) _ _); refine wpList_alloc_var (o := ⟨some 2, _, _, _, _, _⟩) rfl 24 rfl p HP.out _ HZ.out ?_; intro w1 HA1 HB1)
    | (go_at_call 37; refine (HR.out _ HB1.out).mono ?_; rintro e w2 ⟨rfl, hb⟩; have HA2 := Lib.hid ((hb.block p (lt_of_heap HA1.out)).trans HA1.out); have HB2 : Hid (Below p w w2) := HB1.out.trans (hb.mono (Nat.le_of_lt (lt_of_heap HA1.out))); obtain ⟨q, hq⟩ : ∃ q, w2.heap.size = q := ⟨_, rfl⟩; have HQ := Lib.hid hq; clear hb hq)
    | ((with_reducible show wpList _ _ _ (⟨some 4, .alloc _, _, _, _, _⟩ :: _) _ _); refine wpList_alloc_var (o := ⟨some 4, _, _, _, _, _⟩) rfl 24 rfl q HQ.out _ HZ.out ?_; intro w3 HA3 HB3; have HPQ : Hid (p < q) := HQ.out ▸ lt_of_heap HA2.out)
    | ((with_reducible show wpList _ _ _ (⟨none, .store _ (.tmp 4) _, _, _, _, _⟩ :: _) _ _); refine wpList_store_whole (o := ⟨none, .store 24 (.tmp 4) (.tmp 11), _, _, _, _⟩) rfl _ _ _ rfl rfl q #[.int .i64 cl, .int .i64 kd, .int .u64 (id : Nat), .int .u64 (ver : Nat), .int .u64 (ep : Nat), .string key, .string val] rfl rfl 24 _ HA3.out size_block rfl HAC.out ?_; intro w5 HA5 HB5; have HA6 := Lib.hid (((HB3.out.trans HB5.out).block p HPQ.out).trans HA2.out); have HBX5 := Lib.hid (HBX.out _ _ HA5.out); have HB5' : Hid (Below p w w5) := HB2.out.trans ((HB3.out.trans HB5.out).mono (Nat.le_of_lt HPQ.out)); obtain ⟨c0, c1, c2, c3, c4, c5, c6⟩ := HBX5.out.cells)
    | (go_at_call 15; refine (HE.out _).mono ?_; rintro e w6 ⟨V, rfl, hown, hb⟩; have HA7 := Lib.hid ((hb.block p (lt_of_heap HA6.out)).trans HA6.out); have HB6 : Hid (Below p w w6) := HB5'.out.trans (hb.mono (Nat.le_of_lt (lt_of_heap HA6.out))); have HBX6 := Lib.hid (HBX5.out.below hb (lt_of_heap HBX5.out)); obtain ⟨g, cap, rfl, hcap, hgp, hgl, hrow⟩ := own_form hown HLB.out.1 HLB.out.2; have HRO := Lib.hid hrow; have HRL := Lib.hid (HRW.out w6 HB6.out); obtain ⟨d0, d1, d2, d3, d4, d5, d6⟩ := HBX6.out.cells; clear hb hown hrow)
    | (go_at_call 38; refine (beq_any _ _ _ _ _ _ _ LL l rfl HL.out HRO.out HRL.out).mono ?_; rw [HEQ.out]; rintro e w' ⟨rfl, rfl⟩)
    | ((with_reducible show wpList _ _ _ (⟨none, .store _ (.tmp 2) _, _, _, _, _⟩ :: _) _ _); refine wpList_store_whole (o := ⟨none, .store 24 (.tmp 2) (.tmp 30), _, _, _, _⟩) rfl _ _ _ rfl rfl p #[.int .i64 cl, .int .i64 kd, .int .u64 (id : Nat), .int .u64 (ver : Nat), .int .u64 (ep : Nat), .string key, .string val] rfl rfl 24 _ HA7.out size_block rfl HAC.out ?_; intro w7 HA8 HB7))
  refine bodyPost_ret (results_box rfl rfl rfl (HBX.out _ _ HA8.out)) rfl ⟨rfl, ?_⟩
  rw [HP.out]
  exact HB6.out.trans HB7.out
/-- What Decode answers of bytes that are the lines of a block. -/
theorem dec_yes (w : World) (bl off n c : Nat) (b : BV) (ho : b.ok) (hm : mayB b = true) (hl : (linesL b).length = n) (hc : n ≤ c) (hr : Row w (some ⟨bl, off, none⟩) (linesL b)) :
    Calls Try.prog 20 #[.slice (some ⟨bl, off, none⟩) n c] w fun e w' => e = .returned (.tuple #[b.agg, .bool true]) ∧ Below w.heap.size w w' := by
  have hrd := read_lines hm ho
  have := dec_good w bl off n c (linesL b) hl hc hr (lines_readable hm) (by rw [hrd]; exact hm) (by rw [hrd])
  rw [hrd] at this
  exact this
/-- .. and of others. -/
theorem dec_no (w : World) (bl off n c : Nat) (l : List UInt8) (h : ¬ isLines l) (hl : l.length = n) (hc : n ≤ c) (hr : Row w (some ⟨bl, off, none⟩) l) :
    Calls Try.prog 20 #[.slice (some ⟨bl, off, none⟩) n c] w fun e w' => e = .returned (.tuple #[zeroBV.agg, .bool false]) ∧ Below w.heap.size w w' := by
  rcases Classical.em (Readable l) with hR | hR
  · cases hm : mayB (readL l) with
    | false => exact dec_bad w bl off n c l hl hc hr hR hm
    | true => exact dec_else w bl off n c l hl hc hr hR hm (fun e => h ⟨readL l, readL_ok l, hm, e⟩)
  · exact dec_refused w _ n c fun W hW => Readable.no hR hl hc (hr.below hW)

end Go.Proofs.Ytokobelmoanneaa
