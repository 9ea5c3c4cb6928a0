/-
  Proved here, joined: BlockL, PoolMath
  Conditions: as each part says.
-/
import Derived.Test.YtlghphccmgmomaaGreatJN11
import Derived.Test.YtlghphccmgmomaaGreatJN7

/-
    Proved here: what package block's Decode answers.
  Conditions: rows of at most 2^30 bytes.
-/
namespace Go.Proofs.YtlghphccmgmomaaGreat
open Go Go.RowKit
set_option maxRecDepth 100000

set_option maxHeartbeats 1600000 in
set_option maxRecDepth 100000 in
theorem dec_bad (w : World) (b off n c : Nat) (l : List UInt8) (hl : l.length = n) (hc : n ≤ c) (hr : Row w (some ⟨b, off, none⟩) l) (hR : Readable l) (hm : mayB (readL l) = false) :
    Calls Tryz.prog 80 #[.slice (some ⟨b, off, none⟩) n c] w fun e w' => e = .returned (.tuple #[zeroBV.agg, .bool false]) ∧ Below w.heap.size w w' := by
  obtain ⟨p, hp⟩ : ∃ p, w.heap.size = p := ⟨_, rfl⟩
  have HP := Lib.hid hp
  have HZ := Lib.hid zero_block
  have HR : Hid (∀ W, Below p w W → Calls Tryz.prog 123 #[.slice (some ⟨b, off, none⟩) n c] W fun e w' => e = .returned (.tuple #[(readL l).agg, .bool true]) ∧ Below W.heap.size W w') := fun W hW => read_ok W b off n c l hl hc (hr.below (hp.symm ▸ hW)) hR.head (hl.symm.trans hR.len) hR.fits
  have HE := Lib.hid (fun W => enc_no (readL l) (readL_sizes hR).1 (readL_sizes hR).2 hm W)
  have HRW : Hid (∀ W, Below p w W → Row W (some ⟨b, off, none⟩) l) := fun W hW => hr.below (hp.symm ▸ hW)
  have HL := Lib.hid hl
  have hn512 : n ≤ 512 := by
    have h1 := hR.len
    have := spanN_cases (clOf l : Nat)
    omega
  rw [BV.agg] at HR HE
  have HBX : Hid (∀ W g, W.heap[g]? = some (.cells #[.int .i64 (readL l).cl, .int .i64 (readL l).kd, .int .u64 ((readL l).id : Nat), .int .u64 ((readL l).ver : Nat), .int .u64 ((readL l).ep : Nat), .string (readL l).key, .string (readL l).val] 95 (0, 0)) → Box W g (readL l)) := fun _ _ h => h
  have HAC := Lib.hid (all_cells (readL l))
  generalize readL l = B at *
  obtain ⟨cl, kd, id, ver, ep, key, val⟩ := B
  simp only at *
  clear hp hl hr hR hm
  go_enter Tryz.func80, Tryz.ntmps80
  go_wp2_with (first
    | ((with_reducible show wpList _ _ _ (⟨some 2, .alloc _, _, _, _, _⟩ :: _) _ _); refine wpList_alloc_var (o := ⟨some 2, _, _, _, _, _⟩) rfl 95 rfl p HP.out _ HZ.out ?_; intro w1 HA1 HB1)
    | (go_at_call 123; refine (HR.out _ HB1.out).mono ?_; rintro e w2 ⟨rfl, hb⟩; have HA2 := Lib.hid ((hb.block p (lt_of_heap HA1.out)).trans HA1.out); have HB2 : Hid (Below p w w2) := HB1.out.trans (hb.mono (Nat.le_of_lt (lt_of_heap HA1.out))); obtain ⟨q, hq⟩ : ∃ q, w2.heap.size = q := ⟨_, rfl⟩; have HQ := Lib.hid hq; clear hb hq)
    | ((with_reducible show wpList _ _ _ (⟨some 4, .alloc _, _, _, _, _⟩ :: _) _ _); refine wpList_alloc_var (o := ⟨some 4, _, _, _, _, _⟩) rfl 95 rfl q HQ.out _ HZ.out ?_; intro w3 HA3 HB3; have HPQ : Hid (p < q) := HQ.out ▸ lt_of_heap HA2.out)
    | ((with_reducible show wpList _ _ _ (⟨none, .store _ (.tmp 4) _, _, _, _, _⟩ :: _) _ _); refine wpList_store_whole (o := ⟨none, .store 95 (.tmp 4) (.tmp 11), _, _, _, _⟩) rfl _ _ _ rfl rfl q #[.int .i64 cl, .int .i64 kd, .int .u64 (id : Nat), .int .u64 (ver : Nat), .int .u64 (ep : Nat), .string key, .string val] rfl rfl 95 _ HA3.out size_block rfl HAC.out ?_; intro w5 HA5 HB5; have HA6 := Lib.hid (((HB3.out.trans HB5.out).block p HPQ.out).trans HA2.out); have HBX5 := Lib.hid (HBX.out _ _ HA5.out); have HB5' : Hid (Below p w w5) := HB2.out.trans ((HB3.out.trans HB5.out).mono (Nat.le_of_lt HPQ.out)); obtain ⟨c0, c1, c2, c3, c4, c5, c6⟩ := HBX5.out.cells)
    | (go_at_call 116; refine (HE.out _).mono ?_; rintro e w6 ⟨rfl, hb⟩; have HA7 := Lib.hid ((hb.block p (lt_of_heap HA6.out)).trans HA6.out); have HB6 : Hid (Below p w w6) := HB5'.out.trans (hb.mono (Nat.le_of_lt (lt_of_heap HA6.out))); clear hb)
    | ((with_reducible show wpList _ _ _ (⟨none, .store _ (.tmp 2) _, _, _, _, _⟩ :: _) _ _); refine wpList_store_whole (o := ⟨none, .store 95 (.tmp 2) (.tmp 29), _, _, _, _⟩) rfl _ _ _ rfl rfl p zeroBV.cells.toArray rfl rfl 95 _ HA7.out size_block rfl (by decide +kernel) ?_; intro w7 HA8 HB7))
  refine bodyPost_ret (results_box rfl rfl rfl HA8.out) rfl ⟨rfl, ?_⟩
  rw [HP.out]
  exact HB6.out.trans HB7.out
set_option maxHeartbeats 1600000 in
set_option maxRecDepth 100000 in
theorem dec_else (w : World) (b off n c : Nat) (l : List UInt8) (hl : l.length = n) (hc : n ≤ c) (hr : Row w (some ⟨b, off, none⟩) l) (hR : Readable l) (hm : mayB (readL l) = true) (hne : linesL (readL l) ≠ l) :
    Calls Tryz.prog 80 #[.slice (some ⟨b, off, none⟩) n c] w fun e w' => e = .returned (.tuple #[zeroBV.agg, .bool false]) ∧ Below w.heap.size w w' := by
  obtain ⟨p, hp⟩ : ∃ p, w.heap.size = p := ⟨_, rfl⟩
  have HP := Lib.hid hp
  have HZ := Lib.hid zero_block
  have HR : Hid (∀ W, Below p w W → Calls Tryz.prog 123 #[.slice (some ⟨b, off, none⟩) n c] W fun e w' => e = .returned (.tuple #[(readL l).agg, .bool true]) ∧ Below W.heap.size W w') := fun W hW => read_ok W b off n c l hl hc (hr.below (hp.symm ▸ hW)) hR.head (hl.symm.trans hR.len) hR.fits
  have HE := Lib.hid (fun W => enc_ok (readL l) (readL_ok l) hm W)
  have HLB : Hid (0 < (linesL (readL l)).length ∧ (linesL (readL l)).length ≤ 1073741824) := (by
    have h1 := linesL_len hm
    have h2 := spanN_some (c := (readL l).cl) (by have := mayB_cl hm; omega)
    show _ ∧ _
    omega)
  have HEQ : Hid ((linesL (readL l) == l) = false) := (by show _ = _; simpa using hne)
  generalize linesL (readL l) = LL at *
  have HRW : Hid (∀ W, Below p w W → Row W (some ⟨b, off, none⟩) l) := fun W hW => hr.below (hp.symm ▸ hW)
  have HL := Lib.hid hl
  have hn512 : n ≤ 512 := by
    have h1 := hR.len
    have := spanN_cases (clOf l : Nat)
    omega
  rw [BV.agg] at HR HE
  have HBX : Hid (∀ W g, W.heap[g]? = some (.cells #[.int .i64 (readL l).cl, .int .i64 (readL l).kd, .int .u64 ((readL l).id : Nat), .int .u64 ((readL l).ver : Nat), .int .u64 ((readL l).ep : Nat), .string (readL l).key, .string (readL l).val] 95 (0, 0)) → Box W g (readL l)) := fun _ _ h => h
  have HAC := Lib.hid (all_cells (readL l))
  generalize readL l = B at *
  obtain ⟨cl, kd, id, ver, ep, key, val⟩ := B
  simp only at *
  clear hp hl hr hR hm hne
  go_enter Tryz.func80, Tryz.ntmps80
  go_wp2_with (first
    | ((with_reducible show wpList _ _ _ (⟨some 2, .alloc _, _, _, _, _⟩ :: _) _ _); refine wpList_alloc_var (o := ⟨some 2, _, _, _, _, _⟩) rfl 95 rfl p HP.out _ HZ.out ?_; intro w1 HA1 HB1)
    | (go_at_call 123; refine (HR.out _ HB1.out).mono ?_; rintro e w2 ⟨rfl, hb⟩; have HA2 := Lib.hid ((hb.block p (lt_of_heap HA1.out)).trans HA1.out); have HB2 : Hid (Below p w w2) := HB1.out.trans (hb.mono (Nat.le_of_lt (lt_of_heap HA1.out))); obtain ⟨q, hq⟩ : ∃ q, w2.heap.size = q := ⟨_, rfl⟩; have HQ := Lib.hid hq; clear hb hq)
    | ((with_reducible show wpList _ _ _ (⟨some 4, .alloc _, _, _, _, _⟩ :: _) _ _); refine wpList_alloc_var (o := ⟨some 4, _, _, _, _, _⟩) rfl 95 rfl q HQ.out _ HZ.out ?_; intro w3 HA3 HB3; have HPQ : Hid (p < q) := HQ.out ▸ lt_of_heap HA2.out)
    | ((with_reducible show wpList _ _ _ (⟨none, .store _ (.tmp 4) _, _, _, _, _⟩ :: _) _ _); refine wpList_store_whole (o := ⟨none, .store 95 (.tmp 4) (.tmp 11), _, _, _, _⟩) rfl _ _ _ rfl rfl q #[.int .i64 cl, .int .i64 kd, .int .u64 (id : Nat), .int .u64 (ver : Nat), .int .u64 (ep : Nat), .string key, .string val] rfl rfl 95 _ HA3.out size_block rfl HAC.out ?_; intro w5 HA5 HB5; have HA6 := Lib.hid (((HB3.out.trans HB5.out).block p HPQ.out).trans HA2.out); have HBX5 := Lib.hid (HBX.out _ _ HA5.out); have HB5' : Hid (Below p w w5) := HB2.out.trans ((HB3.out.trans HB5.out).mono (Nat.le_of_lt HPQ.out)); obtain ⟨c0, c1, c2, c3, c4, c5, c6⟩ := HBX5.out.cells)
    | (go_at_call 116; refine (HE.out _).mono ?_; rintro e w6 ⟨V, rfl, hown, hb⟩; have HA7 := Lib.hid ((hb.block p (lt_of_heap HA6.out)).trans HA6.out); have HB6 : Hid (Below p w w6) := HB5'.out.trans (hb.mono (Nat.le_of_lt (lt_of_heap HA6.out))); have HBX6 := Lib.hid (HBX5.out.below hb (lt_of_heap HBX5.out)); obtain ⟨g, cap, rfl, hcap, hgp, hgl, hrow⟩ := own_form hown HLB.out.1 HLB.out.2; have HRO := Lib.hid hrow; have HRL := Lib.hid (HRW.out w6 HB6.out); obtain ⟨d0, d1, d2, d3, d4, d5, d6⟩ := HBX6.out.cells; clear hb hown hrow)
    | (go_at_call 124; refine (beq_any _ _ _ _ _ _ _ LL l rfl HL.out HRO.out HRL.out).mono ?_; rw [HEQ.out]; rintro e w' ⟨rfl, rfl⟩)
    | ((with_reducible show wpList _ _ _ (⟨none, .store _ (.tmp 2) _, _, _, _, _⟩ :: _) _ _); refine wpList_store_whole (o := ⟨none, .store 95 (.tmp 2) (.tmp 29), _, _, _, _⟩) rfl _ _ _ rfl rfl p zeroBV.cells.toArray rfl rfl 95 _ HA7.out size_block rfl (by decide +kernel) ?_; intro w7 HA8 HB7))
  refine bodyPost_ret (results_box rfl rfl rfl HA8.out) rfl ⟨rfl, ?_⟩
  rw [HP.out]
  exact HB6.out.trans HB7.out
set_option maxHeartbeats 1600000 in
set_option maxRecDepth 100000 in
theorem dec_good (w : World) (b off n c : Nat) (l : List UInt8) (hl : l.length = n) (hc : n ≤ c) (hr : Row w (some ⟨b, off, none⟩) l) (hR : Readable l) (hm : mayB (readL l) = true) (he : linesL (readL l) = l) :
    Calls Tryz.prog 80 #[.slice (some ⟨b, off, none⟩) n c] w fun e w' => e = .returned (.tuple #[(readL l).agg, .bool true]) ∧ Below w.heap.size w w' := by
  obtain ⟨p, hp⟩ : ∃ p, w.heap.size = p := ⟨_, rfl⟩
  have HP := Lib.hid hp
  have HZ := Lib.hid zero_block
  have HR : Hid (∀ W, Below p w W → Calls Tryz.prog 123 #[.slice (some ⟨b, off, none⟩) n c] W fun e w' => e = .returned (.tuple #[(readL l).agg, .bool true]) ∧ Below W.heap.size W w') := fun W hW => read_ok W b off n c l hl hc (hr.below (hp.symm ▸ hW)) hR.head (hl.symm.trans hR.len) hR.fits
  have HE := Lib.hid (fun W => enc_ok (readL l) (readL_ok l) hm W)
  have HLB : Hid (0 < (linesL (readL l)).length ∧ (linesL (readL l)).length ≤ 1073741824) := (by
    have h1 := linesL_len hm
    have h2 := spanN_some (c := (readL l).cl) (by have := mayB_cl hm; omega)
    show _ ∧ _
    omega)
  have HEQ : Hid ((linesL (readL l) == l) = true) := (by show _ = _; simpa using he)
  generalize linesL (readL l) = LL at *
  have HRW : Hid (∀ W, Below p w W → Row W (some ⟨b, off, none⟩) l) := fun W hW => hr.below (hp.symm ▸ hW)
  have HL := Lib.hid hl
  have hn512 : n ≤ 512 := by
    have h1 := hR.len
    have := spanN_cases (clOf l : Nat)
    omega
  rw [BV.agg] at HR HE ⊢
  have HBX : Hid (∀ W g, W.heap[g]? = some (.cells #[.int .i64 (readL l).cl, .int .i64 (readL l).kd, .int .u64 ((readL l).id : Nat), .int .u64 ((readL l).ver : Nat), .int .u64 ((readL l).ep : Nat), .string (readL l).key, .string (readL l).val] 95 (0, 0)) → Box W g (readL l)) := fun _ _ h => h
  have HAC := Lib.hid (all_cells (readL l))
  generalize readL l = B at *
  obtain ⟨cl, kd, id, ver, ep, key, val⟩ := B
  simp only at *
  clear hp hl hr hR hm he
  go_enter Tryz.func80, Tryz.ntmps80
  go_wp2_with (first
    | ((with_reducible show wpList _ _ _ (⟨some 2, .alloc _, _, _, _, _⟩ :: _) _ _); refine wpList_alloc_var (o := ⟨some 2, _, _, _, _, _⟩) rfl 95 rfl p HP.out _ HZ.out ?_; intro w1 HA1 HB1)
    | (go_at_call 123; refine (HR.out _ HB1.out).mono ?_; rintro e w2 ⟨rfl, hb⟩; have HA2 := Lib.hid ((hb.block p (lt_of_heap HA1.out)).trans HA1.out); have HB2 : Hid (Below p w w2) := HB1.out.trans (hb.mono (Nat.le_of_lt (lt_of_heap HA1.out))); obtain ⟨q, hq⟩ : ∃ q, w2.heap.size = q := ⟨_, rfl⟩; have HQ := Lib.hid hq; clear hb hq)
    | ((with_reducible show wpList _ _ _ (⟨some 4, .alloc _, _, _, _, _⟩ :: _) _ _); refine wpList_alloc_var (o := ⟨some 4, _, _, _, _, _⟩) rfl 95 rfl q HQ.out _ HZ.out ?_; intro w3 HA3 HB3; have HPQ : Hid (p < q) := HQ.out ▸ lt_of_heap HA2.out)
    | ((with_reducible show wpList _ _ _ (⟨none, .store _ (.tmp 4) _, _, _, _, _⟩ :: _) _ _); refine wpList_store_whole (o := ⟨none, .store 95 (.tmp 4) (.tmp 11), _, _, _, _⟩) rfl _ _ _ rfl rfl q #[.int .i64 cl, .int .i64 kd, .int .u64 (id : Nat), .int .u64 (ver : Nat), .int .u64 (ep : Nat), .string key, .string val] rfl rfl 95 _ HA3.out size_block rfl HAC.out ?_; intro w5 HA5 HB5; have HA6 := Lib.hid (((HB3.out.trans HB5.out).block p HPQ.out).trans HA2.out); have HBX5 := Lib.hid (HBX.out _ _ HA5.out); have HB5' : Hid (Below p w w5) := HB2.out.trans ((HB3.out.trans HB5.out).mono (Nat.le_of_lt HPQ.out)); obtain ⟨c0, c1, c2, c3, c4, c5, c6⟩ := HBX5.out.cells)
    | (go_at_call 116; refine (HE.out _).mono ?_; rintro e w6 ⟨V, rfl, hown, hb⟩; have HA7 := Lib.hid ((hb.block p (lt_of_heap HA6.out)).trans HA6.out); have HB6 : Hid (Below p w w6) := HB5'.out.trans (hb.mono (Nat.le_of_lt (lt_of_heap HA6.out))); have HBX6 := Lib.hid (HBX5.out.below hb (lt_of_heap HBX5.out)); obtain ⟨g, cap, rfl, hcap, hgp, hgl, hrow⟩ := own_form hown HLB.out.1 HLB.out.2; have HRO := Lib.hid hrow; have HRL := Lib.hid (HRW.out w6 HB6.out); obtain ⟨d0, d1, d2, d3, d4, d5, d6⟩ := HBX6.out.cells; clear hb hown hrow)
    | (go_at_call 124; refine (beq_any _ _ _ _ _ _ _ LL l rfl HL.out HRO.out HRL.out).mono ?_; rw [HEQ.out]; rintro e w' ⟨rfl, rfl⟩)
    | ((with_reducible show wpList _ _ _ (⟨none, .store _ (.tmp 2) _, _, _, _, _⟩ :: _) _ _); refine wpList_store_whole (o := ⟨none, .store 95 (.tmp 2) (.tmp 30), _, _, _, _⟩) rfl _ _ _ rfl rfl p #[.int .i64 cl, .int .i64 kd, .int .u64 (id : Nat), .int .u64 (ver : Nat), .int .u64 (ep : Nat), .string key, .string val] rfl rfl 95 _ HA7.out size_block rfl HAC.out ?_; intro w7 HA8 HB7))
  refine bodyPost_ret (results_box rfl rfl rfl (HBX.out _ _ HA8.out)) rfl ⟨rfl, ?_⟩
  rw [HP.out]
  exact HB6.out.trans HB7.out
/-- What Decode answers of bytes that are the lines of a block. -/
theorem dec_yes (w : World) (bl off n c : Nat) (b : BV) (ho : b.ok) (hm : mayB b = true) (hl : (linesL b).length = n) (hc : n ≤ c) (hr : Row w (some ⟨bl, off, none⟩) (linesL b)) :
    Calls Tryz.prog 80 #[.slice (some ⟨bl, off, none⟩) n c] w fun e w' => e = .returned (.tuple #[b.agg, .bool true]) ∧ Below w.heap.size w w' := by
  have hrd := read_lines hm ho
  have := dec_good w bl off n c (linesL b) hl hc hr (lines_readable hm) (by rw [hrd]; exact hm) (by rw [hrd])
  rw [hrd] at this
  exact this
/-- .. and of others. -/
theorem dec_no (w : World) (bl off n c : Nat) (l : List UInt8) (h : ¬ isLines l) (hl : l.length = n) (hc : n ≤ c) (hr : Row w (some ⟨bl, off, none⟩) l) :
    Calls Tryz.prog 80 #[.slice (some ⟨bl, off, none⟩) n c] w fun e w' => e = .returned (.tuple #[zeroBV.agg, .bool false]) ∧ Below w.heap.size w w' := by
  rcases Classical.em (Readable l) with hR | hR
  · cases hm : mayB (readL l) with
    | false => exact dec_bad w bl off n c l hl hc hr hR hm
    | true => exact dec_else w bl off n c l hl hc hr hR hm (fun e => h ⟨readL l, readL_ok l, hm, e⟩)
  · exact dec_refused w _ n c fun W hW => Readable.no hR hl hc (hr.below hW)

end Go.Proofs.YtlghphccmgmomaaGreat

/-
    Proved here: plain facts on pools of chapter 7: which blocks are free, which one is taken next, what giving back and marking leave, that taken blocks lie apart.
  Conditions: none.
-/
namespace Go.Proofs.YtlghphccmgmomaaGreat
open Go Go.RowKit
set_option maxRecDepth 100000

/-- Taken blocks: a line, a class. -/
abbrev Tk := Int × Int
def Rising (L : List Tk) : Prop := L.Pairwise fun a b => a.1 < b.1
/-- The class of a slab, -1 if it is whole. -/
def clsAt (L : List Tk) (k : Int) : Int := match L.find? fun t => slabOfN t.1 == k with
  | some t => t.2
  | none => -1
/-- The class of the block that begins at a line. -/
def ofL (L : List Tk) (x : Int) : Option Int := (L.find? fun t => t.1 == x).map (·.2)
def putL : List Tk → Int → Int → List Tk
  | [], x, c => [(x, c)]
  | t :: r, x, c => if x < t.1 then (x, c) :: t :: r else t :: putL r x c
/-- The free blocks of slab k that may be of class c. -/
def freeAt (L : List Tk) (k c : Int) : List Int := if clsAt L k = c then (startsN k c).filter fun s => (ofL L s).isNone else []
def freeL (n : Nat) (L : List Tk) (c : Int) : List Int := (List.range n).flatMap fun k : Nat => freeAt L k c
def wholeL (n : Nat) (L : List Tk) : Option Nat := (List.range n).find? fun k : Nat => clsAt L k == -1
/-- Where the next block of class c is taken, -1: nowhere. -/
def nextL (n : Nat) (L : List Tk) (c : Int) : Int := match freeL n L c with
  | x :: _ => x
  | [] => match wholeL n L with
    | some k => slabN k
    | none => -1
theorem rising_nil : Rising [] := List.Pairwise.nil
theorem mem_putL {L : List Tk} {x c : Int} {u : Tk} : u ∈ putL L x c ↔ u = (x, c) ∨ u ∈ L := by
  induction L with
  | nil => simp [putL]
  | cons t r ih =>
    unfold putL
    split
    · simp
    · simp only [List.mem_cons, ih]
      constructor
      · rintro (h | h | h)
        · exact .inr (.inl h)
        · exact .inl h
        · exact .inr (.inr h)
      · rintro (h | h | h)
        · exact .inr (.inl h)
        · exact .inl h
        · exact .inr (.inr h)
theorem rising_putL {L : List Tk} {x c : Int} (h : Rising L) (hx : ∀ t ∈ L, t.1 ≠ x) : Rising (putL L x c) := by
  induction L with
  | nil => simp [putL, Rising]
  | cons t r ih =>
    have h1 := List.pairwise_cons.1 h
    have hne := hx t (by simp)
    unfold putL
    split
    · rename_i hlt
      refine List.pairwise_cons.2 ⟨fun u hu => ?_, h⟩
      rcases List.mem_cons.1 hu with rfl | hu
      · exact hlt
      · have := h1.1 u hu
        show x < u.1
        omega
    · refine List.pairwise_cons.2 ⟨fun u hu => ?_, ih h1.2 (fun u hu => hx u (by simp [hu]))⟩
      rcases mem_putL.1 hu with rfl | hu
      · show t.1 < x
        omega
      · exact h1.1 u hu
/-- Of two with one line there is one. -/
theorem rising_one {L : List Tk} (h : Rising L) {t u : Tk} (ht : t ∈ L) (hu : u ∈ L) (e : t.1 = u.1) : t = u := by
  induction L with
  | nil => cases ht
  | cons s r ih =>
    have h1 := List.pairwise_cons.1 h
    rcases List.mem_cons.1 ht with rfl | ht2
    · rcases List.mem_cons.1 hu with rfl | hu2
      · rfl
      · have := h1.1 u hu2
        omega
    · rcases List.mem_cons.1 hu with rfl | hu2
      · have := h1.1 t ht2
        omega
      · exact ih h1.2 ht2 hu2
theorem ofL_none {L : List Tk} {x : Int} : ofL L x = none ↔ ∀ t ∈ L, t.1 ≠ x := by simp [ofL]
theorem ofL_some {L : List Tk} {x c : Int} (h : Rising L) : ofL L x = some c ↔ (x, c) ∈ L := by
  constructor
  · intro e
    obtain ⟨t, ht, rfl⟩ := Option.map_eq_some_iff.1 e
    have h1 := List.find?_some ht
    have h2 := List.mem_of_find?_eq_some ht
    simp only [beq_iff_eq] at h1
    rw [← h1]
    exact h2
  · intro hm
    cases e : ofL L x with
    | none => exact absurd rfl (ofL_none.1 e _ hm)
    | some d =>
      obtain ⟨t, ht, rfl⟩ := Option.map_eq_some_iff.1 e
      have h1 := List.find?_some ht
      have h2 := List.mem_of_find?_eq_some ht
      simp only [beq_iff_eq] at h1
      have := rising_one h h2 hm h1
      rw [this]

/-- What a pool of n slabs is at any time. -/
structure Pool7 (n : Nat) (L : List Tk) : Prop where
  rising : Rising L
  home : ∀ t ∈ L, homeN t.1 t.2 = true
  slab : ∀ t ∈ L, slabOfN t.1 < n
  one : ∀ t ∈ L, ∀ u ∈ L, slabOfN t.1 = slabOfN u.1 → t.2 = u.2
theorem pool_nil (n : Nat) : Pool7 n [] := ⟨rising_nil, fun t h => (by cases h), fun t h => (by cases h), fun t h => (by cases h)⟩
theorem home_cls {x c : Int} (h : homeN x c = true) : 0 ≤ slabOfN x ∧ spanN c ≠ 0 ∧ 0 ≤ c ∧ c ≤ 3 := by
  have h1 : ¬ (slabOfN x < 0 ∨ spanN c = 0) := fun e => by rw [homeN_no e] at h; cases h
  have h2 : ¬ (c < 0 ∨ 3 < c) := fun e => h1 (.inr (spanN_none e))
  exact ⟨by omega, fun e => h1 (.inr e), by omega, by omega⟩
theorem clsAt_none {n : Nat} {L : List Tk} (h : Pool7 n L) {k : Int} : clsAt L k = -1 ↔ ∀ t ∈ L, slabOfN t.1 ≠ k := by
  unfold clsAt
  cases e : L.find? fun t => slabOfN t.1 == k with
  | none =>
    simp only [true_iff]
    intro t ht
    have := List.find?_eq_none.1 e t ht
    simpa using this
  | some t =>
    have h1 := List.find?_some e
    have h2 := List.mem_of_find?_eq_some e
    simp only [beq_iff_eq] at h1
    have h3 := home_cls (h.home t h2)
    constructor
    · intro e2
      simp only at e2
      omega
    · intro h4
      exact absurd h1 (h4 t h2)
theorem clsAt_mem {n : Nat} {L : List Tk} (h : Pool7 n L) {t : Tk} (ht : t ∈ L) : clsAt L (slabOfN t.1) = t.2 := by
  unfold clsAt
  cases e : L.find? fun u => slabOfN u.1 == slabOfN t.1 with
  | none =>
    have := List.find?_eq_none.1 e t ht
    simp at this
  | some u =>
    have h1 := List.find?_some e
    have h2 := List.mem_of_find?_eq_some e
    simp only [beq_iff_eq] at h1
    exact h.one u h2 t ht h1
theorem clsAt_cases {n : Nat} {L : List Tk} (h : Pool7 n L) (k : Int) : clsAt L k = -1 ∨ ∃ t ∈ L, slabOfN t.1 = k ∧ clsAt L k = t.2 := by
  rcases Classical.em (∃ t ∈ L, slabOfN t.1 = k) with ⟨t, ht, rfl⟩ | hn
  · exact .inr ⟨t, ht, rfl, clsAt_mem h ht⟩
  · exact .inl ((clsAt_none h).2 fun t ht e => hn ⟨t, ht, e⟩)
theorem clsAt_range {n : Nat} {L : List Tk} (h : Pool7 n L) (k : Int) : -1 ≤ clsAt L k ∧ clsAt L k ≤ 3 := by
  rcases clsAt_cases h k with e | ⟨t, ht, _, e⟩
  · omega
  · have := home_cls (h.home t ht)
    omega
/-- A block put in where it may be. -/
theorem pool_put {n : Nat} {L : List Tk} (h : Pool7 n L) {x c : Int} (hh : homeN x c = true) (hs : slabOfN x < n) (hx : ∀ t ∈ L, t.1 ≠ x) (hc : clsAt L (slabOfN x) = -1 ∨ clsAt L (slabOfN x) = c) : Pool7 n (putL L x c) := by
  have key : ∀ t ∈ L, slabOfN t.1 = slabOfN x → t.2 = c := fun t ht e => by
    have h1 := clsAt_mem h ht
    rw [e] at h1
    rcases hc with hc | hc
    · exact absurd e ((clsAt_none h).1 hc t ht)
    · omega
  refine ⟨rising_putL h.rising hx, fun t ht => ?_, fun t ht => ?_, fun t ht u hu e => ?_⟩
  · rcases mem_putL.1 ht with rfl | ht
    · exact hh
    · exact h.home t ht
  · rcases mem_putL.1 ht with rfl | ht
    · exact hs
    · exact h.slab t ht
  · rcases mem_putL.1 ht with rfl | ht <;> rcases mem_putL.1 hu with rfl | hu
    · rfl
    · exact (key u hu e.symm).symm
    · exact key t ht e
    · exact h.one t ht u hu e
/-- Where blocks of class c begin in slab k, and no others. -/
theorem mem_starts {k c x : Int} (h : x ∈ startsN k c) : 0 ≤ k ∧ k ≤ 31 ∧ slabOfN x = k ∧ homeN x c = true ∧ 2 + 8 * k ≤ x ∧ x + spanN c ≤ 2 + 8 * k + 8 := by
  unfold startsN at h
  split at h
  · rename_i hk
    obtain ⟨i, hi, rfl⟩ := List.mem_map.1 h
    rw [List.mem_range] at hi
    have hs0 : spanN c ≠ 0 := fun e => by rw [e] at hi; simp at hi
    have h1 : i * spanN c + spanN c ≤ 8 := by
      have h2 : (i + 1) * spanN c ≤ (8 / spanN c) * spanN c := Nat.mul_le_mul_right _ hi
      have h3 := Nat.div_mul_le_self 8 (spanN c)
      rw [Nat.add_mul, Nat.one_mul] at h2
      omega
    have hsl : slabOfN (2 + 8 * k + (i * spanN c : Nat)) = k := by
      unfold slabOfN
      rw [if_pos (by omega)]
      omega
    refine ⟨hk.1, hk.2, hsl, ?_, by omega, by omega⟩
    unfold homeN
    rw [hsl, decide_eq_true_iff]
    unfold startsN
    rw [if_pos hk]
    exact List.mem_map.2 ⟨i, List.mem_range.2 hi, rfl⟩
  · cases h
theorem mem_freeAt {L : List Tk} {k c x : Int} : x ∈ freeAt L k c ↔ clsAt L k = c ∧ x ∈ startsN k c ∧ ∀ t ∈ L, t.1 ≠ x := by
  unfold freeAt
  split
  · rename_i h
    simp only [List.mem_filter, Option.isNone_iff_eq_none, ofL_none, h, true_and]
  · rename_i h
    simp [h]
theorem mem_freeL {n : Nat} {L : List Tk} {c x : Int} : x ∈ freeL n L c ↔ ∃ k : Nat, k < n ∧ clsAt L k = c ∧ x ∈ startsN k c ∧ ∀ t ∈ L, t.1 ≠ x := by
  unfold freeL
  simp only [List.mem_flatMap, List.mem_range, mem_freeAt]
theorem whole_some {n : Nat} {L : List Tk} {k : Nat} (h : wholeL n L = some k) : k < n ∧ clsAt L k = -1 ∧ ∀ j : Nat, j < k → clsAt L j ≠ -1 := by
  unfold wholeL at h
  have h1 := List.find?_some h
  have h2 := List.mem_of_find?_eq_some h
  simp only [beq_iff_eq] at h1
  refine ⟨List.mem_range.1 h2, h1, fun j hj e => ?_⟩
  obtain ⟨_, xs, ys, e1, e2⟩ := List.find?_eq_some_iff_append.1 h
  have hj2 : j ∈ xs := by
    have hjm : j ∈ List.range n := List.mem_range.2 (by have := List.mem_range.1 h2; omega)
    rw [e1] at hjm
    rcases List.mem_append.1 hjm with h3 | h3
    · exact h3
    · exfalso
      have hp := List.pairwise_lt_range (n := n)
      rw [e1] at hp
      have hp2 := (List.pairwise_append.1 hp).2.1
      have hp3 := List.pairwise_cons.1 hp2
      rcases List.mem_cons.1 h3 with h4 | h4
      · omega
      · have := hp3.1 j h4
        omega
  have := e2 j hj2
  rw [e] at this
  simp at this
theorem whole_none {n : Nat} {L : List Tk} (h : wholeL n L = none) (k : Nat) (hk : k < n) : clsAt L k ≠ -1 := by
  have := List.find?_eq_none.1 h k (List.mem_range.2 hk)
  simpa using this
theorem next_free {n : Nat} {L : List Tk} {c x : Int} {r : List Int} (h : freeL n L c = x :: r) : nextL n L c = x := by unfold nextL; rw [h]
theorem next_whole {n : Nat} {L : List Tk} {c : Int} {k : Nat} (h : freeL n L c = []) (hk : wholeL n L = some k) (hn : n ≤ 32) : nextL n L c = 2 + 8 * (k : Int) := by
  have h1 := (whole_some hk).1
  have h2 : nextL n L c = slabN k := by unfold nextL; rw [h, hk]
  rw [h2, slabN, if_pos (by omega)]
theorem next_none {n : Nat} {L : List Tk} {c : Int} (h : freeL n L c = []) (hk : wholeL n L = none) : nextL n L c = -1 := by unfold nextL; rw [h, hk]
theorem cls_span {c : Int} (h : 0 ≤ c ∧ c ≤ 3) : spanN c ≠ 0 := by have := spanN_some (c := c) (by omega); omega
theorem first_start {k c : Int} (hk : 0 ≤ k ∧ k ≤ 31) (hc : 0 ≤ c ∧ c ≤ 3) : 2 + 8 * k ∈ startsN k c := by
  have hs := spanN_some (c := c) (by omega)
  unfold startsN
  rw [if_pos hk]
  refine List.mem_map.2 ⟨0, List.mem_range.2 ?_, by simp⟩
  rcases hs with e | e | e | e <;> rw [e] <;> decide
/-- What is taken next may be taken. -/
theorem next_ok {n : Nat} {L : List Tk} (h : Pool7 n L) (hn : n ≤ 32) {c : Int} (hc : 0 ≤ c ∧ c ≤ 3) (hx : 0 ≤ nextL n L c) :
    homeN (nextL n L c) c = true ∧ slabOfN (nextL n L c) < n ∧ (∀ t ∈ L, t.1 ≠ nextL n L c) ∧ (clsAt L (slabOfN (nextL n L c)) = -1 ∨ clsAt L (slabOfN (nextL n L c)) = c) := by
  cases e : freeL n L c with
  | cons x r =>
    have hm : x ∈ freeL n L c := by rw [e]; simp
    obtain ⟨k, hk, hcl, hst, hno⟩ := mem_freeL.1 hm
    obtain ⟨_, _, h3, h4, _⟩ := mem_starts hst
    rw [next_free e, h3]
    exact ⟨h4, by omega, hno, .inr hcl⟩
  | nil =>
    cases e2 : wholeL n L with
    | none =>
      rw [next_none e e2] at hx
      omega
    | some k =>
      obtain ⟨h1, h2, _⟩ := whole_some e2
      obtain ⟨_, _, h5, h6, _⟩ := mem_starts (first_start (k := k) (c := c) (by omega) hc)
      rw [next_whole e e2 hn, h5]
      refine ⟨h6, by omega, fun t ht he => (clsAt_none h).1 h2 t ht ?_, .inl h2⟩
      rw [he, h5]
/-- What Mark answers: 1, 7 or 0. -/
def markE (n : Nat) (L : List Tk) (x c : Int) : Int := if homeN x c = false ∨ (n : Int) ≤ slabOfN x then 1 else if (ofL L x).isSome ∨ (0 ≤ clsAt L (slabOfN x) ∧ clsAt L (slabOfN x) ≠ c) then 7 else 0
theorem mark_ok {n : Nat} {L : List Tk} (h : Pool7 n L) {x c : Int} (e : markE n L x c = 0) : Pool7 n (putL L x c) := by
  unfold markE at e
  split at e
  · cases e
  · rename_i h1
    split at e
    · cases e
    · rename_i h2
      have h3 := clsAt_range h (slabOfN x)
      have hof : ofL L x = none := by
        cases e2 : ofL L x with
        | none => rfl
        | some d => exact absurd (.inl (by rw [e2]; rfl)) h2
      refine pool_put h (by cases e3 : homeN x c with | true => rfl | false => exact absurd (.inl e3) h1) (by omega) (ofL_none.1 hof) ?_
      rcases Classical.em (clsAt L (slabOfN x) = c) with h4 | h4
      · exact .inr h4
      · refine .inl ?_
        have : ¬ 0 ≤ clsAt L (slabOfN x) := fun h5 => h2 (.inr ⟨h5, h4⟩)
        omega
theorem clsAt_nil (k : Int) : clsAt [] k = -1 := rfl
end Go.Proofs.YtlghphccmgmomaaGreat
