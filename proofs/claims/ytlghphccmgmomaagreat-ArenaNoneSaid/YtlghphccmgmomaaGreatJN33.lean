/-
  Proved here, joined: ArNew16, ArFmt16
  Conditions: as each part says.
-/
import Derived.Test.YtlghphccmgmomaaGreatJN32

/-
  Proved here: what arena's empty makes.
  Conditions: where it does not refuse.
-/
namespace Go.Proofs.YtlghphccmgmomaaGreat
open Go Go.RowKit
set_option maxRecDepth 100000

open Classical
theorem wf_small {n : Nat} (h : n ≤ 1000) : (Lit.int .i64 (n : Int)).wf = true := by
  have h1 : IntKind.i64.min = -9223372036854775808 := by decide
  have h2 : IntKind.i64.max = 9223372036854775807 := by decide
  simp [Lit.wf, h1, h2]
  omega
/-- What a new arena holds, over a device. -/
def az0 (d : St) (n last : Nat) : Az := ⟨d, (slabsN d.1.length).toNat, [], List.replicate n 0, 1, ck0 n last, [], [], [], [], 0, 0, []⟩
def arNew (b : Nat) (w : World) (col : Nat → Nat) (dp dq : Nat) (s : Az) (e : Ending) (w' : World) : Prop :=
  ∃ col' z, e = .returned (.tuple #[.pointer (some ⟨z.ap, 0, none⟩), .int .i64 0]) ∧ Ar b w' col' z s ∧ w'.heap[z.ap]? = some (.cells (arCells z 0 0 0).toArray 88 (0, 0)) ∧ z.dp = dp ∧ z.dq = dq ∧ Below w.heap.size w w' ∧
    (∀ k, k < w.heap.size → col' k = col k) ∧ (∀ k, w.heap.size ≤ k → col' k = 0 ∨ (b < col' k ∧ col' k ≤ b + 10)) ∧ w.heap.size ≤ z.ap
set_option maxHeartbeats 3200000 in
theorem arempty_ok {b : Nat} {w : World} {col : Nat → Nat} {dp dq : Nat} {d : St} (hd : DvS w dp dq d) (h10 : 10 ≤ d.1.length) (n : Nat) (h1 : 1 ≤ n) (h4 : n ≤ 4) (last : Nat) (hl : last ≤ 1152921504606846976) (hcp : col dp = b + 2) (hcq : col dq = b + 2) :
    Calls Tryz.prog 91 #[.pointer (some ⟨dp, 0, none⟩), .int .i64 n, .int .u64 last] w (arNew b w col dp dq (az0 d n last)) := by
  have h258 : d.1.length ≤ 258 := hd.len
  have HRD := Lib.hid (rdnew_ok n h1 h4 w)
  have HLN := Lib.hid (fun (v : World) (hv : DvS v dp dq d) => lin_ok hv)
  have HSL := Lib.hid (fun (v : World) => slabs_any (d.1.length : Int) (wf_small (by omega)) v)
  have hsl : slabsN (d.1.length : Int) = (((d.1.length - 2) / 8 : Nat) : Int) := by
    unfold slabsN
    rw [if_neg (by omega), Int.min_eq_left (by omega)]
    omega
  have HNN : Hid ((slabsN (d.1.length : Int)).toNat = (d.1.length - 2) / 8) := by show _ = _; rw [hsl]; rfl
  rw [hsl] at HSL
  have HPN := Lib.hid (fun (v : World) => pnew_ok ((d.1.length - 2) / 8) (by omega) (by omega) v)
  have HCN := Lib.hid (fun (v : World) => cknew_ok n last h1 h4 hl v)
  have HBN := Lib.hid bgnew_any
  have HTN := Lib.hid tbnew_any
  have HON := Lib.hid odnew_any
  have HFN := Lib.hid finew_any
  have HD := Lib.hid hd
  generalize (d.1.length - 2) / 8 = ns at *
  go_enter Tryz.func91, Tryz.ntmps91
  go_wp2_with fail
  refine HRD.out.mono ?_
  rintro e w1 ⟨rp, rq, rfl, hr1, hr2, hr, hb1⟩
  have HR := Lib.hid hr
  have HB1 := Lib.hid hb1
  have HR12 : Hid (w.heap.size ≤ rp ∧ w.heap.size ≤ rq) := ⟨hr1, hr2⟩
  have HD1 := Lib.hid (Dv.below HD.out hb1)
  clear hr hb1 hr1 hr2 hd
  go_wp2_with fail
  refine (HLN.out _ HD1.out).mono ?_
  rintro e w' ⟨rfl, rfl⟩
  go_wp2_with fail
  refine (HSL.out _).mono ?_
  rintro e w' ⟨rfl, rfl⟩
  go_wp2_with fail
  refine (HPN.out _).mono ?_
  rintro e w2 ⟨pp, pq, rfl, hr1, hr2, hr, hb2⟩
  have HP := Lib.hid hr
  have HB2 := Lib.hid hb2
  have HP12 : Hid (w1.heap.size ≤ pp ∧ w1.heap.size ≤ pq) := ⟨hr1, hr2⟩
  clear hr hb2 hr1 hr2
  go_wp2_with fail
  refine (HCN.out _).mono ?_
  rintro e w3 ⟨cp, co, rfl, hr1, hr2, hr, hb3⟩
  have HC : Hid (∀ S : List Nat, cp ∈ S → co ∈ S → Cm S w3 cp co (ck0 n last)) := hr
  have HB3 := Lib.hid hb3
  have HC12 : Hid (w2.heap.size ≤ cp ∧ w2.heap.size ≤ co) := ⟨hr1, hr2⟩
  clear hr hb3 hr1 hr2
  go_wp2_with fail
  refine (HBN.out _).mono ?_
  rintro e w4 ⟨rfl, hr, hb4⟩
  have HBG := Lib.hid hr
  have HB4 := Lib.hid hb4
  clear hr hb4
  go_wp2_with fail
  refine (HTN.out _).mono ?_
  rintro e w5 ⟨rfl, hr, hb5⟩
  have HTB := Lib.hid hr
  have HB5 := Lib.hid hb5
  clear hr hb5
  go_wp2_with fail
  refine (HON.out _).mono ?_
  rintro e w6 ⟨rfl, hr, hb6⟩
  have HOD := Lib.hid hr
  have HB6 := Lib.hid hb6
  clear hr hb6
  go_wp2_with fail
  refine (HFN.out _).mono ?_
  rintro e w7 ⟨rfl, hr, hb7⟩
  have HFI := Lib.hid hr
  have HB7 := Lib.hid hb7
  clear hr hb7
  go_wp2
  go_ret2
  obtain ⟨w8, hw8⟩ : ∃ w8, w7.alloc (.cells #[.pointer (some ⟨dp, 0, none⟩), .int .u32 0, .int .i32 0, .int .u32 0, .pointer (some ⟨pp, 0, none⟩), .pointer (some ⟨rp, 0, none⟩), .pointer (some ⟨cp, 0, none⟩), .pointer (some ⟨w3.heap.size, 0, none⟩), .pointer (some ⟨w4.heap.size, 0, none⟩), .pointer (some ⟨w5.heap.size, 0, none⟩), .pointer (some ⟨w6.heap.size, 0, none⟩), .int .u64 0, .int .u64 0, .slice none 0 0] 88) = w8 := ⟨_, rfl⟩
  have hme : w8.heap[w7.heap.size]? = some (.cells (arCells ⟨w7.heap.size, dp, dq, pp, pq, rp, rq, cp, co, none, w3.heap.size, w3.heap.size, w3.heap.size, w4.heap.size, fun _ => none, w5.heap.size, fun _ => .slice none 0 0, w6.heap.size, .slice none 0 0, 0, [], .slice none 0 0⟩ 0 0 0).toArray 88 (0, 0)) := by rw [← hw8]; exact heap_alloc_new w7 _
  have b78 : Below w7.heap.size w7 w8 := by rw [← hw8]; exact (Below.refl _ _).alloc (Nat.le_refl _) _
  have hs8 : w8.heap.size = w7.heap.size + 1 := by rw [← hw8]; simp
  have b1 := HB1.out
  have b2 := HB2.out
  have b3 := HB3.out
  have b4 := HB4.out
  have b5 := HB5.out
  have b6 := HB6.out
  have b7 := HB7.out
  have s1 := b1.size
  have s2 := b2.size
  have s3 := b3.size
  have s4 := b4.size
  have s5 := b5.size
  have s6 := b6.size
  have s7 := b7.size
  have b68 : Below w6.heap.size w6 w8 := b7.trans (b78.mono s7)
  have b58 : Below w5.heap.size w5 w8 := b6.trans (b68.mono s6)
  have b48 : Below w4.heap.size w4 w8 := b5.trans (b58.mono s5)
  have b38 : Below w3.heap.size w3 w8 := b4.trans (b48.mono s4)
  have b28 : Below w2.heap.size w2 w8 := b3.trans (b38.mono s3)
  have b18 : Below w1.heap.size w1 w8 := b2.trans (b28.mono s2)
  have b08 : Below w.heap.size w w8 := b1.trans (b18.mono s1)
  have l4 := HBG.out.lt_p
  have l5 := HTB.out.lt (.inl rfl)
  have l6 := HOD.out.ro.lt (.inl rfl)
  have l7 := HFI.out.lt (.inl rfl)
  have lr := HR.out.lt_p
  have lr2 := HR.out.lt_q
  have lp := HP.out.lt_p
  have lp2 := HP.out.lt_q
  have hc2 := HC.out [cp, co] (by simp) (by simp)
  have lc := hc2.lt_p
  have lc2 := hc2.lt_o
  have ld := HD.out.lt_p
  have ld2 := HD.out.lt_q
  have hr12 := HR12.out
  have hp12 := HP12.out
  have hc12 := HC12.out
  rw [hw8]
  refine ⟨fun k => if k < w.heap.size then col k else if k < w1.heap.size then b + 4 else if k < w2.heap.size then b + 3 else if k < w3.heap.size then b + 5 else if k < w4.heap.size then b + 6 else if k < w5.heap.size then b + 7 else if k < w6.heap.size then b + 8 else if k < w7.heap.size then b + 9 else if k = w7.heap.size then b + 1 else 0, (⟨w7.heap.size, dp, dq, pp, pq, rp, rq, cp, co, none, w3.heap.size, w3.heap.size, w3.heap.size, w4.heap.size, fun _ => none, w5.heap.size, fun _ => .slice none 0 0, w6.heap.size, .slice none 0 0, 0, [], .slice none 0 0⟩ : Pz), rfl, ?_, hme, rfl, rfl, b08, fun k hk => if_pos hk, fun k hk => ?_, by show w.heap.size ≤ w7.heap.size; omega⟩
  · refine ⟨⟨0, hme⟩, Dv.below HD.out b08, ?_, HR.out.below b18, ⟨fun S h1 h2 _ => (HC.out S h1 h2).below b38, fun k e => (by cases e), fun k e => (by cases e)⟩, HBG.out.below b48, HTB.out.below b58, HOD.out.below b68, HFI.out.below b78, World.ownsRow_nil _ _ _ _, fun i k hi hk => ?_, fun k hk => ?_, ?_⟩
    · have := HP.out.below b28
      rw [← HNN.out] at this
      exact this
    · match i, hi with
      | 0, _ =>
        obtain rfl : k = w7.heap.size := hk
        rw [if_neg (by omega), if_neg (by omega), if_neg (by omega), if_neg (by omega), if_neg (by omega), if_neg (by omega), if_neg (by omega), if_neg (by omega), if_pos rfl]
      | 1, _ =>
        rcases hk with rfl | rfl
        · rw [if_pos ld]; exact hcp
        · rw [if_pos ld2]; exact hcq
      | 2, _ =>
        have : k = pp ∨ k = pq := hk
        rw [if_neg (by omega), if_neg (by omega), if_pos (by omega)]
      | 3, _ =>
        have : k = rp ∨ k = rq := hk
        rw [if_neg (by omega), if_pos (by omega)]
      | 4, _ =>
        have : k = cp ∨ k = co := by
          rcases hk with h | h | h
          · exact .inl h
          · exact .inr h
          · cases h
        rw [if_neg (by omega), if_neg (by omega), if_neg (by omega), if_pos (by omega)]
      | 5, _ =>
        have : k = w3.heap.size ∨ k = w3.heap.size := hk
        rw [if_neg (by omega), if_neg (by omega), if_neg (by omega), if_neg (by omega), if_pos (by omega)]
      | 6, _ =>
        have : k = w4.heap.size := by
          rcases hk with h | ⟨_, _, h⟩
          · exact h
          · cases h
        rw [if_neg (by omega), if_neg (by omega), if_neg (by omega), if_neg (by omega), if_neg (by omega), if_pos (by omega)]
      | 7, _ =>
        have : k = w5.heap.size := by
          rcases hk with h | ⟨_, _, h⟩
          · exact h
          · cases h
        rw [if_neg (by omega), if_neg (by omega), if_neg (by omega), if_neg (by omega), if_neg (by omega), if_neg (by omega), if_pos (by omega)]
      | 8, _ =>
        have : k = w6.heap.size := by
          rcases hk with h | h
          · exact h
          · cases h
        rw [if_neg (by omega), if_neg (by omega), if_neg (by omega), if_neg (by omega), if_neg (by omega), if_neg (by omega), if_neg (by omega), if_pos (by omega)]
      | 9, _ => cases hk
    · rw [if_neg (by omega), if_neg (by omega), if_neg (by omega), if_neg (by omega), if_neg (by omega), if_neg (by omega), if_neg (by omega), if_neg (by omega), if_neg (by omega)]
    · show w3.heap.size ≤ w8.heap.size
      omega
  · dsimp only
    rw [if_neg (by omega)]
    repeat' split
    all_goals omega

end Go.Proofs.YtlghphccmgmomaaGreat

/-
  Proved here: arena.New.
  Conditions: where it does not refuse.
-/
namespace Go.Proofs.YtlghphccmgmomaaGreat
open Go Go.RowKit
set_option maxRecDepth 100000

open Classical
theorem Ar.setDev0 {b : Nat} {w w' : World} {col : Nat → Nat} {z : Pz} {s : Az} (h : Ar b w col z s) {on : Int} {d : St} (hm : w'.heap[z.ap]? = some (.cells (arCells z on s.id s.ver).toArray 88 (0, 0))) (hv : DvS w' z.dp z.dq d) (hu : Stay (fun k => (k = z.dp ∨ k = z.dq) ∨ k = z.ap) w w') : ArTo b w col z { s with d := d } w' := by
  have ht : Stay (fun k => ow z 1 k ∨ ow z 0 k) w w' := hu
  refine h.to (i := 1) (fun k hk => ?_) (by omega) ht (h.step2 (i := 1) (i2 := 0) (z' := z) (by omega) (by omega) ht (fun j k hj hne => Iff.rfl) (fun j hj hne hne2 hp hk => ?_) hv ⟨on, hm⟩ (fun k hk => .inl hk) (fun k hk => Nat.lt_of_lt_of_le (h.lt (i := 1) (by omega) hk) ht.size) (Nat.le_trans h.lo ht.size)) rfl
  · rcases hk with hk | hk
    · exact h.own_col (i := 1) (by omega) hk
    · exact h.own_col (i := 0) (by omega) hk
  · have := part_stay hp ht.size ht.os ht.tape ht.output hk
    match j, hj, hne, hne2 with
    | 0, _, _, h => exact absurd rfl h
    | 2, _, _, _ => exact this
    | 3, _, _, _ => exact this
    | 4, _, _, _ => exact this
    | 5, _, _, _ => exact this
    | 6, _, _, _ => exact this
    | 7, _, _, _ => exact this
    | 8, _, _, _ => exact this
    | 9, _, _, _ => exact this
theorem Ar.ap_ne {b : Nat} {w : World} {col : Nat → Nat} {z : Pz} {s : Az} (h : Ar b w col z s) : z.ap ≠ z.dp ∧ z.ap ≠ z.dq := by
  have h0 := h.cl 0 z.ap (by omega) rfl
  have h1 := h.cl 1 z.dp (by omega) (.inl rfl)
  have h2 := h.cl 1 z.dq (by omega) (.inr rfl)
  exact ⟨fun e => by rw [e] at h0; omega, fun e => by rw [e] at h0; omega⟩
/-- The struct's cells. -/
theorem me_at {w : World} {z : Pz} {on : Int} {id ver : Nat} (h : w.heap[z.ap]? = some (.cells (arCells z on id ver).toArray 88 (0, 0))) (j : Nat) : w.cell? ⟨z.ap, j, none⟩ = (arCells z on id ver)[j]? ∧ w.frozen? ⟨z.ap, j, none⟩ = false := by
  refine ⟨by simp [World.cell?, h], by simp [World.frozen?, h]⟩
set_option maxHeartbeats 1600000 in
theorem fmt1_any {w : World} {bx ap dp dq : Nat} {d : St} (hx : w.cell? ⟨bx, 0, none⟩ = some (.pointer (some ⟨ap, 0, none⟩))) (ha : w.cell? ⟨ap, 0, none⟩ = some (.pointer (some ⟨dp, 0, none⟩))) (hd : DvS w dp dq d) (h10 : 10 ≤ d.1.length) :
    Calls Tryz.prog 141 #[.pointer (some ⟨bx, 0, none⟩)] w fun e w' => e = .returned (.tuple #[]) ∧ (DvS w' dp dq d.format ∧ Turns dp dq w w') := by
  have HF := Lib.hid (format_ok hd h10)
  clear hd h10
  go_enter Tryz.func141, Tryz.ntmps141
  go_wp2_with fail
  refine HF.out.mono ?_
  rintro e w' ⟨rfl, h1, h2⟩
  have H1 := Lib.hid h1
  have H2 := Lib.hid h2
  clear h1 h2
  go_wp2
  go_end0
  exact ⟨rfl, H1.out, H2.out⟩
set_option maxHeartbeats 1600000 in
theorem arfmt_any {b : Nat} {w : World} {col : Nat → Nat} {z : Pz} {s : Az} (h : Ar b w col z s) (hm : w.heap[z.ap]? = some (.cells (arCells z 0 s.id s.ver).toArray 88 (0, 0))) (h10 : 10 ≤ s.d.1.length) :
    Calls Tryz.prog 92 #[.pointer (some ⟨z.ap, 0, none⟩)] w fun e w' => e = .returned (.tuple #[]) ∧ ArTo b w col z { s with d := s.d.format } w' := by
  obtain ⟨g, hg⟩ : ∃ g, w.heap.size = g := ⟨_, rfl⟩
  obtain ⟨w1, hw1⟩ : ∃ w1, w.alloc (.cells #[.pointer (some ⟨z.ap, 0, none⟩)] 23) = w1 := ⟨_, rfl⟩
  have hxh : w1.heap[g]? = some (.cells #[.pointer (some ⟨z.ap, 0, none⟩)] 23 (0, 0)) := by rw [← hw1, ← hg]; exact heap_alloc_new w _
  have hx : w1.cell? ⟨g, 0, none⟩ = some (.pointer (some ⟨z.ap, 0, none⟩)) := by simp [World.cell?, hxh]
  have hb1 : Below w.heap.size w w1 := by rw [← hw1]; exact (Below.refl _ _).alloc (Nat.le_refl _) _
  have h' := h.below hb1
  have hap := h.lt (i := 0) (k := z.ap) (by omega) rfl
  have hm1 : w1.heap[z.ap]? = some (.cells (arCells z 0 s.id s.ver).toArray 88 (0, 0)) := (hb1.block _ hap).trans hm
  obtain ⟨hne1, hne2⟩ := h.ap_ne
  have hgne : ¬ z.ap = g := by omega
  have c1 := (me_at hm1 1).1
  have c2 := (me_at hm1 2).1
  obtain ⟨w2, hw2⟩ : ∃ w2, w1.setCell ⟨z.ap, 2, none⟩ (.int .i32 1) = w2 := ⟨_, rfl⟩
  have k2 : ∀ k, k ≠ z.ap → w2.heap[k]? = w1.heap[k]? := fun k hk => by rw [← hw2]; exact Below.heap_setCell _ _ _ _ hk
  have hd2 : DvS w2 z.dp z.dq s.d := Dv.same h'.dv (k2 _ (fun e => hne1 e.symm)) (k2 _ (fun e => hne2 e.symm))
  have hx2 : w2.cell? ⟨g, 0, none⟩ = some (.pointer (some ⟨z.ap, 0, none⟩)) := (World.cell?_of_block (w := w1) (a := ⟨g, 0, none⟩) (k2 g (fun e => hgne e.symm))).trans hx
  have hm2 : w2.heap[z.ap]? = some (.cells ((arCells z 0 s.id s.ver).set 2 (.int .i32 1)).toArray 88 (0, 0)) := by
    rw [← hw2, heap_setCell_same _ _ _ _ _ _ hm1]
    simp
  have ha2 : w2.cell? ⟨z.ap, 0, none⟩ = some (.pointer (some ⟨z.dp, 0, none⟩)) := by simp [World.cell?, hm2, arCells, onceCells]
  have HF := fmt1_any hx2 ha2 hd2 h10
  rw [← hw2] at HF
  have HDO := Lib.hid (ondo z.ap 1 141 #[.pointer (some ⟨g, 0, none⟩)] (fun W => DvS W z.dp z.dq s.d.format ∧ Turns z.dp z.dq (w1.setCell ⟨z.ap, 2, none⟩ (.int .i32 1)) W) w1 c1 c2 (me_at hm1 2).2 (enters_of Tryz.func141 (by kernel_rfl) rfl) HF (fun W hW => by
    have hb : W.heap[z.ap]? = some (.cells ((arCells z 0 s.id s.ver).set 2 (.int .i32 1)).toArray 88 (0, 0)) := (hW.2.block z.ap hne1 hne2 (by rw [hw2]; exact lt_of_heap hm2)).trans (by rw [hw2]; exact hm2)
    refine ⟨?_, ?_, ?_, ?_⟩ <;> simp [World.cell?, World.frozen?, hb, arCells, onceCells]))
  have HFIN : Hid (∀ w3, DvS w3 z.dp z.dq s.d.format → Turns z.dp z.dq (w1.setCell ⟨z.ap, 2, none⟩ (.int .i32 1)) w3 → ArTo b w col z { s with d := s.d.format } ((w3.drew.setCell ⟨z.ap, 1, none⟩ (.int .u32 1)).setCell ⟨z.ap, 2, none⟩ (.int .i32 0))) := fun w3 h3 t3 => by
    rw [hw2] at t3
    have hb3 : w3.heap[z.ap]? = some (.cells ((arCells z 0 s.id s.ver).set 2 (.int .i32 1)).toArray 88 (0, 0)) := (t3.block z.ap hne1 hne2 (lt_of_heap hm2)).trans hm2
    obtain ⟨w4, hw4⟩ : ∃ w4, (w3.drew.setCell ⟨z.ap, 1, none⟩ (.int .u32 1)).setCell ⟨z.ap, 2, none⟩ (.int .i32 0) = w4 := ⟨_, rfl⟩
    have k4 : ∀ k, k ≠ z.ap → w4.heap[k]? = w3.heap[k]? := fun k hk => by rw [← hw4, Below.heap_setCell _ _ _ _ hk, Below.heap_setCell _ _ _ _ hk]; rfl
    have hm4 : w4.heap[z.ap]? = some (.cells (arCells z 1 s.id s.ver).toArray 88 (0, 0)) := by
      rw [← hw4, heap_setCell_same _ _ _ _ _ _ (heap_setCell_same w3.drew _ _ _ _ _ hb3)]
      simp [arCells, onceCells]
    have hs4 : w4.heap.size = w3.heap.size := by rw [← hw4]; simp [World.setCell]
    rw [hw4]
    have hst : Stay (fun k => (k = z.dp ∨ k = z.dq) ∨ k = z.ap) w1 w4 := by
      have a1 : Stay (fun k => (k = z.dp ∨ k = z.dq) ∨ k = z.ap) w1 w2 := by rw [← hw2]; exact Stay.setCell _ _ _ _ (.inr rfl)
      have a2 : Stay (fun k => (k = z.dp ∨ k = z.dq) ∨ k = z.ap) w2 w3 := t3.stay2.mono (fun k _ e => .inl e)
      have a3 : Stay (fun k => (k = z.dp ∨ k = z.dq) ∨ k = z.ap) w3 w4 := by
        rw [← hw4]
        exact (((Stay.refl _ w3).drewN 1).trans (Stay.setCell _ _ _ _ (.inr rfl))).trans (Stay.setCell _ _ _ _ (.inr rfl))
      exact (a1.trans a2).trans a3
    have hto := h'.setDev0 hm4 (Dv.same h3 (k4 _ (fun e => hne1 e.symm)) (k4 _ (fun e => hne2 e.symm))) hst
    exact ArTo.trans rfl (Stay.of_below hb1) (fun _ _ => rfl) (fun k hk => .inl (h.nw k hk)) hto
  clear hm h10 hxh h' hm1 c1 c2 k2 hd2 hx2 hm2 ha2 HF hb1 hw2 hap hne1 hne2
  go_enter Tryz.func92, Tryz.ntmps92
  go_wp2_with (go_at_call 140; refine HDO.out.mono ?_; rintro e w' ⟨rfl, w3, ⟨h3, t3⟩, rfl⟩; have H3 := Lib.hid h3; have T3 := Lib.hid t3; clear h3 t3)
  refine bodyPost_end (results_none rfl _ _ _) rfl ?_
  exact ⟨rfl, HFIN.out _ H3.out T3.out⟩

/-- What New leaves where it does not refuse. -/
def azN (lines n : Nat) : Az := { az0 (fresh lines, five0) n 0 with d := St.format (fresh lines, five0) }
theorem dv_fresh10 (n : Nat) : (fresh n).length = n := List.length_replicate
set_option maxHeartbeats 1600000 in
theorem arnew_ok {b : Nat} {w : World} {col : Nat → Nat} (lines n : Nat) (hl : 10 ≤ lines) (hl2 : lines ≤ 258) (h1 : 1 ≤ n) (h4 : n ≤ 4) (hc0 : ∀ k, w.heap.size ≤ k → col k = 0) (hfr : ∀ k, Free b col k) :
    Calls Tryz.prog 45 #[.int .i64 lines, .int .i64 n] w fun e w' => ∃ ap col' z, e = .returned (.tuple #[.pointer (some ⟨ap, 0, none⟩), .int .i64 0]) ∧ z.ap = ap ∧ Ar b w' col' z (azN lines n) ∧ Below w.heap.size w w' ∧ (∀ k, k < w.heap.size → col' k = col k) ∧ (∀ k, w.heap.size ≤ k → col' k = 0 ∨ (b < col' k ∧ col' k ≤ b + 10)) := by
  have HN := Lib.hid (new_ok lines (by omega) hl2 w)
  have HC0 := Lib.hid hc0
  have HFR := Lib.hid hfr
  have HL := Lib.hid hl
  have HE := Lib.hid (fun (v : World) (dp dq : Nat) (hd : DvS v dp dq (fresh lines, five0)) (c : Nat → Nat) (hp : c dp = b + 2) (hq : c dq = b + 2) => arempty_ok (b := b) (col := c) hd (by show 10 ≤ (fresh lines).length; rw [dv_fresh10]; exact hl) n h1 h4 0 (by omega) hp hq)
  clear hc0 hfr
  go_enter Tryz.func45, Tryz.ntmps45
  go_wp2_with fail
  refine HN.out.mono ?_
  rintro e w1 ⟨dp, dq, rfl, hp, hq, hd, hb1⟩
  have ld := hd.lt_p
  have ld2 := hd.lt_q
  have HD := Lib.hid hd
  have HB1 := Lib.hid hb1
  have HPQ : Hid (w.heap.size ≤ dp ∧ w.heap.size ≤ dq ∧ dp < w1.heap.size ∧ dq < w1.heap.size) := ⟨hp, hq, ld, ld2⟩
  obtain ⟨c1, hc1⟩ : ∃ c1 : Nat → Nat, (fun k => if k = dp ∨ k = dq then b + 2 else col k) = c1 := ⟨_, rfl⟩
  have HEE := Lib.hid (HE.out w1 dp dq hd c1 (by rw [← hc1]; exact if_pos (.inl rfl)) (by rw [← hc1]; exact if_pos (.inr rfl)))
  have HC1 := Lib.hid hc1
  clear hd hb1 hp hq ld ld2 hc1
  go_wp2_with fail
  refine HEE.out.mono ?_
  rintro e w2 ⟨c2, z, rfl, har, hm, hdp, hdq, hb2, hk1, hk2, hap⟩
  have HAR := Lib.hid har
  have HB2 := Lib.hid hb2
  have HK1 := Lib.hid hk1
  have HK2 := Lib.hid hk2
  have HFM := Lib.hid (arfmt_any har hm (by show 10 ≤ (fresh lines).length; rw [dv_fresh10]; exact HL.out))
  have HAP : Hid (w1.heap.size ≤ z.ap) := hap
  have HDP : Hid (z.dp = dp ∧ z.dq = dq) := ⟨hdp, hdq⟩
  clear har hm hdp hdq hb2 hk1 hk2 hap
  generalize hza : z.ap = ap at *
  go_wp2_with fail
  refine HFM.out.mono ?_
  rintro e w3 ⟨rfl, h3⟩
  have H3 := Lib.hid h3
  clear h3
  go_wp2
  go_ret2
  obtain ⟨⟨c3, z3, h3, hz3, hk3, hn3⟩, hst⟩ := H3.out
  have hzz : z3.ap = ap := by
    have : z3.base.head? = z.base.head? := by rw [hz3]
    simpa [Pz.base, hza] using this
  have hb1 := HB1.out
  have hb2 := HB2.out
  have s1 := hb1.size
  have s2 := hb2.size
  have hpq := HPQ.out
  have hk1 := HK1.out
  have hk2 := HK2.out
  have hc1 := HC1.out
  have col1 : ∀ k, k < w.heap.size → c1 k = col k := fun k hk => by rw [← hc1]; exact if_neg (by omega)
  refine ⟨ap, c3, z3, rfl, hzz, h3, ?_, fun k hk => ?_, fun k hk => ?_⟩
  · refine ((hb1.trans (hb2.mono s1)).trans (hst.below (g := w.heap.size) (fun k hk => ?_) (by omega)))
    rcases Nat.lt_or_ge k w.heap.size with h | h
    · exfalso
      rw [hk1 k (by omega), col1 k h] at hk
      rcases HFR.out k with e | e <;> omega
    · exact h
  · rw [hk3 k (by omega), hk1 k (by omega), col1 k hk]
  · rcases Nat.lt_or_ge k w2.heap.size with h | h
    · rw [hk3 k h]
      rcases Nat.lt_or_ge k w1.heap.size with h4 | h4
      · rw [hk1 k h4, ← hc1]
        dsimp only
        by_cases e : k = dp ∨ k = dq
        · rw [if_pos e]; right; omega
        · rw [if_neg e]; exact .inl (HC0.out k hk)
      · exact hk2 k h4
    · exact hn3 k h

end Go.Proofs.YtlghphccmgmomaaGreat
