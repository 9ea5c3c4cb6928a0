/-
  Proved here: what package limbo's Pop answers and leaves, and its Ready of a bag.
  Conditions: none.
-/
import Derived.Test.YtfonjkbdonbjdaaBagF
namespace Go.Proofs.Ytfonjkbdonbjdaa
open Go Go.RowKit

set_option maxHeartbeats 1600000 in
theorem bgpop_yes {w : World} {p lo q rp rq : Nat} {L : List En} {R : List Nat} {now : Nat} (h : BgP w p lo q L) (hr : RdP w rp rq R now) (D : Nat) (hh : hasE (readyB (quietB R) D) L = true) :
    Calls Try.prog 22 #[.pointer (some ⟨p, 0, none⟩), .pointer (some ⟨rp, 0, none⟩), .int .u64 (D : Nat)] w fun y w' => y = .returned (.tuple #[(headE (readyB (quietB R) D) L).val, .bool true]) ∧ BgP w' p lo q (popE (readyB (quietB R) D) L) ∧ Turns p q w w' := by
  have HF := Lib.hid (first_bag h hr D)
  rw [hh, if_pos rfl] at HF
  have hltp := h.lt_p
  have hltq := h.lt_q
  generalize readyB (quietB R) D = rb at *
  obtain ⟨i, m, cap, hi, hL, hqp, hrow⟩ := pop_row h rb hh
  have hi258 : i + 1 + m ≤ 258 := by have := h.most; omega
  clear hL
  rw [← hi] at HF
  have HROW := Lib.hid hrow
  have HZ := Lib.hid zero_entry
  obtain ⟨g, hg⟩ : ∃ g, w.heap.size = g := ⟨_, rfl⟩
  have HG := Lib.hid hg
  rw [hg] at hltp hltq
  have HLP := Lib.hid hltp
  have HLQ := Lib.hid hltq
  have HEB : Hid (∀ (w' : World) (g : Nat), w'.heap[g]? = some (.cells #[.int .i64 (headE rb L).line, .int .i64 (headE rb L).cl, .int .u64 ((headE rb L).r : Nat), .int .u64 ((headE rb L).d : Nat), .int .i64 (headE rb L).anti] 40 (0, 0)) → EBox w' g (headE rb L)) := fun w' g h => h
  obtain ⟨V, hV⟩ : ∃ V, V = (headE rb L).val := ⟨_, rfl⟩
  have HV := Lib.hid hV
  rw [← hV]
  unfold FirstSays at HF
  generalize headE rb L = e at *
  generalize popE rb L = L' at *
  generalize e.line = x0 at *
  generalize e.cl = x1 at *
  generalize e.anti = x4 at *
  generalize (e.r : Int) = x2 at *
  generalize (e.d : Int) = x3 at *
  clear h hV hr hh hi hrow hltp hltq
  go_enter Try.func22, Try.ntmps22
  go_wp2_with (first
    | ((with_reducible show wpList _ _ _ (⟨some 6, .alloc _, _, _, _, _⟩ :: _) _ _); refine wpList_alloc_var (o := ⟨some 6, _, _, _, _, _⟩) rfl 40 rfl g HG.out _ HZ.out ?_; intro w1 H1 B1; have HB1 : Hid (Below w.heap.size w w1) := HG.out.symm ▸ B1.out)
    | ((with_reducible show Calls _ 35 _ _ _); refine (HF.out _ HB1.out).mono ?_; rintro y w2 ⟨rfl, hb2⟩; have HB2 : Hid (Below w.heap.size w w2) := HB1.out.trans (hb2.mono HB1.out.size); have H2 : Hid (w2.heap[g]? = _) := (hb2.block g (lt_of_heap H1.out)).trans H1.out; obtain ⟨g2, hg2⟩ : ∃ g2, w2.heap.size = g2 := ⟨_, rfl⟩; have HG2 := Lib.hid hg2; have HL2 : Hid (g < g2) := (hg2 ▸ lt_of_heap H2.out); clear hb2 hg2)
    | ((with_reducible show wpList _ _ _ (⟨some 9, .alloc _, _, _, _, _⟩ :: _) _ _); refine wpList_alloc_var (o := ⟨some 9, _, _, _, _, _⟩) rfl 40 rfl g2 HG2.out _ HZ.out ?_; intro w3 H3 B3)
    | ((with_reducible show wpList _ _ _ (⟨none, .store _ (.tmp 9) _, _, _, _, _⟩ :: _) _ _); refine wpList_store_whole (o := ⟨none, .store 40 (.tmp 9) (.tmp 17), _, _, _, _⟩) rfl _ _ _ rfl rfl g2 #[.int .i64 x0, .int .i64 x1, .int .u64 x2, .int .u64 x3, .int .i64 x4] rfl rfl 40 _ H3.out size_entry rfl (ones5 _ _ _ _ _) ?_; intro w4 H4 B4; have HB4 : Hid (Below w.heap.size w w4) := HB2.out.trans ((B3.out.trans B4.out).mono (by rw [HG.out]; exact Nat.le_of_lt HL2.out)); obtain ⟨hc4, hd4⟩ := HROW.out w4 HB4.out; have HD4 := Lib.hid hd4; clear hd4)
    | ((with_reducible show Calls _ 42 _ _ _); refine HD4.out.mono ?_; rintro y w5 ⟨rfl, hc5, hf5, hb5, ht5, hk5⟩; obtain ⟨w7, hw7⟩ : ∃ w7, w5.setCell ⟨p, 0, none⟩ (.slice (some ⟨q, 0, none⟩) (i + m) cap) = w7 := ⟨_, rfl⟩; rw [hw7] at hb5 ht5 hk5; have HB5 := Lib.hid hb5; have HT5 := Lib.hid ht5; have HK5 := Lib.hid hk5; have HE5 := Lib.hid ((hk5 g2 (lt_of_heap H4.out) (Nat.ne_of_gt (Nat.lt_trans HLQ.out HL2.out)) (Nat.ne_of_gt (Nat.lt_trans HLP.out HL2.out))).trans H4.out); have HGE5 := Lib.hid ((hk5 g (Nat.lt_trans HL2.out (lt_of_heap H4.out)) (Nat.ne_of_gt HLQ.out) (Nat.ne_of_gt HLP.out)).trans ((B4.out.block g HL2.out).trans ((B3.out.block g HL2.out).trans H2.out))); obtain ⟨c0, c1, c2, c3, c4⟩ := cells5 HE5.out; clear hb5 ht5 hk5)
    | ((with_reducible show wpList _ _ _ (⟨none, .store _ (.tmp 6) _, _, _, _, _⟩ :: _) _ _); refine wpList_store_whole (o := ⟨none, .store 40 (.tmp 6) (.tmp 31), _, _, _, _⟩) rfl _ _ _ rfl rfl g #[.int .i64 x0, .int .i64 x1, .int .u64 x2, .int .u64 x3, .int .i64 x4] rfl rfl 40 _ HGE5.out size_entry rfl (ones5 _ _ _ _ _) ?_; intro w6 H6 B6)
    | fail)
  refine bodyPost_ret (results_e7 rfl rfl rfl (HEB.out _ _ H6.out)) rfl ⟨by rw [HV.out]; rfl, ?_, ?_⟩
  · exact HB5.out.same (B6.out.block p HLP.out) (B6.out.block q HLQ.out)
  · exact ⟨B6.out.os.trans HT5.out.os, B6.out.tape.trans HT5.out.tape, B6.out.output.trans HT5.out.output, Nat.le_trans HT5.out.size B6.out.size, fun k h1 h2 hk => (B6.out.block k (HG.out ▸ hk)).trans (HT5.out.block k h1 h2 hk)⟩
theorem bgready_bag {w : World} {p lo q rp rq : Nat} {L : List En} {R : List Nat} {now : Nat} (h : BgP w p lo q L) (hr : RdP w rp rq R now) (D : Nat) :
    Calls Try.prog 17 #[.pointer (some ⟨p, 0, none⟩), .pointer (some ⟨rp, 0, none⟩), .int .u64 (D : Nat)] w fun y w' => y = .returned (.tuple #[(headE (readyB (quietB R) D) L).val, .bool (hasE (readyB (quietB R) D) L)]) ∧ Below w.heap.size w w' := ready_says (first_bag h hr D)
theorem bgpop_any {w : World} {p lo q rp rq : Nat} {L : List En} {R : List Nat} {now : Nat} (h : BgP w p lo q L) (hr : RdP w rp rq R now) (D : Nat) :
    Calls Try.prog 22 #[.pointer (some ⟨p, 0, none⟩), .pointer (some ⟨rp, 0, none⟩), .int .u64 (D : Nat)] w fun y w' => y = .returned (.tuple #[(headE (readyB (quietB R) D) L).val, .bool (hasE (readyB (quietB R) D) L)]) ∧ BgP w' p lo q (popE (readyB (quietB R) D) L) ∧ Turns p q w w' := by
  cases hh : hasE (readyB (quietB R) D) L with
  | true => exact bgpop_yes h hr D hh
  | false =>
    have hf := first_bag h hr D
    rw [hh] at hf
    have hp : popE (readyB (quietB R) D) L = L := by unfold popE; rw [hh]; rfl
    rw [hp]
    refine (pop_not hf).mono ?_
    rintro y w' ⟨h1, h2⟩
    exact ⟨h1, h.below h2, turns_below h2⟩

end Go.Proofs.Ytfonjkbdonbjdaa
