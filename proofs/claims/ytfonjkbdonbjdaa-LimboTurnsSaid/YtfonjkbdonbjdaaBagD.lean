/-
  Proved here: what package limbo's iterator over the ready entries tells its loop.
  Conditions: none.
-/
import Derived.Test.YtfonjkbdonbjdaaBagC
import Derived.RangeFuncNested
import Derived.RangeFuncBound
import Derived.RangeFuncCalls
import Derived.RangeFuncLeaves
import Derived.Shelf.Abstract
import Derived.Shelf.RegionOpen
import Derived.WalkKit
import Derived.OwnWalkIn
import Derived.TacticsInMore
import Derived.LoopNIn
import Derived.LoopIn
namespace Go.Proofs.Ytfonjkbdonbjdaa
open Go Go.RowKit

theorem wpListIn_alloc_var {F : Fence} {n : Nat} {P : Program} {ops : Array Oper} {rest : List Oper} {o : Oper} {a : Act} {w : World} {Q : Exit → Act → World → Prop} (hgd : o.guard = none) (t : TypeId) (ho : o.op = .alloc t) (g : Nat) (hg : w.heap.size = g) (z : Value)
    (hz : (P.info? t).bind (·.zero) = some z) (k : ∀ w', Hid (w'.heap[g]? = some (.cells z.cells t (0, 0))) → Hid (Below g w w') → wpListIn F n P ops Q rest (a.put o.dst (.pointer (some ⟨g, 0, none⟩))) w') : wpListIn F n P ops Q (o :: rest) a w := by
  subst hg
  obtain ⟨i, hi, hiz⟩ := Option.bind_eq_some_iff.1 hz
  refine wpListIn_plain hgd fun K hK' => ?_
  unfold Oper.wpIn
  refine ⟨?_, ?_⟩
  · simp [Oper.about, ho]
  · rw [Oper.semAt_plain F _ _ (by rw [ho]; intro c hc'; cases hc')]
    simp only [execOp, ho, Sem.run_bind, Instr.alloc, zeroValue, typeInfo, newVar, newRow, run_newObj_alloc, Sem.run_pure, Result.andThen_ok]
    simp only [run_program, Result.andThen_ok, hi, hiz, Sem.run_pure]
    exact hK' _ _ (k _ (heap_alloc_new w _) ((Below.refl _ _).alloc (Nat.le_refl _) _))
theorem wpListIn_store_whole {F : Fence} {n : Nat} {P : Program} {ops : Array Oper} {rest : List Oper} {o : Oper} {a : Act} {w : World} {Q : Exit → Act → World → Prop} (hgd : o.guard = none) (ty : TypeId) (x y : Operand) (ho : o.op = .store ty x y) (hd : o.dst = none)
    (g : Nat) (cells : Array Value) (hx : a.eval x = .pointer (some ⟨g, 0, none⟩)) (hy : a.eval y = .agg cells)
    (t : TypeId) (old : Array Value) (hg : w.heap[g]? = some (.cells old t (0, 0))) (hi : (P.info? ty).map (·.size) = some cells.size) (hold : old.size = cells.size) (h1 : cells.all (·.oneCell') = true)
    (k : ∀ w', Hid (w'.heap[g]? = some (.cells cells t (0, 0))) → Hid (Below g w w') → wpListIn F n P ops Q rest a w') : wpListIn F n P ops Q (o :: rest) a w := by
  refine wpListIn_plain hgd fun K hK' => ?_
  unfold Oper.wpIn
  refine ⟨?_, ?_⟩
  · simp [Oper.about, ho]
  · rw [Oper.semAt_plain F _ _ (by rw [ho]; intro c hc'; cases hc')]
    simp only [execOp, ho, hx, hy, Instr.storeAt, Instr.sureAddr, Sem.run_bind, Sem.run_pure, Result.andThen_ok, run_storeVar_row w g t ty old cells hg hi hold h1]
    refine hK' _ _ ?_
    rw [hd]
    exact k _ (setRow_heap w g _ _ t _ hg) ⟨rfl, rfl, rfl, by simp, fun k hk => setRow_other _ _ k _ (by omega)⟩
attribute [local go_sem] Oper.semAt_some
/-- What the iterator finds: its boxes, the bag and the clock. -/
structure ItE (w : World) (Bb Br Bd p lo q rp rq : Nat) (L : List En) (R : List Nat) (now D : Nat) : Prop where
  bb : Boxed w Bb 24 (.pointer (some ⟨p, 0, none⟩))
  br : Boxed w Br 30 (.pointer (some ⟨rp, 0, none⟩))
  bd : Boxed w Bd 38 (.int .u64 (D : Nat))
  bg : BgP w p lo q L
  rd : RdP w rp rq R now
theorem ItE.below {w w' : World} {Bb Br Bd p lo q rp rq : Nat} {L : List En} {R : List Nat} {now D : Nat} (h : ItE w Bb Br Bd p lo q rp rq L R now D) (hb : Below w.heap.size w w') : ItE w' Bb Br Bd p lo q rp rq L R now D :=
  ⟨(hb.block Bb h.bb.lt).trans h.bb, (hb.block Br h.br.lt).trans h.br, (hb.block Bd h.bd.lt).trans h.bd, h.bg.below hb, h.rd.below hb⟩
theorem ones5 (a b c d e : Int) : (#[.int .i64 a, .int .i64 b, .int .u64 c, .int .u64 d, .int .i64 e] : Array Value).all (·.oneCell') = true := all_oneCell_toArray (fun u hu => by
  simp only [List.mem_cons, List.not_mem_nil, or_false] at hu
  rcases hu with rfl | rfl | rfl | rfl | rfl <;> rfl)
theorem cells5 {w : World} {g : Nat} {T : TypeId} {v0 v1 v2 v3 v4 : Value} (h : w.heap[g]? = some (.cells #[v0, v1, v2, v3, v4] T (0, 0))) : w.cell? ⟨g, 0, none⟩ = some v0 ∧ w.cell? ⟨g, 1, none⟩ = some v1 ∧ w.cell? ⟨g, 2, none⟩ = some v2 ∧ w.cell? ⟨g, 3, none⟩ = some v3 ∧ w.cell? ⟨g, 4, none⟩ = some v4 := by
  refine ⟨?_, ?_, ?_, ?_, ?_⟩ <;> simp [World.cell?, h]
theorem zero_entry : (Try.prog.info? 40).bind (·.zero) = some (.agg #[.int .i64 0, .int .i64 0, .int .u64 0, .int .u64 0, .int .i64 0]) := by
  obtain ⟨i, hi, hz, _⟩ := entry_info'
  simp [hi, hz]
set_option maxRecDepth 100000 in
set_option maxHeartbeats 2000000 in
theorem bgiter_in (n : Nat) (hn : 1 ≤ n) (l n₀ Bb Br Bd p lo q rp rq : Nat) (L : List En) (R : List Nat) (now D : Nat) (J Jx : List (Nat × En) → World → Prop) (W : World) (hJ : AbidesFrom W.heap.size J) (w0 : World) (hw0 : w0.heap.size = n₀) (hI : ItE w0 Bb Br Bd p lo q rp rq L R now D) (hW : Below n₀ w0 W)
    (hY : ∀ pre x W, J pre W → pre.length < L.length → YieldAt Fence.wide (n - 1) Try.prog l #[.int .i64 ((x : Nat × En).1 : Int), .agg #[.int .i64 x.2.line, .int .i64 x.2.cl, .int .u64 (x.2.r : Nat), .int .u64 (x.2.d : Nat), .int .i64 x.2.anti]] W fun e W' =>
      (e = .returned (.bool true) ∧ J (pre ++ [x]) W' ∧ Below n₀ W W') ∨ (e = .returned (.bool false) ∧ Jx (pre ++ [x]) W'))
    (h0 : J [] W) :
    CallsIn Fence.wide n Try.prog 53 #[.func (.yield l) #[] #[], .pointer (some ⟨Bb, 0, none⟩), .pointer (some ⟨Br, 0, none⟩), .pointer (some ⟨Bd, 0, none⟩)] W fun e W' => (∃ v, e = .returned v) ∧
      ((∃ ys, ys = cameE (readyB (quietB R) D) L L.length ∧ J ys W') ∨ (∃ pre, (∃ k, k ≤ L.length ∧ pre = cameE (readyB (quietB R) D) L k) ∧ Jx pre W')) := by
  have HIT : Hid (∀ wx, Below n₀ w0 wx → ItE wx Bb Br Bd p lo q rp rq L R now D) := fun wx hb => hI.below (hw0 ▸ hb)
  obtain ⟨A, cap, _, hA, hrd⟩ := hI.bg.reads
  have HRD : Hid (∀ wx, Below n₀ w0 wx → wx.cell? ⟨p, 0, none⟩ = some (.slice A L.length cap) ∧ RowE wx A L) := fun wx hb => hrd wx (hw0 ▸ hb)
  have hbb := (HIT.out W hW).bb.cell
  have hc := (HRD.out W hW).1
  have HY := Lib.hid hY
  have HJ := Lib.hid hJ
  have HW := Lib.hid hW
  have HB258 := Lib.hid hI.bg.most
  clear hY hJ hrd hI hA
  have hlen : L.length ≤ 258 := HB258.out
  refine callsIn_of_wp Try.func53 rfl trivial ?_ rfl
  simp only [Try.ntmps53, List.size_toArray, List.length_cons, List.length_nil, Nat.reduceAdd, Nat.reduceSub, Array.replicate_succ, Array.replicate_zero, List.push_toArray, List.append_toArray, List.nil_append, List.cons_append]
  gi_wp2
  gi_loopw [12] (fun i wr => ∃ k : Nat, k ≤ L.length ∧ i = .int .i64 k ∧ J (cameE (readyB (quietB R) D) L k) wr ∧ Hid (Below n₀ w0 wr))
    (fun i _ => L.length - (intOf i).toNat)
  case atStart => exact ⟨0, Nat.zero_le _, rfl, h0, HW⟩
  case round =>
    obtain ⟨k, hk, rfl, hJs, HX⟩ := hrel
    by_cases hlt : k < L.length
    · have hgi := List.getElem?_eq_getElem hlt
      generalize L[k] = e at *
      obtain ⟨b, off, rfl, hbl, c0, c1, c2, c3, c4⟩ := ((HRD.out wr HX.out).2).at_ hgi
      have HJJ : Hid (∀ B, Below wr.heap.size wr B → J (cameE (readyB (quietB R) D) L k) B) := fun B hb => HJ.out _ wr B none hJs (grown_below hb) (fun r e => by cases e)
      have HXX : Hid (∀ B, Below wr.heap.size wr B → Below n₀ w0 B) := fun B hb => HX.out.trans (hb.mono (by have := HX.out.size; omega))
      have HYK : Hid (∀ B, J (cameE (readyB (quietB R) D) L k) B → YieldAt Fence.wide (n - 1) Try.prog l #[.int .i64 (k : Int), .agg #[.int .i64 e.line, .int .i64 e.cl, .int .u64 (e.r : Nat), .int .u64 (e.d : Nat), .int .i64 e.anti]] B fun y W' =>
        (y = .returned (.bool true) ∧ J (cameE (readyB (quietB R) D) L k ++ [(k, e)]) W' ∧ Below n₀ B W') ∨ (y = .returned (.bool false) ∧ Jx (cameE (readyB (quietB R) D) L k ++ [(k, e)]) W')) := fun B hb => HY.out _ (k, e) B hb (Nat.lt_of_le_of_lt (came_len _ _ _) hlt)
      have HRY : Hid (∀ B, Below n₀ w0 B → Calls Try.prog 54 #[.agg #[.int .i64 e.line, .int .i64 e.cl, .int .u64 (e.r : Nat), .int .u64 (e.d : Nat), .int .i64 e.anti], .pointer (some ⟨rp, 0, none⟩), .int .u64 (D : Nat)] B fun x w' => x = .returned (.bool (readyB (quietB R) D e)) ∧ Below B.heap.size B w') := fun B hb => isready_any (HIT.out B hb).rd e D
      have HSZ := Lib.hid size_entry
      have HZ := Lib.hid zero_entry
      obtain ⟨gw, hgw⟩ : ∃ gw, wr.heap.size = gw := ⟨_, rfl⟩
      have HG := Lib.hid hgw
      have hci := hgi
      cases hz : readyB (quietB R) D e with
      | true =>
        rw [hz] at HRY
        have HNX := Lib.hid (came_yes (p := readyB (quietB R) D) hgi hz)
        generalize e.line = x0 at *
        generalize e.cl = x1 at *
        generalize e.anti = x4 at *
        generalize (e.r : Int) = x2 at *
        generalize (e.d : Int) = x3 at *
        gi_wp2_with (first
          | ((with_reducible show wpListIn _ _ _ _ _ (⟨some 6, _, _, _, _, _⟩ :: _) _ _); refine wpListIn_alloc_var (o := ⟨some 6, _, _, _, _, _⟩) rfl 40 rfl gw HG.out _ HZ.out ?_; intro w5 H5 B5)
          | ((with_reducible show wpListIn _ _ _ _ _ (⟨none, .store _ _ _, _, _, _, _⟩ :: _) _ _); refine wpListIn_store_whole (o := ⟨none, .store 40 (.tmp 6) (.tmp 16), _, _, _, _⟩) rfl _ _ _ rfl rfl gw #[.int .i64 x0, .int .i64 x1, .int .u64 x2, .int .u64 x3, .int .i64 x4] rfl rfl 40 _ H5.out size_entry rfl (ones5 x0 x1 x2 x3 x4) ?_; intro w6 H6 B6; obtain ⟨b0, b1, b2, b3, b4⟩ := cells5 H6.out; have B56 : Below wr.heap.size wr w6 := HG.out.symm ▸ B5.out.trans B6.out; have hx6 := HXX.out w6 B56; have hcb := (HIT.out w6 hx6).br.cell; have hcd := (HIT.out w6 hx6).bd.cell; have HRY6 := Lib.hid (HRY.out w6 hx6); have HB6 := Lib.hid B56; have HH6 := Lib.hid H6; clear B56 hx6 H5 H6 B5 B6)
          | (refine ⟨trivial, ?_⟩; gi_at_call 54; refine (callsIn_wide.2 HRY6.out).mono ?_; rintro y w7 ⟨rfl, hb7⟩; have B7 : Below wr.heap.size wr w7 := HB6.out.trans (hb7.mono HB6.out.size); obtain ⟨d0, d1, d2, d3, d4⟩ := cells5 ((hb7.block gw (lt_of_heap HH6.out)).trans HH6.out); obtain ⟨fn, tmps, assign, body, hy, hR⟩ := HYK.out w7 (HJJ.out w7 B7); have HX7 := Lib.hid (HXX.out w7 B7))
          | fail)
        refine hR.mono ?_
        rintro y W3 (⟨rfl, hJ3, hk3⟩ | ⟨rfl, hJx3⟩)
        · gi_wp2
          go_roundw
          case rel => exact ⟨k + 1, by omega, by simp, by rw [HNX.out]; exact hJ3, HX7.out.trans hk3⟩
          case measure => simp [intOf]; omega
        · gi_wp2
          refine bodyPost_ret (results_none rfl _ _ _) rfl ?_
          exact ⟨⟨_, rfl⟩, .inr ⟨_, ⟨k + 1, by omega, HNX.out.symm⟩, hJx3⟩⟩
      | false =>
        rw [hz] at HRY
        have HNX := Lib.hid (came_no (p := readyB (quietB R) D) hgi hz)
        generalize e.line = x0 at *
        generalize e.cl = x1 at *
        generalize e.anti = x4 at *
        generalize (e.r : Int) = x2 at *
        generalize (e.d : Int) = x3 at *
        gi_wp2_with (first
          | ((with_reducible show wpListIn _ _ _ _ _ (⟨some 6, _, _, _, _, _⟩ :: _) _ _); refine wpListIn_alloc_var (o := ⟨some 6, _, _, _, _, _⟩) rfl 40 rfl gw HG.out _ HZ.out ?_; intro w5 H5 B5)
          | ((with_reducible show wpListIn _ _ _ _ _ (⟨none, .store _ _ _, _, _, _, _⟩ :: _) _ _); refine wpListIn_store_whole (o := ⟨none, .store 40 (.tmp 6) (.tmp 16), _, _, _, _⟩) rfl _ _ _ rfl rfl gw #[.int .i64 x0, .int .i64 x1, .int .u64 x2, .int .u64 x3, .int .i64 x4] rfl rfl 40 _ H5.out size_entry rfl (ones5 x0 x1 x2 x3 x4) ?_; intro w6 H6 B6; obtain ⟨b0, b1, b2, b3, b4⟩ := cells5 H6.out; have B56 : Below wr.heap.size wr w6 := HG.out.symm ▸ B5.out.trans B6.out; have hx6 := HXX.out w6 B56; have hcb := (HIT.out w6 hx6).br.cell; have hcd := (HIT.out w6 hx6).bd.cell; have HRY6 := Lib.hid (HRY.out w6 hx6); have HB6 := Lib.hid B56; have HH6 := Lib.hid H6; clear B56 hx6 H5 H6 B5 B6)
          | (refine ⟨trivial, ?_⟩; gi_at_call 54; refine (callsIn_wide.2 HRY6.out).mono ?_; rintro y w7 ⟨rfl, hb7⟩; have B7 : Below wr.heap.size wr w7 := HB6.out.trans (hb7.mono HB6.out.size); have hJ7 := HJJ.out w7 B7; have HX7 := Lib.hid (HXX.out w7 B7))
          | fail)
        refine ⟨fun _ h => (by cases h), ?_⟩
        gi_wp2
        go_roundw
        case rel => exact ⟨k + 1, by omega, by simp, by rw [HNX.out]; exact hJ7, HX7.out⟩
        case measure => simp [intOf]; omega
    · obtain rfl : k = L.length := by omega
      gi_wp2
      go_end0
      exact ⟨⟨_, rfl⟩, .inl ⟨_, rfl, hJs⟩⟩

end Go.Proofs.Ytfonjkbdonbjdaa
