/-
  Proved here, joined: InVar, VIn15, Coll15, IRepB15, OverQ15, Tw15, Does15
  Conditions: as each part says.
-/
import Derived.Test.YtpmgnhijiodbaaaOwn
import Derived.RangeFuncNested
import Derived.RangeFuncBound
import Derived.RangeFuncCalls
import Derived.RangeFuncLeaves
import Derived.RangeFuncBox
import Derived.Shelf.Abstract
import Derived.Shelf.RegionOpen
import Derived.WalkKit
import Derived.OwnWalkIn
import Derived.TacticsInMore
import Derived.LoopNIn
import Derived.LoopIn
import Derived.Test.YtpmgnhijiodbaaaMpX15
import Derived.Sort.KeysCollected
import Derived.Maps.RangeWalk
import Derived.Sort.MapsRangeIn
import Derived.Test.YtpmgnhijiodbaaaSrX15
import Derived.Test.YtpmgnhijiodbaaaDoX15
import Derived.Test.YtpmgnhijiodbaaaGot15
import Derived.Test.YtpmgnhijiodbaaaAwake15
import Derived.Test.YtpmgnhijiodbaaaLarge15
import Derived.Test.YtpmgnhijiodbaaaSameB15
import Derived.Test.YtpmgnhijiodbaaaFrX15
import Derived.Test.YtpmgnhijiodbaaaLCopy15

/-
  Proved here: variables made and stored whole in the walk of a loop over a function.
  Conditions: none.
-/
namespace Go.Proofs.Ytpmgnhijiodbaaa
open Go Go.RowKit
set_option maxRecDepth 100000

theorem wpListIn_alloc_var {F : Fence} {n : Nat} {P : Program} {ops : Array Oper} {rest : List Oper} {o : Oper} {a : Act} {w : World} {Q : Exit → Act → World → Prop} (hgd : o.guard = none) (t : TypeId) (ho : o.op = .alloc t) (g : Nat) (hg : w.heap.size = g) (z : Value)
    (hz : (P.info? t).bind (·.zero) = some z) (k : ∀ w', Hid (w'.heap[g]? = some (.cells z.cells t (0, 0))) → Hid (Below g w w') → wpListIn F n P ops Q rest (a.put o.dst (.pointer (some ⟨g, 0, none⟩))) w') : wpListIn F n P ops Q (o :: rest) a w := by
  subst hg
  obtain ⟨i, hi, hiz⟩ := Option.bind_eq_some_iff.1 hz
  refine wpListIn_plain hgd fun K hK' => ?_
  unfold Oper.wpIn
  refine ⟨?_, ?_⟩
  · simp [Oper.about, ho]
  · rw [Oper.semAt_plain F _ _ (by rw [ho]; intro c hc'; cases hc')]
    simp only [execOp, ho, Sem.run_bind, Instr.alloc, zeroValue, typeInfo, newVar, newRow, run_newObj_alloc, Sem.run_pure, Result.andThen_ok]
    simp only [run_program, Result.andThen_ok, hi, hiz, Sem.run_pure]
    exact hK' _ _ (k _ (heap_alloc_new w _) ((Below.refl _ _).alloc (Nat.le_refl _) _))
theorem wpListIn_store_whole {F : Fence} {n : Nat} {P : Program} {ops : Array Oper} {rest : List Oper} {o : Oper} {a : Act} {w : World} {Q : Exit → Act → World → Prop} (hgd : o.guard = none) (ty : TypeId) (x y : Operand) (ho : o.op = .store ty x y) (hd : o.dst = none)
    (g : Nat) (cells : Array Value) (hx : a.eval x = .pointer (some ⟨g, 0, none⟩)) (hy : a.eval y = .agg cells)
    (t : TypeId) (old : Array Value) (hg : w.heap[g]? = some (.cells old t (0, 0))) (hi : (P.info? ty).map (·.size) = some cells.size) (hold : old.size = cells.size) (h1 : cells.all (·.oneCell') = true)
    (k : ∀ w', Hid (w'.heap[g]? = some (.cells cells t (0, 0))) → Hid (Below g w w') → wpListIn F n P ops Q rest a w') : wpListIn F n P ops Q (o :: rest) a w := by
  refine wpListIn_plain hgd fun K hK' => ?_
  unfold Oper.wpIn
  refine ⟨?_, ?_⟩
  · simp [Oper.about, ho]
  · rw [Oper.semAt_plain F _ _ (by rw [ho]; intro c hc'; cases hc')]
    simp only [execOp, ho, hx, hy, Instr.storeAt, Instr.sureAddr, Sem.run_bind, Sem.run_pure, Result.andThen_ok, run_storeVar_row w g t ty old cells hg hi hold h1]
    refine hK' _ _ ?_
    rw [hd]
    exact k _ (setRow_heap w g _ _ t _ hg) ⟨rfl, rfl, rfl, by simp, fun k hk => setRow_other _ _ k _ (by omega)⟩
/-- A block of cells abides whatever turns no cells. -/
theorem cells_own {β : Type} (B : Nat) (t : TypeId) (f : β → Array Value) : Own (fun s W => W.heap[B]? = some (.cells (f s) t (0, 0))) := fun s X Y row hs hg hrow => by
  refine (hg.block B (lt_of_heap hs) (fun e' => ?_)).trans hs
  obtain ⟨o, ho, hc⟩ := hrow B e'.symm
  rw [hs] at ho
  cases ho
  cases hc

end Go.Proofs.Ytpmgnhijiodbaaa

/-
  Proved here: what the iterator over a map's pairs tells its loop.
  Conditions: none.
-/
namespace Go.Proofs.Ytpmgnhijiodbaaa
open Go Go.RowKit
set_option maxRecDepth 100000

/-! ### The pairs that a range over a map has told -/
theorem dat_mem {L : List Kv} {s : List UInt8} {y : Kv} (h : ∀ zd, (MdK L).atKey (.string s) zd = y.dat) : y ∈ L ∧ y.k.data.toList = s := by
  have h0 := h (.lit .nil)
  unfold MdK DataW.atKey at h0
  dsimp only at h0
  split at h0
  · rename_i p hp
    have hm := List.mem_of_find?_eq_some hp
    have hs := List.find?_some hp
    obtain ⟨x, hx, rfl⟩ := List.mem_map.1 hm
    obtain rfl := kdat_inj h0
    refine ⟨hx, ?_⟩
    simpa [Lit.sameKey] using hs
  · cases h0
theorem key_one {L : List Kv} (hr : Rise L) : ∀ a ∈ L, ∀ b ∈ L, a.k.data.toList = b.k.data.toList → a = b := by
  induction L with
  | nil => intro a ha; cases ha
  | cons c L ih =>
    obtain ⟨h1, h2⟩ := List.pairwise_cons.1 hr
    intro a ha b hb e
    rcases List.mem_cons.1 ha with ea | ha1
    · rcases List.mem_cons.1 hb with eb | hb1
      · rw [ea, eb]
      · have := h1 b hb1
        unfold ltK at this
        rw [← ea, Lib.toList_data, e, Lib.toList_data, lessK_irrefl] at this
        cases this
    · rcases List.mem_cons.1 hb with eb | hb1
      · have := h1 a ha1
        unfold ltK at this
        rw [← eb, Lib.toList_data, ← e, Lib.toList_data, lessK_irrefl] at this
        cases this
      · exact ih h2 a ha1 b hb1 e
theorem keys_nodup {L : List Kv} (hr : Rise L) : (L.map fun x => x.k.data.toList).Nodup := by
  refine List.pairwise_map.2 (hr.imp fun {a b} hab e => ?_)
  unfold ltK at hab
  rw [Lib.toList_data, Lib.toList_data, e, lessK_irrefl] at hab
  cases hab
theorem mdK_keys (L : List Kv) : strKeys (MdK L) = L.map fun x => x.k.data.toList := by simp [strKeys, MdK, strOf]
theorem coll_perm {L : List Kv} (hr : Rise L) {ps : List (List UInt8 × Kv)} (hk : (ps.map (·.1)).Perm (strKeys (MdK L))) (hv : ∀ p ∈ ps, ∀ zd, (MdK L).atKey (.string p.1) zd = p.2.dat) : (ps.map (·.2)).Perm L := by
  rw [mdK_keys] at hk
  have hv' : ∀ p ∈ ps, p.2 ∈ L ∧ p.2.k.data.toList = p.1 := fun p hp => dat_mem (hv p hp)
  have e1 : ps.map (·.1) = (ps.map (·.2)).map fun x => x.k.data.toList := by
    rw [List.map_map]
    exact List.map_congr_left fun p hp => (hv' p hp).2.symm
  rw [e1] at hk
  have hn := keys_nodup hr
  have hn2 := hk.symm.nodup hn
  have nod : ∀ {M : List Kv}, (M.map fun x => x.k.data.toList).Nodup → M.Nodup := fun h => (List.pairwise_map.1 h).imp fun {a b} hab e => hab (by rw [e])
  refine (List.perm_ext_iff_of_nodup (nod hn2) (nod hn)).2 fun a => ⟨fun h => ?_, fun h => ?_⟩
  · obtain ⟨p, hp, rfl⟩ := List.mem_map.1 h
    exact (hv' p hp).1
  · have : a.k.data.toList ∈ (ps.map (·.2)).map fun x => x.k.data.toList := hk.mem_iff.2 (List.mem_map.2 ⟨a, h, rfl⟩)
    obtain ⟨b, hb, eb⟩ := List.mem_map.1 this
    obtain ⟨p, hp, rfl⟩ := List.mem_map.1 hb
    have := key_one hr _ (hv' p hp).1 _ h eb
    rw [← this]
    exact hb
attribute [local go_sem] Oper.semAt_some
theorem grownB_below {w w' : World} {row : Option Nat} (h : Below w.heap.size w w') : w.grownBy w' row := ⟨h.os, h.tape, h.output, h.size, fun k hk _ => h.block k hk⟩
theorem keeps_below {W W' : World} (h : Below W.heap.size W W') : KeepsWalks W W' := KeepsWalks.of_grownBy (row := none) (grownB_below h) (fun j o e => by cases e)
theorem ones2v (a b : ByteArray) : (#[.string a, .string b] : Array Value).all (·.oneCell') = true := all_oneCell_toArray (fun u hu => by
  simp only [List.mem_cons, List.not_mem_nil, or_false] at hu
  rcases hu with rfl | rfl <;> rfl)
set_option maxHeartbeats 4000000 in
theorem valsK_in (n : Nat) (hn : 1 ≤ n) (l Bm b : Nat) (L : List Kv) (hr : Rise L) (J Jx : List Kv → World → Prop)
    (hY : ∀ pre x W, J pre W → pre.length < L.length → YieldAt Fence.wide (n - 1) Try.prog l #[.agg #[.string (x : Kv).k, .string x.v]] W fun e W' => (e = .returned (.bool true) ∧ J (pre ++ [x]) W' ∧ KeepsWalks W W') ∨ (e = .returned (.bool false) ∧ Jx (pre ++ [x]) W'))
    (W : World) (hJ : AbidesFrom W.heap.size J) (hm : W.cell? ⟨Bm, 0, none⟩ = some (.map (some b))) (hown : MapK W b L) (h0 : J [] W) :
    CallsIn Fence.wide n Try.prog 47 #[.func (.yield l) #[] #[], .pointer (some ⟨Bm, 0, none⟩)] W fun e W' => (∃ v, e = .returned v) ∧ ((∃ xs, xs.Perm L ∧ J xs W') ∨ (∃ pre, True ∧ Jx pre W')) := by
  have HY := Lib.hid hY
  have HJ := Lib.hid hJ
  have HR := Lib.hid hr
  have HZ := Lib.hid zero_pair
  have hsz := mdK_size L
  have hown' : W.ownsMap Try.prog 9 pairE b L.length (MdK L) := hown
  clear hY hJ
  refine callsIn_of_wp Try.func47 rfl trivial ?_ rfl
  simp only [Try.ntmps47, List.size_toArray, List.length_cons, List.length_nil, Nat.reduceAdd, Nat.reduceSub, Array.replicate_succ, Array.replicate_zero, List.push_toArray, List.append_toArray, List.nil_append, List.cons_append]
  gi_wp2_with (first
    | (gi_at_range; refine wpListIn_range_own _ rfl _ 62 rfl 9 42 str_lawK Try.underlying62 pairE b L.length (MdK L) rfl hown' ?_; intro w0 hrg0 hg0 hs0)
    | fail)
  go_frame
  gi_loopw [4] (fun _ wr => ∃ (left : Lit → Bool) (cnt : Nat) (ps : List (List UInt8 × Kv)), wr.ranges Try.prog 9 pairE b W.heap.size L.length (MdK L) left cnt ∧ ps.length + cnt ≤ Maps.size (MdK L) ∧ Collected (MdK L) left (ps.map (·.1)) ∧ (∀ p ∈ ps, ∀ zd, (MdK L).atKey (.string p.1) zd = p.2.dat) ∧ J (ps.map (·.2)) wr)
    (fun _ wr => wr.rangeLeft b W.heap.size)
  case atStart =>
    exact ⟨_, _, [], hrg0, by simp, Collected.start (MdK L), by simp, HJ.out [] W w0 none h0 hg0 (fun r e => by cases e)⟩
  case round =>
    obtain ⟨left, cnt, ps, hrg, hcs, hC, hV, hJs⟩ := hrel
    gi_wp2_with (first
      | (gi_at_next; refine wpListIn_next_ranges _ rfl _ rfl 9 str_lawK pairE encStr Kv.agg (fun key kl hk => by obtain ⟨x, hx, _⟩ := Maps.keyOf_str Try.underlying9 hk; exact ⟨x, hx⟩) (fun v y hv => by obtain ⟨c, rfl, _⟩ := pairE_inv hv; exact ⟨c, rfl⟩) b W.heap.size L.length _ _ _ rfl hrg ?_ ?_)
      | fail)
    · intro hc0 hl0
      have hp := coll_perm HR.out (hC.perm hown' str_lawK Try.underlying9 hl0) hV
      gi_wp2
      go_end0
      exact ⟨⟨_, rfl⟩, .inl ⟨_, hp, hJs⟩⟩
    · intro x c kl yd yp w2 cnt2 hkey hlk hv hat hrg2 hlt hg2 hs2 hen
      obtain ⟨x', ex, rfl, _⟩ := Maps.keyOf_str Try.underlying9 hkey
      obtain rfl : x = x' := encStr_inj ex
      obtain ⟨c', ec, ez⟩ := pairE_inv hv
      obtain rfl : c = c' := kdat_inj (by have h1 := pairE_mk c; rw [hv, ez] at h1; exact ((Prod.mk.inj (Option.some.inj h1)).1).symm)
      obtain rfl : yd = c.dat := (Prod.mk.inj ez).1
      have hJ2 : J (ps.map (·.2)) w2 := HJ.out _ wr w2 (some W.heap.size) hJs hg2 (fun r e => by cases e; exact ⟨Nat.le_refl _, hrg.iter_walk⟩)
      have HJ6 : Hid (∀ w6, Below w2.heap.size w2 w6 → J (ps.map (·.2)) w6) := fun w6 hb => HJ.out _ w2 w6 none hJ2 (grownB_below hb) (fun r e => by cases e)
      have HYK : Hid (∀ B, J (ps.map (·.2)) B → YieldAt Fence.wide (n - 1) Try.prog l #[.agg #[.string c.k, .string c.v]] B fun y W' => (y = .returned (.bool true) ∧ J (ps.map (·.2) ++ [c]) W' ∧ KeepsWalks B W') ∨ (y = .returned (.bool false) ∧ Jx (ps.map (·.2) ++ [c]) W')) := fun B hb => HY.out _ c B hb (by rw [List.length_map]; omega)
      have HC2 : Hid (Collected (MdK L) (fun z => left z && !z.sameKey (.string x)) ((ps ++ [(x, c)]).map (·.1))) := by have := hC.step hlk hat; show Collected _ _ _; simpa using this
      have HV2 : Hid (∀ p ∈ ps ++ [(x, c)], ∀ zd, (MdK L).atKey (.string p.1) zd = p.2.dat) := fun p hp => (List.mem_append.1 hp).elim (hV p) (fun e => by simp at e; subst e; exact hat)
      have HM2 : Hid ((ps ++ [(x, c)]).map (·.2) = ps.map (·.2) ++ [c]) := by show _ = _; simp
      have HRG2 := Lib.hid hrg2
      have HLT := Lib.hid hlt
      have HLE := Lib.hid hrg.left_eq
      obtain ⟨gw, hgw⟩ : ∃ gw, w2.heap.size = gw := ⟨_, rfl⟩
      have HG := Lib.hid hgw
      have HCS := Lib.hid hcs
      clear hs2 hJ2 hC hV hat hv ez ec hrg hrg2 hJs hlk hkey hgw hcs hlt
      unfold Kv.agg at hen
      generalize c.k = x0 at *
      generalize c.v = x1 at *
      gi_wp2_with (first
        | ((with_reducible show wpListIn _ _ _ _ _ (⟨some 4, _, _, _, _, _⟩ :: _) _ _); refine wpListIn_alloc_var (o := ⟨some 4, _, _, _, _, _⟩) rfl 42 rfl gw HG.out _ HZ.out ?_; intro w5 H5 B5)
        | ((with_reducible show wpListIn _ _ _ _ _ (⟨none, .store _ _ _, _, _, _, _⟩ :: _) _ _); refine wpListIn_store_whole (o := ⟨none, .store 42 (.tmp 4) (.tmp 10), _, _, _, _⟩) rfl _ _ _ rfl rfl gw #[.string x0, .string x1] rfl rfl 42 _ H5.out size_pair rfl (ones2v x0 x1) ?_; intro w6 H6 B6; obtain ⟨b0, b1⟩ := cells2 H6.out; have B56 : Below w2.heap.size w2 w6 := HG.out.symm ▸ B5.out.trans B6.out; have HB6 := Lib.hid B56; obtain ⟨fn, tmps, assign, body, hy, hR⟩ := HYK.out w6 (HJ6.out w6 B56); clear B56)
        | fail)
      refine hR.mono ?_
      rintro e W3 (⟨rfl, hJ3, hk3⟩ | ⟨rfl, hJx3⟩)
      · have hrg3 := HRG2.out.of_walks ((keeps_below HB6.out).trans hk3)
        gi_wp2
        go_roundw
        case rel => exact ⟨_, cnt2, ps ++ [(x, c)], hrg3, by have := HCS.out; have := HLT.out; simp; omega, HC2.out, HV2.out, by rw [HM2.out]; exact hJ3⟩
        case measure => rw [hrg3.left_eq, HLE.out]; exact HLT.out
      · gi_wp2
        refine bodyPost_ret (results_none rfl _ _ _) rfl ?_
        exact ⟨⟨_, rfl⟩, .inr ⟨_, trivial, hJx3⟩⟩

end Go.Proofs.Ytpmgnhijiodbaaa

/-
  Proved here: what slices.Collect makes of a map's pairs.
  Conditions: at most 2^20 pairs.
-/
namespace Go.Proofs.Ytpmgnhijiodbaaa
open Go Go.RowKit
set_option maxRecDepth 100000

attribute [local go_sem] Oper.semAt_some
theorem vals_stops (n : Nat) (hn : 1 ≤ n) (w0 : World) {Bm b : Nat} {L : List Kv} (hr : Rise L) (hm : w0.heap[Bm]? = some (.cells #[.map (some b)] 62 (0, 0))) (hown : MapK w0 b L) :
    SeqStopsK Fence.wide n Try.prog 47 #[.pointer (some ⟨Bm, 0, none⟩)] (fun x : Kv => #[.agg #[.string x.k, .string x.v]]) KeepsWalks (fun xs => xs.Perm L) (fun _ => True) L.length w0 := fun l J Jx W hW hJ _ hY h0 =>
  valsK_in n hn l Bm b L hr J Jx hY W hJ (Boxed.cell ((hW.block Bm (lt_of_heap hm)).trans hm)) (hown.stay (hW.block b hown.lt)) h0
theorem pair_news (W : World) (a b : ByteArray) : ∀ j u, [Value.string a, .string b][j]? = some u → (W.alloc (.cells #[.string a, .string b] 42)).cell? (Addr.add ⟨W.heap.size, 0, none⟩ j) = some u := by
  obtain ⟨c0, c1⟩ := cells2 (heap_alloc_new W (.cells #[.string a, .string b] 42))
  intro j u h
  match j, h with
  | 0, h => cases h; exact c0
  | 1, h => cases h; exact c1
  | j + 2, h => simp at h
/-- A pair in a variable. -/
def PBox (w : World) (g : Nat) (x : Kv) : Prop := w.heap[g]? = some (.cells #[.string x.k, .string x.v] 42 (0, 0))
set_option maxHeartbeats 4000000 in
theorem appK_any {w : World} {Bm b : Nat} {L : List Kv} (hr : Rise L) (hl : L.length ≤ 1048576) (hm : w.heap[Bm]? = some (.cells #[.map (some b)] 62 (0, 0))) (hown : MapK w b L) :
    Calls Try.prog 64 #[.slice none 0 0, .func (.func 47) #[] #[.pointer (some ⟨Bm, 0, none⟩)]] w fun e w' => ∃ v M, e = .returned v ∧ M.Perm L ∧ w'.ownsRow w.heap.size RP.tE RP.k v M.length (RP.enc M) ∧ Below w.heap.size w w' := by
  obtain ⟨g, hg⟩ : ∃ g, w.heap.size = g := ⟨_, rfl⟩
  obtain ⟨W0, hW0⟩ : ∃ W0, w.alloc (.cells #[.slice none 0 0] 22) = W0 := ⟨_, rfl⟩
  have HV0 : Hid (Boxed W0 g 22 (.slice none 0 0)) := by rw [← hW0, ← hg]; exact Boxed.new w _ _
  have hb0 : Below g w W0 := by rw [← hW0, ← hg]; exact (Below.refl _ _).alloc (Nat.le_refl _) _
  have HB0 := Lib.hid hb0
  have hs0 : W0.heap.size = g + 1 := by rw [← hW0, ← hg]; simp
  have HS0 := Lib.hid hs0
  have HST := vals_stops 2 (by omega) W0 hr ((hb0.block Bm (hg ▸ lt_of_heap hm)).trans hm) (hown.stay (hb0.block b (hg ▸ hown.lt)))
  have HLL := Lib.hid hl
  have HZ := Lib.hid zero_pair
  obtain ⟨i0, hi, hz0, hz1, hz2⟩ := pair_info'
  have HI0 := Lib.hid hi
  have HI1 := Lib.hid hz0
  have HI2 := Lib.hid hz1
  have HI3 := Lib.hid hz2
  have HG := Lib.hid hg
  clear hr hl hm hown hb0 hs0 hi hz0 hz1 hz2
  rw [hg]
  refine (callsIn_wide (n := 3)).1 ?_
  refine callsIn_of_wp_marks Try.func64 rfl trivial ?_ rfl
  simp only [Try.ntmps64, List.size_toArray, List.length_cons, List.length_nil, Nat.reduceAdd, Nat.reduceSub, Array.replicate_succ, Array.replicate_zero, List.push_toArray, List.append_toArray, List.nil_append, List.cons_append]
  gi_wp2
  have h13 : 1 ≤ 3 := by omega
  refine wpIn_rangeFunc_ownH (F := Fence.wide) rfl h13 (gf := 47) (lb := #[.pointer (some ⟨Bm, 0, none⟩)]) rfl trivial (enters_of Try.func47 (by kernel_rfl) rfl)
    HST walksK_t (fun W l o o' _ h _ hw => KeepsWalks.putObj _ h hw) (Below.refl _ _) (fun _ => rfl)
    (fun pre W => (∃ v, Boxed W g 22 v ∧ W.ownsRow g RP.tE RP.k v pre.length (RP.enc pre) ∧ True) ∧ Below g w W)
    (fun _ _ _ => False)
    (OwnFrom.and (Own.from (holdsRow_own g g 22 RP.tE RP.k (fun pre : List Kv => pre.length) (fun pre => RP.enc pre) (fun _ _ => True)) _) (ownFrom_below (Nat.le_of_eq HG.out.symm) (by rw [HS0.out]; omega)))
    (fun _ _ _ _ _ hs _ _ => hs)
    ⟨⟨_, HV0.out, ⟨rfl, .inl ⟨rfl, rfl⟩⟩, trivial⟩, HB0.out⟩
    (fun x a' W => ∃ Bx, g + 1 ≤ Bx ∧ PBox W Bx x ∧ a' = { tmps := #[.slice none 0 0, .func (.func 47) #[] #[.pointer (some ⟨Bm, 0, none⟩)], .pointer (some ⟨g, 0, none⟩), undef, .slice none 0 0, .pointer (some ⟨Bx, 0, none⟩), .func (.func 47) #[] #[.pointer (some ⟨Bm, 0, none⟩)], .agg #[.string x.k, .string x.v], undef, undef, undef, undef, undef], defers := [] })
    (fun x a' => Own.from (fun s A B row hs hg' hr => by obtain ⟨Bx, h1, h2, h3⟩ := hs; exact ⟨Bx, h1, cells_own Bx 42 (fun _ : Unit => #[.string x.k, .string x.v]) () A B row h2 hg' hr, h3⟩) _)
    ?assign ?body ?done ?stop
  case assign =>
    rintro l pre x W K ⟨⟨v, hv, hrow, _⟩, hbw⟩ hK
    obtain ⟨gw, hgw⟩ : ∃ gw, W.heap.size = gw := ⟨_, rfl⟩
    have HGW := Lib.hid hgw
    have hg1 : g + 1 ≤ gw := by have := hv.lt; omega
    have HK := Lib.hid (fun (W' : World) (h1 : PBox W' gw x) (h2 : Below gw W W') => hK _ W' (KeepsFrom.of_grownBy (row := none) (grownB_below (hgw.symm ▸ h2)) (fun j e => by cases e)) (keeps_below (hgw.symm ▸ h2))
      ⟨⟨v, (h2.block g (by omega)).trans hv, own_same hrow (fun k e => h2.block k (hgw ▸ own_ltN hrow e)), trivial⟩, hbw.trans (h2.mono (by omega))⟩ ⟨gw, by omega, h1, rfl⟩)
    clear hK hv hrow hbw hgw
    unfold PBox at HK
    gi_wp2_with (first
      | ((with_reducible show wpListIn _ _ _ _ _ (⟨some 5, _, _, _, _, _⟩ :: _) _ _); refine wpListIn_alloc_var (o := ⟨some 5, _, _, _, _, _⟩) rfl 42 rfl gw HGW.out _ HZ.out ?_; intro w5 H5 B5)
      | ((with_reducible show wpListIn _ _ _ _ _ (⟨none, .store _ _ _, _, _, _, _⟩ :: _) _ _); refine wpListIn_store_whole (o := ⟨none, .store 42 (.tmp 5) (.tmp 7), _, _, _, _⟩) rfl _ _ _ rfl rfl gw #[.string x.k, .string x.v] (by simp [Act.put, Act.eval]) (by simp [Act.put, Act.eval]) 42 _ H5.out size_pair rfl (ones2v _ _) ?_; intro w6 H6 B6)
      | fail)
    simp only [Act.put, List.zip_toArray, List.zip_cons_cons, List.zip_nil_right, List.foldl_toArray, List.foldl_cons, List.foldl_nil]
    simp
    exact HK.out _ H6.out (B5.out.trans B6.out)
  case body =>
    rintro l pre x a' W hl ⟨r, hrr⟩ ⟨⟨v, hv, hrow, _⟩, hbw⟩ ⟨Bx, hBx, hE, rfl⟩ hlt
    obtain ⟨b0, b1⟩ := cells2 hE
    have c0 := hv.cell
    have f0 := hv.frozen
    have hlen : pre.length + 1 ≤ 1048576 := by have := HLL.out; omega
    have hle : g ≤ W.heap.size := by have := hv.lt; omega
    have HV := Lib.hid hv
    have HRW := Lib.hid hrow
    have HBW := Lib.hid hbw
    have HFIN : Hid (∀ (v' : Value) (w1 : World), w1.ownsRow g RP.tE RP.k v' (pre.length + 1) (RP.enc pre ++ [.string x.k, .string x.v]) → (W.alloc (.cells #[.string x.k, .string x.v] 42)).grownBy w1 v.ownBlock →
        w1.cell? ⟨g, 0, none⟩ = some v ∧ w1.frozen? ⟨g, 0, none⟩ = false ∧ (KeepsFrom W0.heap.size W (w1.setCell ⟨g, 0, none⟩ v') ∧ KeepsWalks W (w1.setCell ⟨g, 0, none⟩ v') ∧ (∃ u, Boxed (w1.setCell ⟨g, 0, none⟩ v') g 22 u ∧ (w1.setCell ⟨g, 0, none⟩ v').ownsRow g RP.tE RP.k u (pre ++ [x]).length (RP.enc (pre ++ [x])) ∧ True) ∧ Below g w (w1.setCell ⟨g, 0, none⟩ v'))) := fun v' w1 hown' hgrow => by
      obtain ⟨hv1, hv2, hr2, hk2, hb2⟩ := HV.out.appended (by decide) HRW.out hle (Nat.le_refl _) hown' hgrow
      refine ⟨hv1.cell, hv1.frozen, hk2.from _, hk2.walks, ⟨v', hv2, ?_, trivial⟩, HBW.out.trans hb2⟩
      rw [List.length_append, ← RP.enc_append]
      exact hr2
    clear hv hbw hE
    gi_wp2_with (first
      | (gi_at_builtin; refine wpListIn_append_own _ rfl _ _ 22 rfl g 42 i0 (.agg #[.string ⟨#[]⟩, .string ⟨#[]⟩]) 2 32 Try.underlying22 HI0.out HI1.out HI2.out HI3.out rfl (by decide) _ _ _ rfl (hrow.alloc _) ⟨W.heap.size, 0, none⟩ 1 1 [.string x.k, .string x.v] rfl rfl (pair_news W _ _) (by simp [Value.oneCell']) (by unfold maxLen; omega) (by omega) (by simp; omega) ?_; intro v' w1 hown' hgrow _; obtain ⟨g', cap', rfl⟩ := ownsRow_succ hown'; obtain ⟨hc1, hf1, hfin⟩ := HFIN.out _ w1 hown' hgrow)
      | fail)
    exact hfin
  case done =>
    rintro D ys W hD hys ⟨⟨v, hv, hrow, _⟩, hbw⟩ hK
    have c0 := hv.cell
    have f0 := hv.frozen
    have HP := Lib.hid hys
    have HR2 := Lib.hid (ownsRow_putObj hrow (.deferred none) hK rfl)
    have HB2 : Hid (Below g w (W.putObj D (.deferred none))) := hbw.trans ((belowK_b (w := W0) (n₀ := g) (by have := HS0.out; omega) W D _ (.deferred none) hD hK rfl rfl))
    gi_wp2
    refine ⟨by simp, .inl ⟨_, _, rfl, run_takeDeferred hK, ?_⟩⟩
    exact ⟨_, results_tmp rfl _ _ _, v, ys, rfl, HP.out, HR2.out, HB2.out⟩
  case stop =>
    rintro D c pre W hD _ h hK
    exact h.elim
set_option maxHeartbeats 1000000 in
theorem collK_any {w : World} {Bm b : Nat} {L : List Kv} (hr : Rise L) (hl : L.length ≤ 1048576) (hm : w.heap[Bm]? = some (.cells #[.map (some b)] 62 (0, 0))) (hown : MapK w b L) :
    Calls Try.prog 45 #[.func (.func 47) #[] #[.pointer (some ⟨Bm, 0, none⟩)]] w fun e w' => ∃ v M, e = .returned v ∧ M.Perm L ∧ w'.ownsRow w.heap.size RP.tE RP.k v M.length (RP.enc M) ∧ Below w.heap.size w w' := by
  have HC := Lib.hid (appK_any hr hl hm hown)
  clear hr hl hm hown
  go_enter Try.func45, Try.ntmps45
  go_wp2_with fail
  refine HC.out.mono ?_
  rintro e w1 ⟨v, M, rfl, h1, h2, h3⟩
  have HFIN := Lib.hid (show ∃ u N, Ending.returned v = .returned u ∧ N.Perm L ∧ w1.ownsRow w.heap.size RP.tE RP.k u N.length (RP.enc N) ∧ Below w.heap.size w w1 from ⟨v, M, rfl, h1, h2, h3⟩)
  clear h1 h2 h3
  go_wp2_with fail
  go_ret
  exact HFIN.out

end Go.Proofs.Ytpmgnhijiodbaaa

/-
  Proved here: ideal.Replay, whole.
  Conditions: at most 1,000 effects, keys of at most 2^30 bytes.
-/
namespace Go.Proofs.Ytpmgnhijiodbaaa
open Go Go.RowKit
set_option maxRecDepth 100000

theorem own_slice {w : World} {base size n : Nat} {e : TypeId} {v : Value} {xs : List Value} (h : w.ownsRow base e size v n xs) : ∃ A c, v = .slice A n c := by
  rcases h.2 with ⟨rfl, rfl⟩ | ⟨g, cap, cur, rfl, _⟩
  · exact ⟨_, _, rfl⟩
  · exact ⟨_, _, rfl⟩
set_option maxHeartbeats 1000000 in
theorem sortedf_any {w : World} {Bm b : Nat} {L : List Kv} (hr : Rise L) (hl : L.length ≤ 1048576) (hm : w.heap[Bm]? = some (.cells #[.map (some b)] 62 (0, 0))) (hown : MapK w b L) :
    Calls Try.prog 28 #[.func (.func 47) #[] #[.pointer (some ⟨Bm, 0, none⟩)], .func (.func 30) #[] #[]] w fun e w' => ∃ A n c, e = .returned (.slice A n c) ∧ L.length = n ∧ w'.ownsRow w.heap.size RP.tE RP.k (.slice A n c) n (RP.enc L) ∧ Below w.heap.size w w' := by
  have HC := Lib.hid (collK_any hr hl hm hown)
  have HR := Lib.hid hr
  have HL := Lib.hid hl
  clear hr hl hm hown
  go_enter Try.func28, Try.ntmps28
  go_wp2_with fail
  refine HC.out.mono ?_
  rintro e w1 ⟨v, M, rfl, hp, ho, hb⟩
  have HML : Hid (M.length = L.length) := hp.length_eq
  obtain ⟨A, c, rfl⟩ := own_slice ho
  have HST := Lib.hid (sortK_own rfl ho (by rw [HML.out]; exact HL.out) HR.out hp)
  have HG : Hid (∀ k, (Value.slice A M.length c).ownBlock = some k → w.heap.size ≤ k) := fun k hk => own_ge ho k hk
  have HB := Lib.hid hb
  clear hp ho hb
  go_wp2_with fail
  refine HST.out.mono ?_
  rintro e w2 ⟨rfl, ho, hg⟩
  have HFIN : Hid (∃ A' n c', Ending.returned (.slice A M.length c) = .returned (.slice A' n c') ∧ L.length = n ∧ w2.ownsRow w.heap.size RP.tE RP.k (.slice A' n c') n (RP.enc L) ∧ Below w.heap.size w w2) := ⟨A, M.length, c, rfl, HML.out.symm, ho, HB.out.grown hg HB.out.size (fun k hk => HG.out k hk)⟩
  clear ho hg
  go_wp2_with fail
  go_ret
  exact HFIN.out
theorem sorts_to (w : World) : SortsTo w 30 := fun W m L _ hm hr hl => by
  refine (vals15_any m W).mono ?_
  rintro e W1 ⟨rfl, hx, hb⟩
  refine ⟨_, rfl, hb, fun W2 hb2 => ?_⟩
  exact sortedf_any hr (by omega) ((hb2.block _ (lt_of_heap hx)).trans hx) ((hm.stay (hb.block m hm.lt)).stay (hb2.block m (Nat.lt_of_lt_of_le hm.lt hb.size)))
theorem ireplay15_any {w : World} {A : Option Addr} {n c : Nat} {E : List Ef} (h : RE.Row w A E) (hn : E.length = n) (hl : n ≤ 1000) (hks : ∀ x ∈ E, x.key.size ≤ 1073741824) (up : Int) : Calls Try.prog 10 #[.slice A n c, .int .u64 up] w (fun e w' => ∃ A' n' c' B' m' d', e = .returned (.agg #[.slice A' n' c', .slice B' m' d']) ∧ w'.ownsRow w.heap.size RP.tE RP.k (.slice A' n' c') n' (RP.enc (rpS up E).1) ∧ (rpS up E).1.length = n' ∧ QO w' w.heap.size (.slice B' m' d') m' (rpS up E).2 ∧ Below w.heap.size w w') :=
  ireplay15_of h hn hl hks up (sorts_to w)

end Go.Proofs.Ytpmgnhijiodbaaa

/-
  Proved here: what OverShelf writes over where the queue lies from a place on.
  Conditions: at most 100,000 pairs and texts.
-/
namespace Go.Proofs.Ytpmgnhijiodbaaa
open Go Go.RowKit
set_option maxRecDepth 100000

theorem QO.at_ {w : World} {base m d j : Nat} {B : Option Addr} {Q : List ByteArray} (h : QO w base (.slice B m d) m Q) (hj : j < m) : ∃ b off u, B = some ⟨b, off, none⟩ ∧ base ≤ b ∧ b < w.heap.size ∧ w.cell? ⟨b, off + j, none⟩ = some u ∧ w.frozen? ⟨b, off + j, none⟩ = false ∧ (Value.slice B m d).ownBlock = some b := by
  rcases h.2 with ⟨e, h0⟩ | ⟨g, off, d', cur, e, h1, h2, h3, h4, h5, h6⟩
  · omega
  · cases e
    refine ⟨g, off, .string (Q[j]'(by have := h.1; omega)), rfl, h1, lt_of_heap h2, ?_, by simp [World.frozen?, h2], rfl⟩
    simp [World.cell?, h2, h6 j _ (List.getElem?_eq_getElem (by have := h.1; omega))]
theorem QO.set_ {w : World} {base m d j b off : Nat} {Q : List ByteArray} (h : QO w base (.slice (some ⟨b, off, none⟩) m d) m Q) (hj : j < m) (x : ByteArray) : QO (w.setCell ⟨b, off + j, none⟩ (.string x)) base (.slice (some ⟨b, off, none⟩) m d) m (Q.set j x) := by
  refine ⟨by rw [List.length_set]; exact h.1, ?_⟩
  rcases h.2 with ⟨e, _⟩ | ⟨g, off', d', cur, e, h1, h2, h3, h4, h5, h6⟩
  · cases e
  · cases e
    refine .inr ⟨b, off, d, cur.setIfInBounds (off + j) (.string x), rfl, h1, heap_setCell_same _ _ _ _ _ _ h2, h3, h4, by simpa using h5, fun i s hs => ?_⟩
    have hQ := h.1
    rw [List.getElem?_set] at hs
    split at hs
    · rename_i e
      subst e
      split at hs
      · cases hs
        rw [Array.getElem?_setIfInBounds_self_of_lt (by omega)]
      · cases hs
    · rename_i hne
      rw [Array.getElem?_setIfInBounds_ne (by omega)]
      exact h6 i s hs
theorem own_type {w : World} {base size n : Nat} {e : TypeId} {v : Value} {xs : List Value} (h : w.ownsRow base e size v n xs) {k : Nat} (hk : v.ownBlock = some k) : ∃ cur, w.heap[k]? = some (.cells cur e (0, 0)) := by
  rcases h.2 with ⟨rfl, _⟩ | ⟨g, cap, cur, rfl, _, hh, _⟩
  · cases hk
  · cases hk
    exact ⟨cur, hh⟩
theorem QO.type {w : World} {base m : Nat} {v : Value} {Q : List ByteArray} (h : QO w base v m Q) {k : Nat} (hk : v.ownBlock = some k) : ∃ cur, w.heap[k]? = some (.cells cur 9 (0, 0)) := by
  rcases h.2 with ⟨rfl, _⟩ | ⟨g, off, d, cur, rfl, _, hh, _⟩
  · cases hk
  · cases hk
    exact ⟨cur, hh⟩
set_option maxHeartbeats 3200000 in
/-- A store written over whose queue lies from a place on. -/
theorem oversq_any {w : World} {base : Nat} {A B : Option Addr} {n c m d : Nat} {L : List Kv} {Q : List ByteArray} (o1 : w.ownsRow base RP.tE RP.k (.slice A n c) n (RP.enc L)) (hn : L.length = n) (q : QO w base (.slice B m d) m Q) (hl : n ≤ 100000) (hq : m ≤ 100000) (hb : base ≤ w.heap.size) :
    Calls Try.prog 12 #[.agg #[.slice A n c, .slice B m d]] w fun e w' => e = .returned (.tuple #[]) ∧ Below base w w' := by
  obtain ⟨g, hg⟩ : ∃ g, w.heap.size = g := ⟨_, rfl⟩
  obtain ⟨w1, hw1⟩ : ∃ w1, w.alloc (.cells #[.slice A n c, .slice B m d] 25) = w1 := ⟨_, rfl⟩
  have HX : Hid (w1.heap[g]? = some (.cells #[.slice A n c, .slice B m d] 25 (0, 0))) := by rw [← hw1, ← hg]; exact heap_alloc_new w _
  have HB1 : Hid (Below g w w1) := by rw [← hw1, ← hg]; exact (Below.refl _ _).alloc (Nat.le_refl _) _
  have HO1 : Hid (w1.ownsRow base RP.tE RP.k (.slice A n c) n (RP.enc L)) := own_keep o1 (hg ▸ HB1.out)
  have HQ1 : Hid (QO w1 base (.slice B m d) m Q) := q.stay (fun k hk => HB1.out.block k (hg ▸ (q.lt hk).2))
  have HBG : Hid (base ≤ g) := hg ▸ hb
  have HAG : Hid (∀ k, (Value.slice A n c).ownBlock = some k → k < g) := fun k hk => hg ▸ own_ltN o1 hk
  have HQG : Hid (∀ k, (Value.slice B m d).ownBlock = some k → k < g) := fun k hk => hg ▸ (q.lt hk).2
  have HNE : Hid (∀ k, (Value.slice A n c).ownBlock = some k → (Value.slice B m d).ownBlock ≠ some k) := fun k h1 h2 => by
    obtain ⟨c1, e1⟩ := own_type o1 h1
    obtain ⟨c2, e2⟩ := q.type h2
    rw [e1] at e2
    injection e2 with e2
    injection e2 with _ e2
    exact absurd e2 (by decide)
  have HLN := Lib.hid hn
  have HQN := Lib.hid q.1
  obtain ⟨p0, p1⟩ := cells2 HX.out
  clear o1 hn q hb
  go_enter Try.func12, Try.ntmps12
  go_wp2_with fail
  clear hg hw1 p0 p1
  go_loopg [2] n (fun gk s2 wx => ∃ (i : Nat) (M : List Kv), i + gk = n ∧ s2 = .int .i64 i ∧ M.length = n ∧ Hid (wx.heap[g]? = some (.cells #[.slice A n c, .slice B m d] 25 (0, 0))) ∧ Hid (wx.ownsRow base RP.tE RP.k (.slice A n c) n (RP.enc M)) ∧ Hid (QO wx base (.slice B m d) m Q) ∧ Hid (Below base w wx))
  case atStart => exact ⟨0, L, by omega, rfl, HLN.out, HX, HO1, HQ1, HB1.out.mono HBG.out⟩
  case round =>
    obtain ⟨i, M, hig, rfl, hM, HXr, HOr, HQr, HW⟩ := hrel
    have HM := Lib.hid hM
    clear hM
    obtain ⟨p0, p1⟩ := cells2 HXr.out
    cases gk with
    | succ gk =>
      have hii : (i : Int) < (n : Int) := by omega
      have hi0 : (0 : Int) ≤ (i : Int) := by omega
      obtain ⟨x, hx⟩ : ∃ x, M[i]? = some x := ⟨_, List.getElem?_eq_getElem (by have := HM.out; omega)⟩
      obtain ⟨b, eA, hbb, hb1, k0, k1, kf, hob⟩ := pairOwn HOr.out (by have := HM.out; omega) hx
      have HOB := Lib.hid hob
      have HBB := Lib.hid hbb
      have HBL : Hid (b < g) := HAG.out b hob
      have hgb : ¬ g = b := by have := HBL.out; omega
      have hbg : ¬ b = g := by have := HBL.out; omega
      subst eA
      have HSET : Hid ((((wr.setCell ⟨b, i * 2, none⟩ (.string overT)).setCell ⟨b, i * 2 + 1, none⟩ (.string ⟨#[]⟩))).ownsRow base RP.tE RP.k (.slice (some ⟨b, 0, none⟩) n c) n (RP.enc (M.set i ⟨overT, ⟨#[]⟩⟩))) := Rec.own_set (R := RP) (i := i) (n := n) HOr.out HM.out (by omega) ⟨overT, ⟨#[]⟩⟩
      have kf0 := kf (i * 2)
      have kf1 := kf (i * 2 + 1)
      clear hx hbb hb1 hob kf
      go_wp2
      have HTX : Hid (∀ k, k ≠ b → ((wr.setCell ⟨b, i * 2, none⟩ (.string overT)).setCell ⟨b, i * 2 + 1, none⟩ (.string ⟨#[]⟩)).heap[k]? = wr.heap[k]?) := fun k hk => by rw [Below.heap_setCell _ _ _ _ hk, Below.heap_setCell _ _ _ _ hk]
      go_roundg gk
      case measure => omega
      case rel => exact ⟨i + 1, M.set i ⟨overT, ⟨#[]⟩⟩, by omega, by go_num, by rw [List.length_set]; exact HM.out, (HTX.out g hgb).trans HXr.out, HSET, HQr.out.stay (fun k hk => HTX.out k (fun e => HNE.out b HOB.out (e ▸ hk))), (HW.out.setCell (p := ⟨b, _, none⟩) HBB.out _).setCell (p := ⟨b, _, none⟩) HBB.out _⟩
    | zero =>
      obtain rfl : i = n := by omega
      have hii : ¬ (i : Int) < (i : Int) := by omega
      go_wp2_with fail
      go_loopg [3] m (fun gk s3 wx => ∃ (j : Nat) (M2 : List ByteArray), j + gk = m ∧ s3 = .int .i64 j ∧ Hid (wx.heap[g]? = some (.cells #[.slice A i c, .slice B m d] 25 (0, 0))) ∧ Hid (QO wx base (.slice B m d) m M2) ∧ Hid (Below base w wx))
      case atStart => exact ⟨0, Q, by omega, rfl, HXr, HQr, HW⟩
      case round =>
        obtain ⟨j, M2, hjg, rfl, HXq, HOq, HW2⟩ := hrel
        clear p0 p1
        obtain ⟨p0, p1⟩ := cells2 HXq.out
        cases gk with
        | zero =>
          obtain rfl : j = m := by omega
          have hjj : ¬ (j : Int) < (j : Int) := by omega
          go_wp2
          refine bodyPost_end (results_none rfl _ _ _) rfl ?_
          exact ⟨rfl, HW2.out⟩
        | succ gk =>
          have hjj : (j : Int) < (m : Int) := by omega
          have hj0 : (0 : Int) ≤ (j : Int) := by omega
          obtain ⟨b, off, u, eB, hbb, hb1, k0, kf0, hob⟩ := HOq.out.at_ (show j < m by omega)
          have HBB := Lib.hid hbb
          have HBL : Hid (b < g) := HQG.out b hob
          have hgb : ¬ g = b := by have := HBL.out; omega
          have hbg : ¬ b = g := by have := HBL.out; omega
          subst eB
          have HSET : Hid (QO (wr.setCell ⟨b, off + j, none⟩ (.string overT)) base (.slice (some ⟨b, off, none⟩) m d) m (M2.set j overT)) := HOq.out.set_ (by omega) overT
          clear hbb hb1 hob
          go_wp2
          have HTX : Hid (∀ k, k ≠ b → (wr.setCell ⟨b, off + j, none⟩ (.string overT)).heap[k]? = wr.heap[k]?) := fun k hk => Below.heap_setCell _ _ _ _ hk
          go_roundg gk
          case measure => omega
          case rel => exact ⟨j + 1, M2.set j overT, by omega, by go_num, (HTX.out g hgb).trans HXq.out, HSET, HW2.out.setCell (p := ⟨b, _, none⟩) HBB.out _⟩

end Go.Proofs.Ytpmgnhijiodbaaa

/-
  Proved here: two copies of a store in two variables, in whatever order they are made.
  Conditions: none.
-/
namespace Go.Proofs.Ytpmgnhijiodbaaa
open Go Go.RowKit
set_option maxRecDepth 100000

/-! ### Two copies of a store in two variables, in whatever order -/
theorem own_var {w : World} {base size n g : Nat} {e : TypeId} {v : Value} {xs : List Value} {cs : Array Value} (h : w.ownsRow base e size v n xs) (hg : w.heap[g]? = some (.cells cs 25 (0, 0))) (he : e ≠ 25) : ∀ k, v.ownBlock = some k → k ≠ g := fun k hk e' => by
  obtain ⟨cur, h1⟩ := own_type h hk
  rw [e', hg] at h1
  injection h1 with h1
  injection h1 with _ h1
  exact he h1.symm
/-- A block is new, or a store's variable. -/
def NewS (x : World) (g : Nat) : Prop := x.heap.size ≤ g ∨ x.heap[g]? = some S0
theorem OwnS.stay2 {x wx : World} {N ga gb : Nat} {A B : Option Addr} {n c m d : Nat} {L : List Kv} {Q : List ByteArray} (o : OwnS x N A n c B m d L Q) (hst : Stay (fun k => k = ga ∨ k = gb) x wx) (ha : NewS x ga) (hb : NewS x gb) : OwnS wx N A n c B m d L Q := by
  have key : ∀ {size n' : Nat} {e : TypeId} {v : Value} {xs : List Value}, x.ownsRow N e size v n' xs → e ≠ 25 → wx.ownsRow N e size v n' xs := fun h he => own_same h (fun k hk => hst.block k (fun e' => by
    have hl := own_ltN h hk
    rcases e' with e' | e'
    · rcases ha with h1 | h1
      · omega
      · exact own_var h h1 he k hk e'
    · rcases hb with h1 | h1
      · omega
      · exact own_var h h1 he k hk e') (own_ltN h hk))
  exact ⟨key o.o1 (by decide), key o.o2 (by decide), o.n1, o.n2⟩
/-- Two stores in two variables. -/
def Tw (w : World) (L : List Kv) (Q : List ByteArray) (s8 s9 : Value) (wx : World) : Prop :=
  ∃ ga gb A1 n1 c1 B1 m1 d1 A2 n2 c2 B2 m2 d2, s8 = .pointer (some ⟨ga, 0, none⟩) ∧ s9 = .pointer (some ⟨gb, 0, none⟩) ∧ wx.heap[ga]? = some (.cells #[.slice A1 n1 c1, .slice B1 m1 d1] 25 (0, 0)) ∧ wx.heap[gb]? = some (.cells #[.slice A2 n2 c2, .slice B2 m2 d2] 25 (0, 0)) ∧
    OwnS wx w.heap.size A1 n1 c1 B1 m1 d1 L Q ∧ OwnS wx w.heap.size A2 n2 c2 B2 m2 d2 L Q ∧ ga ≠ gb ∧ w.heap.size ≤ ga ∧ w.heap.size ≤ gb ∧ Below w.heap.size w wx
section
variable {w x : World} {L : List Kv} {Q : List ByteArray} {A1 : Option Addr} {n1 c1 : Nat} {B1 : Option Addr} {m1 d1 : Nat} {A2 : Option Addr} {n2 c2 : Nat} {B2 : Option Addr} {m2 d2 : Nat} {ga gb : Nat}
theorem tw_mk {wx : World} (o1 : OwnS x w.heap.size A1 n1 c1 B1 m1 d1 L Q) (o2 : OwnS x w.heap.size A2 n2 c2 B2 m2 d2 L Q) (hb : Below w.heap.size w x) (hst : Stay (fun k => k = ga ∨ k = gb) x wx) (h1 : NewS x ga) (h2 : NewS x gb)
    (hA : wx.heap[ga]? = some (.cells #[.slice A1 n1 c1, .slice B1 m1 d1] 25 (0, 0))) (hB : wx.heap[gb]? = some (.cells #[.slice A2 n2 c2, .slice B2 m2 d2] 25 (0, 0))) (hne : ga ≠ gb) (h3 : w.heap.size ≤ ga) (h4 : w.heap.size ≤ gb) :
    Tw w L Q (.pointer (some ⟨ga, 0, none⟩)) (.pointer (some ⟨gb, 0, none⟩)) wx :=
  ⟨ga, gb, A1, n1, c1, B1, m1, d1, A2, n2, c2, B2, m2, d2, rfl, rfl, hA, hB, o1.stay2 hst h1 h2, o2.stay2 hst h1 h2, hne, h3, h4, hb.trans (hst.below (fun k hk => by rcases hk with e | e <;> omega) hb.size)⟩
variable (o1 : OwnS x w.heap.size A1 n1 c1 B1 m1 d1 L Q) (o2 : OwnS x w.heap.size A2 n2 c2 B2 m2 d2 L Q) (hb : Below w.heap.size w x)
include o1 o2 hb
theorem tw_ll : Tw w L Q (.pointer (some ⟨x.heap.size, 0, none⟩)) (.pointer (some ⟨x.heap.size + 1, 0, none⟩)) ((x.alloc (objS (.slice A1 n1 c1) (.slice B1 m1 d1))).alloc (objS (.slice A2 n2 c2) (.slice B2 m2 d2))) :=
  tw_mk o1 o2 hb ((alloc_stay _ _).trans (alloc_stay _ _)) (.inl (Nat.le_refl _)) (.inl (Nat.le_succ _)) (alloc_old (heap_alloc_new _ _)) (alloc_two _ _ _) (by omega) hb.size (Nat.le_succ_of_le hb.size)
theorem tw_ll' : Tw w L Q (.pointer (some ⟨x.heap.size + 1, 0, none⟩)) (.pointer (some ⟨x.heap.size, 0, none⟩)) ((x.alloc (objS (.slice A2 n2 c2) (.slice B2 m2 d2))).alloc (objS (.slice A1 n1 c1) (.slice B1 m1 d1))) :=
  tw_mk o1 o2 hb ((alloc_stay _ _).trans (alloc_stay _ _)) (.inl (Nat.le_succ _)) (.inl (Nat.le_refl _)) (alloc_two _ _ _) (alloc_old (heap_alloc_new _ _)) (by omega) (Nat.le_succ_of_le hb.size) hb.size
theorem tw_el (hS : x.heap[ga]? = some S0) (hN : w.heap.size ≤ ga) : Tw w L Q (.pointer (some ⟨ga, 0, none⟩)) (.pointer (some ⟨x.heap.size, 0, none⟩)) ((wrS x ga (.slice A1 n1 c1) (.slice B1 m1 d1)).alloc (objS (.slice A2 n2 c2) (.slice B2 m2 d2))) := by
  have hl := lt_of_heap hS
  exact tw_mk o1 o2 hb ((stayL (wrS_stay _ _ _ _)).trans (alloc_stay _ _)) (.inr hS) (.inl (Nat.le_refl _)) (alloc_old (wrS_at hS)) (by have := heap_alloc_new (wrS x ga (.slice A1 n1 c1) (.slice B1 m1 d1)) (objS (.slice A2 n2 c2) (.slice B2 m2 d2)); rw [wrS_size] at this; exact this) (by omega) hN hb.size
theorem tw_le (hS : x.heap[gb]? = some S0) (hN : w.heap.size ≤ gb) : Tw w L Q (.pointer (some ⟨x.heap.size, 0, none⟩)) (.pointer (some ⟨gb, 0, none⟩)) ((wrS x gb (.slice A2 n2 c2) (.slice B2 m2 d2)).alloc (objS (.slice A1 n1 c1) (.slice B1 m1 d1))) := by
  have hl := lt_of_heap hS
  exact tw_mk o1 o2 hb ((stayR (wrS_stay _ _ _ _)).trans (alloc_stay _ _)) (.inl (Nat.le_refl _)) (.inr hS) (by have := heap_alloc_new (wrS x gb (.slice A2 n2 c2) (.slice B2 m2 d2)) (objS (.slice A1 n1 c1) (.slice B1 m1 d1)); rw [wrS_size] at this; exact this) (alloc_old (wrS_at hS)) (by omega) hb.size hN
theorem tw_ee (hS : x.heap[ga]? = some S0) (hN : w.heap.size ≤ ga) (hT : x.heap[gb]? = some S0) (hM : w.heap.size ≤ gb) (hne : ga ≠ gb) : Tw w L Q (.pointer (some ⟨ga, 0, none⟩)) (.pointer (some ⟨gb, 0, none⟩)) (wrS (wrS x ga (.slice A1 n1 c1) (.slice B1 m1 d1)) gb (.slice A2 n2 c2) (.slice B2 m2 d2)) :=
  tw_mk o1 o2 hb ((stayL (wrS_stay _ _ _ _)).trans (stayR (wrS_stay _ _ _ _))) (.inr hS) (.inr hT) (((wrS_stay _ _ _ _).block _ hne (by rw [wrS_size]; exact lt_of_heap hS)).trans (wrS_at hS)) (wrS_at (((wrS_stay _ _ _ _).block _ (fun e => hne e.symm) (lt_of_heap hT)).trans hT)) hne hN hM
end

end Go.Proofs.Ytpmgnhijiodbaaa

/-
  Proved here: helpers of IdealDoes.
  Conditions: none.
-/
namespace Go.Proofs.Ytpmgnhijiodbaaa
open Go Go.RowKit
set_option maxRecDepth 100000

theorem al0 (w : World) : Below w.heap.size w w.drew := (Below.refl _ _).drew
theorem al01 (w : World) : Below w.heap.size w (w.drew.alloc S0) := (al0 w).alloc (Nat.le_refl _) _
theorem al02 (w : World) : Below w.heap.size w ((w.drew.alloc S0).alloc S0) := (al01 w).alloc (by simp) _
theorem got_ss {w v : World} (h : Below ((w.drew.alloc S0).alloc S0).heap.size ((w.drew.alloc S0).alloc S0) v) : v.heap[w.heap.size]? = some S0 ∧ v.heap[w.heap.size + 1]? = some S0 :=
  ⟨(h.block w.heap.size (by simp; omega)).trans (alloc_old (heap_alloc_new w.drew _)), (h.block (w.heap.size + 1) (by simp)).trans (alloc_two w.drew _ _)⟩
def doL (E : List Ef) (i : Nat) (L : List Kv) : List Kv := (E.take i).foldl (fun s x => efL x s) L
def doQ (E : List Ef) (i : Nat) (Q : List ByteArray) : List ByteArray := (E.take i).foldl (fun s x => efQ x s) Q
theorem doL_zero (E : List Ef) (L : List Kv) : doL E 0 L = L := rfl
theorem doQ_zero (E : List Ef) (Q : List ByteArray) : doQ E 0 Q = Q := rfl
theorem doL_succ {E : List Ef} {i : Nat} {x : Ef} (h : E[i]? = some x) (L : List Kv) : doL E (i + 1) L = efL x (doL E i L) := by
  unfold doL
  rw [List.take_add_one, h]
  simp
theorem doQ_succ {E : List Ef} {i : Nat} {x : Ef} (h : E[i]? = some x) (Q : List ByteArray) : doQ E (i + 1) Q = efQ x (doQ E i Q) := by
  unfold doQ
  rw [List.take_add_one, h]
  simp
theorem do_len (E : List Ef) (L : List Kv) (Q : List ByteArray) (i : Nat) : (doL E i L).length ≤ L.length + i ∧ (doQ E i Q).length ≤ Q.length + i := by
  induction i with
  | zero => exact ⟨Nat.le_refl _, Nat.le_refl _⟩
  | succ i ih =>
    cases hx : E[i]? with
    | some x =>
      rw [doL_succ hx, doQ_succ hx]
      have h1 := efL_len x (doL E i L)
      have h2 := efQ_len x (doQ E i Q)
      omega
    | none =>
      have e : E.take (i + 1) = E.take i := by rw [List.take_add_one, hx]; simp
      unfold doL doQ at *
      rw [e]
      omega
theorem OwnS.box {x wx : World} {N ga : Nat} {A B : Option Addr} {n c m d : Nat} {L : List Kv} {Q : List ByteArray} {cs : Array Value} (o : OwnS x N A n c B m d L Q) (hst : Stay (fun k => k = ga) x wx) (hg : x.heap[ga]? = some (.cells cs 25 (0, 0))) : OwnS wx N A n c B m d L Q :=
  ⟨own_same o.o1 (fun k hk => hst.block k (own_var o.o1 hg (by decide) k hk) (own_ltN o.o1 hk)), own_same o.o2 (fun k hk => hst.block k (own_var o.o2 hg (by decide) k hk) (own_ltN o.o2 hk)), o.n1, o.n2⟩
theorem shv_q {w : World} {base : Nat} {A B : Option Addr} {n c m d : Nat} {L : List Kv} {Q : List ByteArray} (o1 : w.ownsRow base RP.tE RP.k (.slice A n c) n (RP.enc L)) (hn : L.length = n) (q : QO w base (.slice B m d) m Q) (hl : L.length ≤ 1048576) (hq : Q.length ≤ 1048576) : Shv w A n c B m d L Q := by
  obtain ⟨_, A', c', e1, _, _, r1, z1, _⟩ := Rec.row_of_own o1 hl
  cases e1
  obtain ⟨B', d', e2, _, _, r2, z2⟩ := q.row (by rw [← q.1]; exact hq)
  cases e2
  exact ⟨r1, r2, hn, q.1, fun e => (z1 e).2, fun e => (z2 e).2⟩

end Go.Proofs.Ytpmgnhijiodbaaa
