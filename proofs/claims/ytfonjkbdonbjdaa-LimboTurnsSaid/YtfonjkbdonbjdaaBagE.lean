/-
  Proved here: what package limbo's first answers.
  Conditions: none.
-/
import Derived.Test.YtfonjkbdonbjdaaBagD
import Derived.RangeFuncNested
import Derived.RangeFuncBound
import Derived.RangeFuncCalls
import Derived.RangeFuncLeaves
import Derived.Shelf.Abstract
import Derived.Shelf.RegionOpen
import Derived.WalkKit
import Derived.OwnWalkIn
import Derived.TacticsInMore
import Derived.LoopNIn
import Derived.LoopIn
namespace Go.Proofs.Ytfonjkbdonbjdaa
open Go Go.RowKit

theorem bgiter_stops (n : Nat) (hn : 1 ≤ n) {w0 : World} {Bb Br Bd p lo q rp rq : Nat} {L : List En} {R : List Nat} {now D : Nat} (hI : ItE w0 Bb Br Bd p lo q rp rq L R now D) :
    SeqStopsK Fence.wide n Try.prog 53 #[.pointer (some ⟨Bb, 0, none⟩), .pointer (some ⟨Br, 0, none⟩), .pointer (some ⟨Bd, 0, none⟩)] (fun x : Nat × En => #[.int .i64 (x.1 : Int), .agg #[.int .i64 x.2.line, .int .i64 x.2.cl, .int .u64 (x.2.r : Nat), .int .u64 (x.2.d : Nat), .int .i64 x.2.anti]])
      (Below w0.heap.size) (fun ys => ys = cameE (readyB (quietB R) D) L L.length) (fun pre => ∃ k, k ≤ L.length ∧ pre = cameE (readyB (quietB R) D) L k) L.length w0 := fun l J Jx W hW hJ _ hY h0 =>
  bgiter_in n hn l w0.heap.size Bb Br Bd p lo q rp rq L R now D J Jx W hJ w0 rfl hI hW hY h0
set_option maxHeartbeats 400000 in
theorem bgready_any (w : World) (P Q : Option Addr) (D : Nat) : Calls Try.prog 46 #[.pointer P, .pointer Q, .int .u64 (D : Nat)] w fun e w' =>
    e = .returned (.func (.func 53) #[] #[.pointer (some ⟨w.heap.size, 0, none⟩), .pointer (some ⟨w.heap.size + 1, 0, none⟩), .pointer (some ⟨w.heap.size + 2, 0, none⟩)]) ∧
    w' = ((w.alloc (.cells #[.pointer P] 24)).alloc (.cells #[.pointer Q] 30)).alloc (.cells #[.int .u64 (D : Nat)] 38) := by
  go_enter Try.func46, Try.ntmps46
  go_wp2
  go_ret
  exact ⟨rfl, rfl⟩
/-- A block of cells abides whatever turns no cells. -/
theorem cells_own {β : Type} (B : Nat) (t : TypeId) (f : β → Array Value) : Own (fun s W => W.heap[B]? = some (.cells (f s) t (0, 0))) := fun s X Y row hs hg hrow => by
  refine (hg.block B (lt_of_heap hs) (fun e' => ?_)).trans hs
  obtain ⟨o, ho, hc⟩ := hrow B e'.symm
  rw [hs] at ho
  cases ho
  cases hc
/-- A variable that holds an entry. -/
def EBox (w : World) (g : Nat) (e : En) : Prop := w.heap[g]? = some (.cells #[.int .i64 e.line, .int .i64 e.cl, .int .u64 (e.r : Nat), .int .u64 (e.d : Nat), .int .i64 e.anti] 40 (0, 0))
def En.val (e : En) : Value := .agg #[.int .i64 e.line, .int .i64 e.cl, .int .u64 (e.r : Nat), .int .u64 (e.d : Nat), .int .i64 e.anti]
theorem EBox.load {w : World} {g : Nat} {e : En} (h : EBox w g e) : (loadVar 40 ⟨g, 0, none⟩).run Try.prog w = .ok e.val w :=
  run_loadVar_row (P := Try.prog) w g _ 40 _ _ _ h Try.underlying40 rfl size_entry
theorem EBox.below {w w' : World} {g B : Nat} {e : En} (h : EBox w g e) (hb : Below B w w') (hg : g < B) : EBox w' g e := (hb.block g hg).trans h
theorem zero_val : En.zero.val = .agg #[.int .i64 0, .int .i64 0, .int .u64 0, .int .u64 0, .int .i64 0] := rfl
/-- What first hands back, where it lies. -/
structure Told (w : World) (g : Nat) (k : Nat) (e : En) (b : Bool) : Prop where
  c0 : Boxed w g 3 (.int .i64 (k : Nat))
  c1 : EBox w (g + 1) e
  c2 : Boxed w (g + 1 + 1) 4 (.bool b)
theorem results_told {fn : Func} (hf : fn.results = #[.cell 6 3, .cell 7 40, .cell 8 4]) {tmps : Array Value} {g : Nat} (h6 : tmps.getD 6 undef = .pointer (some ⟨g, 0, none⟩)) (h7 : tmps.getD 7 undef = .pointer (some ⟨g + 1, 0, none⟩)) (h8 : tmps.getD 8 undef = .pointer (some ⟨g + 1 + 1, 0, none⟩)) {w : World} {k : Nat} {e : En} {b : Bool} (h : Told w g k e b) :
    (results fn tmps).run Try.prog w = .ok (.tuple #[.int .i64 (k : Nat), e.val, .bool b]) w := by
  have h6' : tmps[6]?.getD undef = .pointer (some ⟨g, 0, none⟩) := by simpa using h6
  have h7' : tmps[7]?.getD undef = .pointer (some ⟨g + 1, 0, none⟩) := by simpa using h7
  have h8' : tmps[8]?.getD undef = .pointer (some ⟨g + 1 + 1, 0, none⟩) := by simpa using h8
  have l0 := h.c0.cell
  obtain ⟨a0, a1, a2, a3, a4⟩ := cells5 h.c1
  have l2 := h.c2.cell
  simp [results, hf, h6', h7', h8', asAddr, go_sem, l0, a0, a1, a2, a3, a4, l2, En.val]
theorem told_new (w : World) : Told (((w.alloc (.cells #[.int .i64 0] 3)).alloc (.cells #[.int .i64 0, .int .i64 0, .int .u64 0, .int .u64 0, .int .i64 0] 40)).alloc (.cells #[.bool false] 4)) w.heap.size 0 En.zero false := by
  refine ⟨?_, ?_, ?_⟩
  · exact ((Boxed.new w 3 (.int .i64 0)).alloc _).alloc _
  · have h1 := heap_alloc_new (w.alloc (.cells #[.int .i64 0] 3)) (.cells #[.int .i64 0, .int .i64 0, .int .u64 0, .int .u64 0, .int .i64 0] 40)
    rw [World.size_alloc] at h1
    exact (Below.heap_alloc _ _ _ (by simp)).trans h1
  · have h1 := Boxed.new ((w.alloc (.cells #[.int .i64 0] 3)).alloc (.cells #[.int .i64 0, .int .i64 0, .int .u64 0, .int .u64 0, .int .i64 0] 40)) 4 (.bool false)
    rwa [World.size_alloc, World.size_alloc] at h1
theorem told_below (w : World) : Below w.heap.size w (((w.alloc (.cells #[.int .i64 0] 3)).alloc (.cells #[.int .i64 0, .int .i64 0, .int .u64 0, .int .u64 0, .int .i64 0] 40)).alloc (.cells #[.bool false] 4)) :=
  (((Below.refl _ _).alloc (Nat.le_refl _) _).alloc (by simp) _).alloc (by simp; omega) _
set_option maxHeartbeats 400000 in
theorem bgfirst_nilb (w : World) (Q : Option Addr) (D : Nat) : Calls Try.prog 35 #[.pointer none, .pointer Q, .int .u64 (D : Nat)] w fun e w' => e = .returned (.tuple #[.int .i64 0, En.zero.val, .bool false]) ∧ Below w.heap.size w w' := by
  go_enter Try.func35, Try.ntmps35
  go_wp2
  refine bodyPost_ret (results_told rfl rfl rfl rfl (told_new w)) rfl ⟨rfl, told_below w⟩
set_option maxHeartbeats 400000 in
theorem bgfirst_nilr (w : World) (p : Nat) (D : Nat) : Calls Try.prog 35 #[.pointer (some ⟨p, 0, none⟩), .pointer none, .int .u64 (D : Nat)] w fun e w' => e = .returned (.tuple #[.int .i64 0, En.zero.val, .bool false]) ∧ Below w.heap.size w w' := by
  go_enter Try.func35, Try.ntmps35
  go_wp2
  refine bodyPost_ret (results_told rfl rfl rfl rfl (told_new w)) rfl ⟨rfl, told_below w⟩
attribute [local go_sem] Oper.semAt_some
theorem Told.below {w w' : World} {g k B : Nat} {e : En} {b : Bool} (h : Told w g k e b) (hb : Below B w w') (hg : g + 2 < B) : Told w' g k e b :=
  ⟨(hb.block g (by omega)).trans h.c0, (hb.block (g + 1) (by omega)).trans h.c1, (hb.block (g + 1 + 1) (by omega)).trans h.c2⟩
theorem frozen5 {w : World} {g : Nat} {T : TypeId} {v : Array Value} (h : w.heap[g]? = some (.cells v T (0, 0))) (j : Nat) : w.frozen? ⟨g, j, none⟩ = false := by simp [World.frozen?, h]
theorem told_own {β : Type} (g : Nat) (k : β → Nat) (e : β → En) (b : β → Bool) : Own (fun s W => Told W g (k s) (e s) (b s)) := fun s A B row hs hg hr =>
  ⟨cells_own g 3 (fun s => #[.int .i64 (k s : Nat)]) s A B row hs.c0 hg hr, cells_own (g + 1) 40 (fun s => #[.int .i64 (e s).line, .int .i64 (e s).cl, .int .u64 ((e s).r : Nat), .int .u64 ((e s).d : Nat), .int .i64 (e s).anti]) s A B row hs.c1 hg hr, cells_own (g + 1 + 1) 4 (fun s => #[.bool (b s)]) s A B row hs.c2 hg hr⟩
/-- What first lays down. -/
def tellW (W : World) (g : Nat) (k : Nat) (e : En) (b : Bool) : World :=
  ((((((W.setCell ⟨g, 0, none⟩ (.int .i64 (k : Nat))).setCell ⟨g + 1, 0, none⟩ (.int .i64 e.line)).setCell ⟨g + 1, 1, none⟩ (.int .i64 e.cl)).setCell ⟨g + 1, 2, none⟩ (.int .u64 (e.r : Nat))).setCell ⟨g + 1, 3, none⟩ (.int .u64 (e.d : Nat))).setCell ⟨g + 1, 4, none⟩ (.int .i64 e.anti)).setCell ⟨g + 1 + 1, 0, none⟩ (.bool b)
theorem tell_heap (W : World) (g : Nat) (k : Nat) (e : En) (b : Bool) (j : Nat) (h0 : j ≠ g) (h1 : j ≠ g + 1) (h2 : j ≠ g + 1 + 1) : (tellW W g k e b).heap[j]? = W.heap[j]? := by
  unfold tellW
  iterate 7 rw [Below.heap_setCell _ _ _ _ (by first | simpa using h0 | simpa using h1 | simpa using h2)]
theorem tell_size (W : World) (g : Nat) (k : Nat) (e : En) (b : Bool) : (tellW W g k e b).heap.size = W.heap.size := by simp [tellW, World.setCell]
theorem tell_below (W : World) (g : Nat) (k : Nat) (e : En) (b : Bool) : Below g W (tellW W g k e b) := by
  unfold tellW
  exact (((((((Below.refl g W).setCell (p := ⟨g, 0, none⟩) (Nat.le_refl g) _).setCell (p := ⟨g + 1, 0, none⟩) (Nat.le_succ g) _).setCell (p := ⟨g + 1, 1, none⟩) (Nat.le_succ g) _).setCell (p := ⟨g + 1, 2, none⟩) (Nat.le_succ g) _).setCell (p := ⟨g + 1, 3, none⟩) (Nat.le_succ g) _).setCell (p := ⟨g + 1, 4, none⟩) (Nat.le_succ g) _).setCell (p := ⟨g + 1 + 1, 0, none⟩) (Nat.le_add_right g 2) _
theorem set5 {W : World} {g : Nat} {T : TypeId} {v0 v1 v2 v3 v4 : Value} (h : W.heap[g]? = some (.cells #[v0, v1, v2, v3, v4] T (0, 0))) (e : En) :
    (((((W.setCell ⟨g, 0, none⟩ (.int .i64 e.line)).setCell ⟨g, 1, none⟩ (.int .i64 e.cl)).setCell ⟨g, 2, none⟩ (.int .u64 (e.r : Nat))).setCell ⟨g, 3, none⟩ (.int .u64 (e.d : Nat))).setCell ⟨g, 4, none⟩ (.int .i64 e.anti)).heap[g]? = some (.cells #[.int .i64 e.line, .int .i64 e.cl, .int .u64 (e.r : Nat), .int .u64 (e.d : Nat), .int .i64 e.anti] T (0, 0)) ∧
    ∀ j, j ≠ g → (((((W.setCell ⟨g, 0, none⟩ (.int .i64 e.line)).setCell ⟨g, 1, none⟩ (.int .i64 e.cl)).setCell ⟨g, 2, none⟩ (.int .u64 (e.r : Nat))).setCell ⟨g, 3, none⟩ (.int .u64 (e.d : Nat))).setCell ⟨g, 4, none⟩ (.int .i64 e.anti)).heap[j]? = W.heap[j]? := by
  have h1 := heap_setCell_same _ g 0 _ _ (.int .i64 e.line) h
  have h2 := heap_setCell_same _ g 1 _ _ (.int .i64 e.cl) h1
  have h3 := heap_setCell_same _ g 2 _ _ (.int .u64 (e.r : Nat)) h2
  have h4 := heap_setCell_same _ g 3 _ _ (.int .u64 (e.d : Nat)) h3
  have h5 := heap_setCell_same _ g 4 _ _ (.int .i64 e.anti) h4
  refine ⟨h5.trans ?_, fun j hj => ?_⟩
  · simp
  · exact (Below.heap_setCell _ _ _ _ (by simpa using hj)).trans ((Below.heap_setCell _ _ _ _ (by simpa using hj)).trans ((Below.heap_setCell _ _ _ _ (by simpa using hj)).trans ((Below.heap_setCell _ _ _ _ (by simpa using hj)).trans (Below.heap_setCell _ _ _ _ (by simpa using hj)))))
theorem tell_told {W : World} {g k0 : Nat} {e0 : En} {b0 : Bool} (h : Told W g k0 e0 b0) (k : Nat) (e : En) (b : Bool) : Told (tellW W g k e b) g k e b := by
  unfold tellW
  obtain ⟨Wa, hWa⟩ : ∃ Wa, W.setCell ⟨g, 0, none⟩ (.int .i64 (k : Nat)) = Wa := ⟨_, rfl⟩
  have a0 : Wa.heap[g]? = some (.cells #[.int .i64 (k : Nat)] 3 (0, 0)) := by
    rw [← hWa, heap_setCell_same W g 0 _ _ _ h.c0]
    simp
  have a1 : Wa.heap[g + 1]? = W.heap[g + 1]? := by rw [← hWa]; exact Below.heap_setCell _ _ _ _ (by simp)
  have a2 : Wa.heap[g + 1 + 1]? = W.heap[g + 1 + 1]? := by rw [← hWa]; exact Below.heap_setCell _ _ _ _ (by simp; omega)
  rw [hWa]
  obtain ⟨h1, h2⟩ := set5 (a1.trans h.c1) e
  generalize ((((Wa.setCell ⟨g + 1, 0, none⟩ (.int .i64 e.line)).setCell ⟨g + 1, 1, none⟩ (.int .i64 e.cl)).setCell ⟨g + 1, 2, none⟩ (.int .u64 (e.r : Nat))).setCell ⟨g + 1, 3, none⟩ (.int .u64 (e.d : Nat))).setCell ⟨g + 1, 4, none⟩ (.int .i64 e.anti) = Wb at *
  refine ⟨?_, ?_, ?_⟩
  · exact (Below.heap_setCell _ _ _ _ (by simp; omega)).trans ((h2 g (by omega)).trans a0)
  · exact (Below.heap_setCell _ _ _ _ (by simp)).trans h1
  · have := heap_setCell_same Wb (g + 1 + 1) 0 _ _ (.bool b) ((h2 (g + 1 + 1) (by omega)).trans (a2.trans h.c2))
    rw [Boxed, this]
    simp
theorem headE_none {p : En → Bool} {L : List En} (h : hasE p L = false) : headE p L = En.zero := by
  unfold hasE at h
  unfold headE
  rw [decide_eq_false_iff_not] at h
  rw [List.getD, List.getElem?_eq_none (by omega)]
  rfl
set_option maxRecDepth 100000 in
set_option maxHeartbeats 2000000 in
theorem bgfirst_any {w : World} {p lo q rp rq : Nat} {L : List En} {R : List Nat} {now : Nat} (h : BgP w p lo q L) (hr : RdP w rp rq R now) (D : Nat) :
    Calls Try.prog 35 #[.pointer (some ⟨p, 0, none⟩), .pointer (some ⟨rp, 0, none⟩), .int .u64 (D : Nat)] w fun e w' =>
      e = .returned (.tuple #[.int .i64 ((if hasE (readyB (quietB R) D) L then firstAt (readyB (quietB R) D) L else 0 : Nat) : Int), (headE (readyB (quietB R) D) L).val, .bool (hasE (readyB (quietB R) D) L)]) ∧ Below w.heap.size w w' := by
  obtain ⟨g, hg⟩ : ∃ g, w.heap.size = g := ⟨_, rfl⟩
  have HG := Lib.hid hg
  obtain ⟨w3, hw3⟩ : ∃ w3, ((w.alloc (.cells #[.int .i64 0] 3)).alloc (.cells #[.int .i64 0, .int .i64 0, .int .u64 0, .int .u64 0, .int .i64 0] 40)).alloc (.cells #[.bool false] 4) = w3 := ⟨_, rfl⟩
  have ht3 := told_new w
  have hb3 := told_below w
  have hs3 : w3.heap.size = g + 3 := by rw [← hw3, ← hg]; simp
  rw [hw3, hg] at ht3 hb3
  have HRD := Lib.hid (bgready_any w3 (some ⟨p, 0, none⟩) (some ⟨rp, 0, none⟩) D)
  obtain ⟨W0, hW0⟩ : ∃ W0, ((w3.alloc (.cells #[.pointer (some ⟨p, 0, none⟩)] 24)).alloc (.cells #[.pointer (some ⟨rp, 0, none⟩)] 30)).alloc (.cells #[.int .u64 (D : Nat)] 38) = W0 := ⟨_, rfl⟩
  have hb30 : Below (g + 3) w3 W0 := by rw [← hW0, ← hs3]; exact (((Below.refl _ _).alloc (Nat.le_refl _) _).alloc (by simp) _).alloc (by simp; omega) _
  have hbb : Boxed W0 (g + 3) 24 (.pointer (some ⟨p, 0, none⟩)) := by rw [← hW0, ← hs3]; exact ((Boxed.new w3 _ _).alloc _).alloc _
  have hbr : Boxed W0 (g + 3 + 1) 30 (.pointer (some ⟨rp, 0, none⟩)) := by
    rw [← hW0, ← hs3]
    have := (Boxed.new (w3.alloc (.cells #[.pointer (some ⟨p, 0, none⟩)] 24)) 30 (.pointer (some ⟨rp, 0, none⟩))).alloc (.cells #[.int .u64 (D : Nat)] 38)
    rwa [World.size_alloc] at this
  have hbd : Boxed W0 (g + 3 + 2) 38 (.int .u64 (D : Nat)) := by
    rw [← hW0, ← hs3]
    have := Boxed.new ((w3.alloc (.cells #[.pointer (some ⟨p, 0, none⟩)] 24)).alloc (.cells #[.pointer (some ⟨rp, 0, none⟩)] 30)) 38 (.int .u64 (D : Nat))
    rwa [World.size_alloc, World.size_alloc] at this
  have hs0 : W0.heap.size = g + 6 := by rw [← hW0]; simp [hs3]
  have hb0 : Below g w W0 := hb3.trans (hb30.mono (by omega))
  have ht0 := ht3.below hb30 (by omega)
  have HI : Hid (ItE W0 (g + 3) (g + 3 + 1) (g + 3 + 2) p lo q rp rq L R now D) := ⟨hbb, hbr, hbd, h.below (hg ▸ hb0), hr.below (hg ▸ hb0)⟩
  have HT0 := Lib.hid ht0
  have HB0 := Lib.hid hb0
  have HS0 := Lib.hid hs0
  rw [hs3, hW0] at HRD
  have HZ := Lib.hid zero_entry
  obtain ⟨rb, hrb⟩ : ∃ rb, readyB (quietB R) D = rb := ⟨_, rfl⟩
  rw [hrb, hg]
  obtain ⟨Rr, hRr⟩ : ∃ Rr : Ending → World → Prop, (fun e w' => e = .returned (.tuple #[.int .i64 ((if hasE rb L then firstAt rb L else 0 : Nat) : Int), (headE rb L).val, .bool (hasE rb L)]) ∧ Below g w w') = Rr := ⟨_, rfl⟩
  rw [hRr]
  have HNO : Hid (cameE rb L L.length = [] → ∀ w', Below g w w' → Rr (.returned (.tuple #[.int .i64 ((0 : Nat) : Int), En.zero.val, .bool false])) w') := fun h w' hb => by
    have h1 := came_none h
    rw [← hRr]
    exact ⟨by rw [headE_none h1, h1]; rfl, hb⟩
  have HYES : Hid (∀ x k, cameE rb L k = [x] → ∀ w', Below g w w' → Rr (.returned (.tuple #[.int .i64 (x.1 : Int), x.2.val, .bool true])) w') := fun x k h w' hb => by
    obtain ⟨h1, h2, h3⟩ := came_first h
    rw [← hRr]
    exact ⟨by rw [h1, h2, h3]; rfl, hb⟩
  clear hRr
  clear h hr ht3 hb3 hb30 hbb hbr hbd hb0 ht0 hs0
  refine (callsIn_wide (n := 3)).1 ?_
  refine callsIn_of_wp_marks Try.func35 rfl trivial ?_ rfl
  simp only [Try.ntmps35, List.size_toArray, List.length_cons, List.length_nil, Nat.reduceAdd, Nat.reduceSub, Array.replicate_succ, Array.replicate_zero, List.push_toArray, List.append_toArray, List.nil_append, List.cons_append]
  gi_wp2_with (first
    | (refine ⟨trivial, ?_⟩; gi_at_call 46; refine (callsIn_wide.2 HRD.out).mono ?_; rintro y w' ⟨rfl, rfl⟩)
    | fail)
  have h13 : 1 ≤ 3 := by omega
  have HST := bgiter_stops 2 (by omega) HI.out
  rw [hrb] at HST
  have hs6 := HS0.out
  refine wpIn_rangeFunc_ownH (F := Fence.wide) rfl h13 (gf := 53) (lb := #[.pointer (some ⟨g + 3, 0, none⟩), .pointer (some ⟨g + 3 + 1, 0, none⟩), .pointer (some ⟨g + 3 + 2, 0, none⟩)]) rfl trivial (enters_of Try.func53 (by kernel_rfl) rfl)
    HST belowK_t (belowK_b (Nat.le_refl _)) (Below.refl _ _) (fun _ => rfl)
    (fun pre W => (pre = [] ∧ Told W g 0 En.zero false ∧ g + 6 ≤ W.heap.size) ∧ Below g w W)
    (fun c pre W => (c = .ret ∧ ∃ x, pre = [x] ∧ Told W g x.1 x.2 true) ∧ Below g w W)
    (OwnFrom.and (Own.from (fun s A B row hs hg' hr => ⟨hs.1, told_own g (fun _ => 0) (fun _ => En.zero) (fun _ => false) s A B row hs.2.1 hg' hr, Nat.le_trans hs.2.2 hg'.size⟩) _) (ownFrom_below (by omega) (by omega)))
    (fun c => OwnFrom.and (Own.from (fun s A B row hs hg' hr => by obtain ⟨h1, x, h2, h3⟩ := hs; exact ⟨h1, x, h2, told_own g (fun _ => x.1) (fun _ => x.2) (fun _ => true) s A B row h3 hg' hr⟩) _) (ownFrom_below (by omega) (by omega)))
    ⟨⟨rfl, HT0.out, Nat.le_of_eq hs6.symm⟩, HB0.out⟩
    (fun x a' W => ∃ Bx, g + 6 ≤ Bx ∧ EBox W Bx x.2 ∧ a' = { tmps := #[.pointer (some ⟨p, 0, none⟩), .pointer (some ⟨rp, 0, none⟩), .int .u64 (D : Nat), undef, undef, undef, .pointer (some ⟨g, 0, none⟩), .pointer (some ⟨g + 1, 0, none⟩), .pointer (some ⟨g + 1 + 1, 0, none⟩), .int .i64 (x.1 : Int), .pointer (some ⟨Bx, 0, none⟩), .pointer (some ⟨p, 0, none⟩), .bool false, .bool false, .pointer (some ⟨rp, 0, none⟩), .bool false, .bool false, undef, .pointer (some ⟨p, 0, none⟩), .pointer (some ⟨rp, 0, none⟩), .int .u64 (D : Nat), .func (.func 53) #[] #[.pointer (some ⟨g + 3, 0, none⟩), .pointer (some ⟨g + 3 + 1, 0, none⟩), .pointer (some ⟨g + 3 + 2, 0, none⟩)], .int .i64 (x.1 : Int), x.2.val, undef, undef, undef], defers := [] })
    (fun x a' => Own.from (fun s A B row hs hg' hr => by obtain ⟨Bx, h1, h2, h3⟩ := hs; exact ⟨Bx, h1, cells_own Bx 40 (fun _ : Unit => #[.int .i64 x.2.line, .int .i64 x.2.cl, .int .u64 (x.2.r : Nat), .int .u64 (x.2.d : Nat), .int .i64 x.2.anti]) () A B row h2 hg' hr, h3⟩) _)
    ?assign ?body ?done ?stop
  case assign =>
    rintro l pre x W K ⟨⟨hpre, ht, hsz⟩, hbw⟩ hK
    obtain ⟨gw, hgw⟩ : ∃ gw, W.heap.size = gw := ⟨_, rfl⟩
    have HGW := Lib.hid hgw
    have hbb : ∀ W', Below gw W W' → Below W.heap.size W W' := fun W' h => by rw [hgw]; exact h
    have HK := Lib.hid (fun (W' : World) (h1 : EBox W' gw x.2) (h2 : Below gw W W') => hK _ W' (KeepsFrom.of_grownBy (row := none) (grown_below (hbb W' h2)) (fun j e => by cases e)) (h2.mono (by omega)) ⟨⟨hpre, ht.below h2 (by omega), by have := h2.size; omega⟩, hbw.trans (h2.mono (by omega))⟩ ⟨gw, by omega, h1, rfl⟩)
    clear hK hbb ht hbw hpre
    unfold EBox En.val at HK
    gi_wp2_with (first
      | ((with_reducible show wpListIn _ _ _ _ _ (⟨some 10, _, _, _, _, _⟩ :: _) _ _); refine wpListIn_alloc_var (o := ⟨some 10, _, _, _, _, _⟩) rfl 40 rfl gw HGW.out _ HZ.out ?_; intro w5 H5 B5)
      | ((with_reducible show wpListIn _ _ _ _ _ (⟨none, .store _ _ _, _, _, _, _⟩ :: _) _ _); refine wpListIn_store_whole (o := ⟨none, .store 40 (.tmp 10) (.tmp 23), _, _, _, _⟩) rfl _ _ _ rfl rfl gw #[.int .i64 x.2.line, .int .i64 x.2.cl, .int .u64 (x.2.r : Nat), .int .u64 (x.2.d : Nat), .int .i64 x.2.anti] rfl rfl 40 _ H5.out size_entry rfl (ones5 _ _ _ _ _) ?_; intro w6 H6 B6)
      | fail)
    exact HK.out _ H6.out (B5.out.trans B6.out)
  case body =>
    rintro l pre x a' W hl ⟨r, hrr⟩ ⟨⟨rfl, ht, hsz⟩, hbw⟩ ⟨Bx, hBx, hE, rfl⟩ hlt
    obtain ⟨a0, a1, a2, a3, a4⟩ := cells5 ht.c1
    have fz := frozen5 ht.c1
    obtain ⟨b0, b1, b2, b3, b4⟩ := cells5 hE
    have c0 := ht.c0.cell
    have f0 := ht.c0.frozen
    have c2 := ht.c2.cell
    have f2 := ht.c2.frozen
    have h1 := tell_told ht x.1 x.2 true
    have h2 := tell_size W g x.1 x.2 true
    have h3 := tell_heap W g x.1 x.2 true
    have h4 := tell_below W g x.1 x.2 true
    obtain ⟨Wt, hWt⟩ : ∃ Wt, tellW W g x.1 x.2 true = Wt := ⟨_, rfl⟩
    rw [hWt] at h1 h2 h3 h4
    have HFIN : Hid (KeepsFrom w'.heap.size W Wt.drew ∧ ((∃ y, [] ++ [x] = [y] ∧ Told Wt.drew g y.1 y.2 true) ∧ Below g w Wt.drew)) :=
      ⟨⟨Nat.le_of_eq h2.symm, fun k o hB hk ho => (h3 k (by omega) (by omega) (by omega)).trans hk⟩, ⟨x, rfl, ⟨h1.c0, h1.c1, h1.c2⟩⟩, below_drewN (hbw.trans h4) 1⟩
    unfold tellW at hWt
    have HWT := Lib.hid hWt
    clear ht hbw hE h1 h2 h3 h4 hWt
    gi_wp2
    gi_region
    all_goals
      gi_wp2
      rw [HWT.out]
      exact ⟨HFIN.out.1, ⟨rfl, HFIN.out.2.1⟩, HFIN.out.2.2⟩
  case done =>
    rintro Dd ys W hDd hys ⟨⟨rfl, ht, hsz⟩, hbw⟩ hK
    obtain ⟨a0, a1, a2, a3, a4⟩ := cells5 ht.c1
    have fz := frozen5 ht.c1
    have c0 := ht.c0.cell
    have f0 := ht.c0.frozen
    have c2 := ht.c2.cell
    have f2 := ht.c2.frozen
    have HTL := Lib.hid (tell_told ht 0 En.zero false)
    have HBL : Hid (Below g w (tellW W g 0 En.zero false)) := hbw.trans (tell_below _ _ _ _ _)
    have HK' : Hid ((tellW W g 0 En.zero false).heap[Dd]? = some (.deferred (some []))) := (tell_heap W g 0 En.zero false Dd (by omega) (by omega) (by omega)).trans hK
    have HYS := Lib.hid hys.symm
    have HPB := Lib.hid (belowK_b (w := w') (n₀ := w'.heap.size) (Nat.le_refl _) (tellW W g 0 En.zero false) Dd _ (.deferred none) hDd HK'.out rfl rfl)
    clear ht hbw hK hys
    gi_wp2
    refine ⟨by simp, .inl ⟨_, _, rfl, run_takeDeferred HK'.out, ?_⟩⟩
    exact ⟨_, results_told rfl rfl rfl rfl (HTL.out.below HPB.out (by omega)), HNO.out HYS.out _ (HBL.out.trans (HPB.out.mono (by omega)))⟩
  case stop =>
    rintro Dd c pre W hDd ⟨k, hk, hpre⟩ ⟨⟨rfl, x, rfl, ht⟩, hbw⟩ hK
    have HTL := Lib.hid ht
    have HBL := Lib.hid hbw
    have HK' := Lib.hid hK
    have HPRE := Lib.hid hpre.symm
    have HPB := Lib.hid (belowK_b (w := w') (n₀ := w'.heap.size) (Nat.le_refl _) W Dd _ (.deferred none) hDd HK'.out rfl rfl)
    clear ht hbw hK hpre
    gi_wp2
    refine ⟨by simp, .inl ⟨_, _, rfl, run_takeDeferred HK'.out, ?_⟩⟩
    exact ⟨_, results_told rfl rfl rfl rfl (HTL.out.below HPB.out (by omega)), HYES.out x k HPRE.out _ (HBL.out.trans (HPB.out.mono (by omega)))⟩

end Go.Proofs.Ytfonjkbdonbjdaa
