/-
  Proved here, joined: ChA16, ChB16
  Conditions: as each part says.
-/
import Derived.Test.YtlghphccmgmomaaGreatJN33

/-
  Proved here: changes in memory; kinds of one.
  Conditions: none.
-/
namespace Go.Proofs.YtlghphccmgmomaaGreat
open Go Go.RowKit
set_option maxRecDepth 100000

set_option linter.unusedSimpArgs false
/-! ### Changes in memory -/
structure Ch where
  kd : Int
  key : ByteArray
  val : ByteArray
  had : Bool
  old : Ln
  line : Int
  cl : Int
def Ch.cells (c : Ch) : List Value := [.int .i64 c.kd, .string c.key, .string c.val, .bool c.had, .string c.old.str, .int .u64 (c.old.id : Nat), .int .u64 (c.old.ver : Nat), .int .i64 c.old.line, .int .i64 c.old.cl, .int .i64 c.line, .int .i64 c.cl]
theorem ch_info : (Tryz.prog.info? 31).map (fun i => (i.zero, i.size, i.bytes)) = some (some (.agg #[.int .i64 0, .string ⟨#[]⟩, .string ⟨#[]⟩, .bool false, .string ⟨#[]⟩, .int .u64 0, .int .u64 0, .int .i64 0, .int .i64 0, .int .i64 0, .int .i64 0]), 11, 112) := by kernel_rfl
theorem ch_info' : ∃ i, Tryz.prog.info? 31 = some i ∧ i.zero = some (.agg #[.int .i64 0, .string ⟨#[]⟩, .string ⟨#[]⟩, .bool false, .string ⟨#[]⟩, .int .u64 0, .int .u64 0, .int .i64 0, .int .i64 0, .int .i64 0, .int .i64 0]) ∧ i.size = 11 ∧ i.bytes = 112 := by
  obtain ⟨i, h1, h2⟩ := Option.map_eq_some_iff.1 ch_info
  simp only [Prod.mk.injEq] at h2
  exact ⟨i, h1, h2.1, h2.2.1, h2.2.2⟩
theorem zero_ch : (Tryz.prog.info? 31).bind (·.zero) = some (.agg #[.int .i64 0, .string ⟨#[]⟩, .string ⟨#[]⟩, .bool false, .string ⟨#[]⟩, .int .u64 0, .int .u64 0, .int .i64 0, .int .i64 0, .int .i64 0, .int .i64 0]) := by
  obtain ⟨i, h1, h2, _⟩ := ch_info'
  rw [h1]
  exact h2
theorem size_ch : (Tryz.prog.info? 31).map (·.size) = some 11 := by
  obtain ⟨i, h1, _, h2, _⟩ := ch_info'
  rw [h1]
  simp [h2]
theorem onesCh (a : Int) (b c : ByteArray) (d : Bool) (e : ByteArray) (f g h i j k : Int) : (#[.int .i64 a, .string b, .string c, .bool d, .string e, .int .u64 f, .int .u64 g, .int .i64 h, .int .i64 i, .int .i64 j, .int .i64 k] : Array Value).all (·.oneCell') = true := all_oneCell_toArray (cs := [.int .i64 a, .string b, .string c, .bool d, .string e, .int .u64 f, .int .u64 g, .int .i64 h, .int .i64 i, .int .i64 j, .int .i64 k]) (fun u hu => by
  simp only [List.mem_cons, List.not_mem_nil, or_false] at hu
  rcases hu with rfl | rfl | rfl | rfl | rfl | rfl | rfl | rfl | rfl | rfl | rfl <;> rfl)
/-- Changes in a slice. -/
def RH : Rec Ch where
  tE := 31
  tS := 32
  k := 11
  by_ := 112
  zv := .agg #[.int .i64 0, .string ⟨#[]⟩, .string ⟨#[]⟩, .bool false, .string ⟨#[]⟩, .int .u64 0, .int .u64 0, .int .i64 0, .int .i64 0, .int .i64 0, .int .i64 0]
  cells := Ch.cells
  hk := by omega
  klen := fun _ => rfl
  one := fun x u hu => by
    simp only [Ch.cells, List.mem_cons, List.not_mem_nil, or_false] at hu
    rcases hu with rfl | rfl | rfl | rfl | rfl | rfl | rfl | rfl | rfl | rfl | rfl <;> rfl
  und := Tryz.underlying32
  info := ch_info'
  zk := by kernel_rfl
  small := by omega
theorem chAt {w : World} {A : Option Addr} {l : List Ch} (h : RH.Row w A l) {i : Nat} {c : Ch} (hi : l[i]? = some c) : ∃ b off, A = some ⟨b, off, none⟩ ∧ b < w.heap.size ∧
    w.cell? ⟨b, off + i * 11, none⟩ = some (.int .i64 c.kd) ∧ w.cell? ⟨b, off + i * 11 + 1, none⟩ = some (.string c.key) ∧ w.cell? ⟨b, off + i * 11 + 2, none⟩ = some (.string c.val) ∧ w.cell? ⟨b, off + i * 11 + 3, none⟩ = some (.bool c.had) ∧
    w.cell? ⟨b, off + i * 11 + 4, none⟩ = some (.string c.old.str) ∧ w.cell? ⟨b, off + i * 11 + 5, none⟩ = some (.int .u64 (c.old.id : Nat)) ∧ w.cell? ⟨b, off + i * 11 + 6, none⟩ = some (.int .u64 (c.old.ver : Nat)) ∧ w.cell? ⟨b, off + i * 11 + 7, none⟩ = some (.int .i64 c.old.line) ∧ w.cell? ⟨b, off + i * 11 + 8, none⟩ = some (.int .i64 c.old.cl) ∧
    w.cell? ⟨b, off + i * 11 + 9, none⟩ = some (.int .i64 c.line) ∧ w.cell? ⟨b, off + i * 11 + 10, none⟩ = some (.int .i64 c.cl) := by
  obtain ⟨b, off, e1, hlt, hc⟩ := h.2 (by have := (List.getElem?_eq_some_iff.1 hi).1; omega)
  exact ⟨b, off, e1, hlt, hc i c hi 0 _ rfl, hc i c hi 1 _ rfl, hc i c hi 2 _ rfl, hc i c hi 3 _ rfl, hc i c hi 4 _ rfl, hc i c hi 5 _ rfl, hc i c hi 6 _ rfl, hc i c hi 7 _ rfl, hc i c hi 8 _ rfl, hc i c hi 9 _ rfl, hc i c hi 10 _ rfl⟩
/-- The change c in a block of its own. -/
def HBox (w : World) (g : Nat) (c : Ch) : Prop := w.heap[g]? = some (.cells #[.int .i64 c.kd, .string c.key, .string c.val, .bool c.had, .string c.old.str, .int .u64 (c.old.id : Nat), .int .u64 (c.old.ver : Nat), .int .i64 c.old.line, .int .i64 c.old.cl, .int .i64 c.line, .int .i64 c.cl] 31 (0, 0))
theorem HBox.below {w w' : World} {g B : Nat} {c : Ch} (h : HBox w g c) (hb : Below B w w') (hg : g < B) : HBox w' g c := (hb.block g hg).trans h
theorem HBox.lt {w : World} {g : Nat} {c : Ch} (h : HBox w g c) : g < w.heap.size := lt_of_heap h
theorem HBox.at_ {w : World} {g : Nat} {c : Ch} (h : HBox w g c) : w.cell? ⟨g, 0, none⟩ = some (.int .i64 c.kd) ∧ w.cell? ⟨g, 1, none⟩ = some (.string c.key) ∧ w.cell? ⟨g, 2, none⟩ = some (.string c.val) ∧ w.cell? ⟨g, 3, none⟩ = some (.bool c.had) ∧ w.cell? ⟨g, 4, none⟩ = some (.string c.old.str) ∧ w.cell? ⟨g, 5, none⟩ = some (.int .u64 (c.old.id : Nat)) ∧ w.cell? ⟨g, 6, none⟩ = some (.int .u64 (c.old.ver : Nat)) ∧ w.cell? ⟨g, 7, none⟩ = some (.int .i64 c.old.line) ∧ w.cell? ⟨g, 8, none⟩ = some (.int .i64 c.old.cl) ∧ w.cell? ⟨g, 9, none⟩ = some (.int .i64 c.line) ∧ w.cell? ⟨g, 10, none⟩ = some (.int .i64 c.cl) := by
  unfold HBox at h
  refine ⟨?_, ?_, ?_, ?_, ?_, ?_, ?_, ?_, ?_, ?_, ?_⟩ <;> simp [World.cell?, h]
/-! ### What a change is -/
def chgH (c : Ch) : Bool := c.kd == 2 || c.kd == 3
def needH (c : Ch) : Bool := !(c.kd == 3) || c.had
def newH (c : Ch) : Bool := c.kd == 4 || (c.kd == 2 && !c.had)
def isH (c : Ch) : Bool := c.kd == 2 || c.kd == 3 || c.kd == 4 || (c.kd == 5 && c.had)
theorem kd_cases (k : Int) : k = 2 ∨ k = 3 ∨ k = 4 ∨ k = 5 ∨ ((k == 2) = false ∧ (k == 3) = false ∧ (k == 4) = false ∧ (k == 5) = false ∧ (k != 3) = true) := by
  simp only [beq_eq_false_iff_ne, bne_iff_ne]
  omega
set_option maxHeartbeats 800000 in
theorem chg_any16 (c : Ch) (w : World) : Calls Tryz.prog 51 #[.agg #[.int .i64 c.kd, .string c.key, .string c.val, .bool c.had, .string c.old.str, .int .u64 (c.old.id : Nat), .int .u64 (c.old.ver : Nat), .int .i64 c.old.line, .int .i64 c.old.cl, .int .i64 c.line, .int .i64 c.cl]] w fun e w' => e = .returned (.bool (chgH c)) ∧ Below w.heap.size w w' := by
  have hb : ∀ o, Below w.heap.size w (w.alloc o) := fun o => (Below.refl _ _).alloc (Nat.le_refl _) _
  unfold chgH
  generalize c.had = had at *
  generalize c.kd = kd at *
  generalize c.key = s1 at *
  generalize c.val = s2 at *
  generalize c.old.str = s4 at *
  generalize (c.old.id : Int) = s5 at *
  generalize (c.old.ver : Int) = s6 at *
  generalize c.old.line = s7 at *
  generalize c.old.cl = s8 at *
  generalize c.line = s9 at *
  generalize c.cl = s10 at *
  rcases kd_cases kd with rfl | rfl | rfl | rfl | ⟨k2, k3, k4, k5, n3⟩ <;> cases had
  all_goals
    go_enter Tryz.func51, Tryz.ntmps51
    go_wp2
    go_ret
    refine ⟨?_, hb _⟩
    first | rfl | (simp [k2, k3, k4, k5]; done)
set_option maxHeartbeats 800000 in
theorem need_any16 (c : Ch) (w : World) : Calls Tryz.prog 55 #[.agg #[.int .i64 c.kd, .string c.key, .string c.val, .bool c.had, .string c.old.str, .int .u64 (c.old.id : Nat), .int .u64 (c.old.ver : Nat), .int .i64 c.old.line, .int .i64 c.old.cl, .int .i64 c.line, .int .i64 c.cl]] w fun e w' => e = .returned (.bool (needH c)) ∧ Below w.heap.size w w' := by
  have hb : ∀ o, Below w.heap.size w (w.alloc o) := fun o => (Below.refl _ _).alloc (Nat.le_refl _) _
  unfold needH
  generalize c.had = had at *
  generalize c.kd = kd at *
  generalize c.key = s1 at *
  generalize c.val = s2 at *
  generalize c.old.str = s4 at *
  generalize (c.old.id : Int) = s5 at *
  generalize (c.old.ver : Int) = s6 at *
  generalize c.old.line = s7 at *
  generalize c.old.cl = s8 at *
  generalize c.line = s9 at *
  generalize c.cl = s10 at *
  rcases kd_cases kd with rfl | rfl | rfl | rfl | ⟨k2, k3, k4, k5, n3⟩ <;> cases had
  all_goals
    go_enter Tryz.func55, Tryz.ntmps55
    go_wp2
    go_ret
    refine ⟨?_, hb _⟩
    first | rfl | (simp [k2, k3, k4, k5]; done)
set_option maxHeartbeats 800000 in
theorem new_any16 (c : Ch) (w : World) : Calls Tryz.prog 60 #[.agg #[.int .i64 c.kd, .string c.key, .string c.val, .bool c.had, .string c.old.str, .int .u64 (c.old.id : Nat), .int .u64 (c.old.ver : Nat), .int .i64 c.old.line, .int .i64 c.old.cl, .int .i64 c.line, .int .i64 c.cl]] w fun e w' => e = .returned (.bool (newH c)) ∧ Below w.heap.size w w' := by
  have hb : ∀ o, Below w.heap.size w (w.alloc o) := fun o => (Below.refl _ _).alloc (Nat.le_refl _) _
  unfold newH
  generalize c.had = had at *
  generalize c.kd = kd at *
  generalize c.key = s1 at *
  generalize c.val = s2 at *
  generalize c.old.str = s4 at *
  generalize (c.old.id : Int) = s5 at *
  generalize (c.old.ver : Int) = s6 at *
  generalize c.old.line = s7 at *
  generalize c.old.cl = s8 at *
  generalize c.line = s9 at *
  generalize c.cl = s10 at *
  rcases kd_cases kd with rfl | rfl | rfl | rfl | ⟨k2, k3, k4, k5, n3⟩ <;> cases had
  all_goals
    go_enter Tryz.func60, Tryz.ntmps60
    go_wp2
    go_ret
    refine ⟨?_, hb _⟩
    first | rfl | (simp [k2, k3, k4, k5]; done)
set_option maxHeartbeats 800000 in
theorem ischange_any (c : Ch) (w : World) : Calls Tryz.prog 49 #[.agg #[.int .i64 c.kd, .string c.key, .string c.val, .bool c.had, .string c.old.str, .int .u64 (c.old.id : Nat), .int .u64 (c.old.ver : Nat), .int .i64 c.old.line, .int .i64 c.old.cl, .int .i64 c.line, .int .i64 c.cl]] w fun e w' => e = .returned (.bool (isH c)) ∧ Below w.heap.size w w' := by
  have hb : ∀ o, Below w.heap.size w (w.alloc o) := fun o => (Below.refl _ _).alloc (Nat.le_refl _) _
  unfold isH
  generalize c.had = had at *
  generalize c.kd = kd at *
  generalize c.key = s1 at *
  generalize c.val = s2 at *
  generalize c.old.str = s4 at *
  generalize (c.old.id : Int) = s5 at *
  generalize (c.old.ver : Int) = s6 at *
  generalize c.old.line = s7 at *
  generalize c.old.cl = s8 at *
  generalize c.line = s9 at *
  generalize c.cl = s10 at *
  rcases kd_cases kd with rfl | rfl | rfl | rfl | ⟨k2, k3, k4, k5, n3⟩ <;> cases had
  all_goals
    go_enter Tryz.func49, Tryz.ntmps49
    go_wp2
    go_ret
    refine ⟨?_, hb _⟩
    first | rfl | (simp [k2, k3, k4, k5]; done)

end Go.Proofs.YtlghphccmgmomaaGreat

/-
  Proved here: changes that cannot go together; slices.ContainsFunc at changes.
  Conditions: none.
-/
namespace Go.Proofs.YtlghphccmgmomaaGreat
open Go Go.RowKit
set_option maxRecDepth 100000

set_option linter.unusedSimpArgs false
/-! ### Changes that cannot go together -/
def collB (c x : Ch) : Bool := if chgH c then chgH x && (x.key.toList == c.key.toList) else c.kd == 5 && x.kd == 5
set_option maxHeartbeats 800000 in
theorem coll1_any (c x : Ch) (b : Nat) (w : World) (hc : HBox w b c) : Calls Tryz.prog 98 #[.agg #[.int .i64 x.kd, .string x.key, .string x.val, .bool x.had, .string x.old.str, .int .u64 (x.old.id : Nat), .int .u64 (x.old.ver : Nat), .int .i64 x.old.line, .int .i64 x.old.cl, .int .i64 x.line, .int .i64 x.cl], .pointer (some ⟨b, 0, none⟩)] w fun e w' => e = .returned (.bool (collB c x)) ∧ Below w.heap.size w w' := by
  have HC := Lib.hid (fun w1 => chg_any16 c w1)
  have HX := Lib.hid (fun w1 => chg_any16 x w1)
  obtain ⟨g, hg⟩ : ∃ g, w.heap.size = g := ⟨_, rfl⟩
  obtain ⟨w1, hw1⟩ : ∃ w1, w.alloc (.cells #[.int .i64 x.kd, .string x.key, .string x.val, .bool x.had, .string x.old.str, .int .u64 (x.old.id : Nat), .int .u64 (x.old.ver : Nat), .int .i64 x.old.line, .int .i64 x.old.cl, .int .i64 x.line, .int .i64 x.cl] 31) = w1 := ⟨_, rfl⟩
  have HXg : Hid (HBox w1 g x) := by rw [← hw1, ← hg]; exact heap_alloc_new w _
  have HBg : Hid (Below g w w1) := by rw [← hw1, ← hg]; exact (Below.refl _ _).alloc (Nat.le_refl _) _
  have HCB := Lib.hid (hc.below HBg.out (hg ▸ hc.lt))
  unfold collB
  rw [hg]
  obtain ⟨c0, c1, c2, c3, c4, c5, c6, c7, c8, c9, c10⟩ := HCB.out.at_
  clear hc
  cases hz : chgH c with
  | true =>
    rw [hz] at HC
    generalize chgH x = zx at *
    go_enter Tryz.func98, Tryz.ntmps98
    go_wp2_with fail
    refine (HC.out w1).mono ?_
    clear hg hw1 c0 c1 c2 c3 c4 c5 c6 c7 c8 c9 c10
    rintro e w2 ⟨rfl, hb2⟩
    have HB2 : Hid (Below g w w2) := HBg.out.trans (hb2.mono (Nat.le_of_lt HXg.out.lt))
    have HX2 := Lib.hid (HXg.out.below hb2 HXg.out.lt)
    have HC2 := Lib.hid (HCB.out.below hb2 HCB.out.lt)
    clear hb2
    obtain ⟨c0, c1, c2, c3, c4, c5, c6, c7, c8, c9, c10⟩ := HX2.out.at_
    go_wp2_with fail
    refine (HX.out w2).mono ?_
    clear c0 c1 c2 c3 c4 c5 c6 c7 c8 c9 c10
    rintro e w3 ⟨rfl, hb3⟩
    have HB3 : Hid (Below g w w3) := HB2.out.trans (hb3.mono (Nat.le_of_lt HX2.out.lt))
    obtain ⟨c0, c1, c2, c3, c4, c5, c6, c7, c8, c9, c10⟩ := (HX2.out.below hb3 HX2.out.lt).at_
    obtain ⟨d0, d1, d2, d3, d4, d5, d6, d7, d8, d9, d10⟩ := (HC2.out.below hb3 HC2.out.lt).at_
    clear hb3
    cases zx
    all_goals
      go_wp2
      go_ret
      exact ⟨rfl, HB3.out⟩
  | false =>
    rw [hz] at HC
    go_enter Tryz.func98, Tryz.ntmps98
    go_wp2_with fail
    refine (HC.out w1).mono ?_
    clear hg hw1 c0 c1 c2 c3 c4 c5 c6 c7 c8 c9 c10
    rintro e w2 ⟨rfl, hb2⟩
    have HB2 : Hid (Below g w w2) := HBg.out.trans (hb2.mono (Nat.le_of_lt HXg.out.lt))
    have HX2 := Lib.hid (HXg.out.below hb2 HXg.out.lt)
    have HC2 := Lib.hid (HCB.out.below hb2 HCB.out.lt)
    clear hb2
    obtain ⟨c0, c1, c2, c3, c4, c5, c6, c7, c8, c9, c10⟩ := HX2.out.at_
    obtain ⟨d0, d1, d2, d3, d4, d5, d6, d7, d8, d9, d10⟩ := HC2.out.at_
    cases hk : (c.kd == 5)
    all_goals
      go_wp2
      go_ret
      exact ⟨rfl, HB2.out⟩
/-- What a predicate over changes answers, in every world that has come of w. -/
def PredH (g : Nat) (cb : Array Value) (l : List Ch) (p : Ch → Bool) (w : World) : Prop :=
  ∀ W, Below w.heap.size w W → ∀ x ∈ l, Calls Tryz.prog g (#[.agg #[.int .i64 x.kd, .string x.key, .string x.val, .bool x.had, .string x.old.str, .int .u64 (x.old.id : Nat), .int .u64 (x.old.ver : Nat), .int .i64 x.old.line, .int .i64 x.old.cl, .int .i64 x.line, .int .i64 x.cl]] ++ cb) W fun e w' => e = .returned (.bool (p x)) ∧ Below W.heap.size W w'
noncomputable def fIdx {α : Type} (p : α → Bool) (l : List α) : Int := if l.any p then (l.findIdx p : Nat) else -1
theorem fIdx_at {α : Type} (p : α → Bool) (l : List α) (i : Nat) (x : α) (h : ∀ (j : Nat) y, j < i → l[j]? = some y → p y = false) (hx : l[i]? = some x) (hp : p x = true) : fIdx p l = i := by
  obtain ⟨hi, rfl⟩ := List.getElem?_eq_some_iff.1 hx
  unfold fIdx
  rw [if_pos (List.any_eq_true.2 ⟨_, List.getElem_mem hi, hp⟩), (List.findIdx_eq hi).2 ⟨hp, fun j hj => h j _ hj (List.getElem?_eq_getElem (by omega))⟩]
theorem fIdx_no {α : Type} (p : α → Bool) (l : List α) (h : ∀ (j : Nat) y, l[j]? = some y → p y = false) : fIdx p l = -1 := by
  unfold fIdx
  rw [if_neg]
  rw [Bool.not_eq_true, List.any_eq_false]
  intro x hx
  obtain ⟨j, hj⟩ := List.getElem?_of_mem hx
  rw [h j x hj]
  simp
theorem fIdx_any {α : Type} (p : α → Bool) (l : List α) : decide (0 ≤ fIdx p l) = l.any p := by
  unfold fIdx
  cases l.any p <;> simp
set_option maxHeartbeats 800000 in
theorem idxh_any {w : World} {A : Option Addr} {l : List Ch} (n cap : Nat) (hn : l.length = n) (hr : RH.Row w A l) (g : Nat) (cb : Array Value) (lb : Array Value) (p : Ch → Bool) (hlb : lb = #[])
    (eg : ∀ args w, (callFunc g args).run Tryz.prog w = .ok (.enter g args) w) (hc : PredH g cb l p w) :
    Calls Tryz.prog 146 #[.slice A n cap, .func (.func g) lb cb] w fun e w' => e = .returned (.int .i64 (fIdx p l)) ∧ Below w.heap.size w w' := by
  subst hlb
  have hmax := hr.1
  rw [hn] at hmax
  obtain ⟨B, hB⟩ : ∃ B, w.heap.size = B := ⟨_, rfl⟩
  obtain ⟨r, hr0⟩ : ∃ r, fIdx p l = r := ⟨_, rfl⟩
  rw [hr0, hB]
  have HR := Lib.hid hr
  have HN := Lib.hid hn
  have HC : Hid (∀ W, Below B w W → ∀ x ∈ l, Calls Tryz.prog g (#[.agg #[.int .i64 x.kd, .string x.key, .string x.val, .bool x.had, .string x.old.str, .int .u64 (x.old.id : Nat), .int .u64 (x.old.ver : Nat), .int .i64 x.old.line, .int .i64 x.old.cl, .int .i64 x.line, .int .i64 x.cl]] ++ cb) W fun e w' => e = .returned (.bool (p x)) ∧ Below W.heap.size W w') := hB ▸ hc
  have HBS := Lib.hid hB
  have HR0 := Lib.hid hr0
  clear hr hn hc hr0 hB
  go_enter Tryz.func146, Tryz.ntmps146
  go_wp2
  go_loopg [8] n (fun gk s8 wx => ∃ i : Nat, i + gk = n ∧ s8 = .int .i64 i ∧ Hid (Below B w wx) ∧ Hid (∀ j y, j < i → l[j]? = some y → p y = false))
  case atStart => exact ⟨0, by omega, rfl, Below.refl _ _, fun j y hj => by omega⟩
  case round =>
    obtain ⟨i, hig, rfl, HW, HP⟩ := hrel
    cases gk with
    | zero =>
      obtain rfl : i = n := by omega
      have hii : ¬ (i : Int) < (i : Int) := by omega
      obtain rfl : r = -1 := by
        rw [← HR0.out]
        exact fIdx_no p l fun j y hy => HP.out j y (by have := (List.getElem?_eq_some_iff.1 hy).1; have := HN.out; omega) hy
      go_wp2
      go_ret
      exact ⟨rfl, HW.out⟩
    | succ gk =>
      have hii : (i : Int) < (n : Int) := by omega
      have hil : i < l.length := by have := HN.out; omega
      have hgi := List.getElem?_eq_getElem hil
      have HCX := Lib.hid (HC.out wr HW.out _ (List.getElem_mem hil))
      generalize l[i] = x at *
      obtain ⟨b, off, rfl, -, c0, c1, c2, c3, c4, c5, c6, c7, c8, c9, c10⟩ := chAt (HR.out.below (HBS.out.symm ▸ HW.out)) hgi
      have HGI := Lib.hid hgi
      have HP2 : Hid (p x = false → ∀ j y, j < i + 1 → l[j]? = some y → p y = false) := fun hp j y hj hy => by
        rcases Nat.lt_or_ge j i with h | h
        · exact HP.out j y h hy
        · obtain rfl : j = i := by omega
          rw [HGI.out] at hy
          cases hy
          exact hp
      have HP3 : Hid (p x = true → r = i) := fun hp => by rw [← HR0.out]; exact fIdx_at p l i x HP.out HGI.out hp
      have hbw : B ≤ wr.heap.size := by have := HW.out.size; have := HBS.out; omega
      clear hgi hil
      generalize p x = z at *
      generalize x.kd = x0 at *
      generalize x.key = x1 at *
      generalize x.val = x2 at *
      generalize x.had = x3 at *
      generalize x.old.str = x4 at *
      generalize (x.old.id : Int) = x5 at *
      generalize (x.old.ver : Int) = x6 at *
      generalize x.old.line = x7 at *
      generalize x.old.cl = x8 at *
      generalize x.line = x9 at *
      generalize x.cl = x10 at *
      cases z with
      | true =>
        obtain rfl := HP3.out rfl
        go_wp2_with (go_at_fn g; refine HCX.out.mono ?_; rintro e w' ⟨rfl, hb'⟩)
        go_ret
        exact ⟨rfl, HW.out.trans (hb'.mono hbw)⟩
      | false =>
        have HP4 := Lib.hid (HP2.out rfl)
        go_wp2_with (go_at_fn g; refine HCX.out.mono ?_; rintro e w' ⟨rfl, hb'⟩)
        go_roundg gk
        case measure => omega
        case rel => exact ⟨i + 1, by omega, by go_num, HW.out.trans (hb'.mono hbw), HP4⟩
set_option maxHeartbeats 400000 in
theorem containsh_any {w : World} {A : Option Addr} {l : List Ch} (n cap : Nat) (hn : l.length = n) (hr : RH.Row w A l) (g : Nat) (cb : Array Value) (lb : Array Value) (p : Ch → Bool) (hlb : lb = #[])
    (eg : ∀ args w, (callFunc g args).run Tryz.prog w = .ok (.enter g args) w) (hc : PredH g cb l p w) :
    Calls Tryz.prog 97 #[.slice A n cap, .func (.func g) lb cb] w fun e w' => e = .returned (.bool (l.any p)) ∧ Below w.heap.size w w' := by
  have H := Lib.hid (idxh_any n cap hn hr g cb lb p hlb eg hc)
  have he := fIdx_any p l
  generalize fIdx p l = r at *
  generalize l.any p = z at *
  subst he
  clear hc hr hlb
  go_enter Tryz.func97, Tryz.ntmps97
  go_wp2_with fail
  refine H.out.mono ?_
  rintro e w' ⟨rfl, hb⟩
  go_wp2
  go_ret
  exact ⟨rfl, hb⟩
set_option maxHeartbeats 800000 in
theorem coll_any {w : World} {A : Option Addr} {l : List Ch} (n cap : Nat) (hn : l.length = n) (hr : RH.Row w A l) (c : Ch) :
    Calls Tryz.prog 50 #[.slice A n cap, .agg #[.int .i64 c.kd, .string c.key, .string c.val, .bool c.had, .string c.old.str, .int .u64 (c.old.id : Nat), .int .u64 (c.old.ver : Nat), .int .i64 c.old.line, .int .i64 c.old.cl, .int .i64 c.line, .int .i64 c.cl]] w fun e w' => e = .returned (.bool (l.any (collB c))) ∧ Below w.heap.size w w' := by
  obtain ⟨g, hg⟩ : ∃ g, w.heap.size = g := ⟨_, rfl⟩
  obtain ⟨w1, hw1⟩ : ∃ w1, w.alloc (.cells #[.int .i64 c.kd, .string c.key, .string c.val, .bool c.had, .string c.old.str, .int .u64 (c.old.id : Nat), .int .u64 (c.old.ver : Nat), .int .i64 c.old.line, .int .i64 c.old.cl, .int .i64 c.line, .int .i64 c.cl] 31) = w1 := ⟨_, rfl⟩
  have HXg : Hid (HBox w1 g c) := by rw [← hw1, ← hg]; exact heap_alloc_new w _
  have HBg : Hid (Below g w w1) := by rw [← hw1, ← hg]; exact (Below.refl _ _).alloc (Nat.le_refl _) _
  have H := Lib.hid (containsh_any n cap hn (hr.below (hg.symm ▸ HBg.out)) 98 #[.pointer (some ⟨g, 0, none⟩)] #[] (collB c) rfl (enters_of Tryz.func98 (by kernel_rfl) rfl) (fun W hW x _ => coll1_any c x g W (HXg.out.below hW HXg.out.lt)))
  generalize l.any (collB c) = z at *
  rw [hg]
  clear hn hr
  go_enter Tryz.func50, Tryz.ntmps50
  go_wp2_with fail
  refine H.out.mono ?_
  rintro e w2 ⟨rfl, hb⟩
  have HB : Hid (Below g w w2) := HBg.out.trans (hb.mono (Nat.le_of_lt HXg.out.lt))
  clear hb
  go_wp2
  go_ret
  exact ⟨rfl, HB.out⟩

end Go.Proofs.YtlghphccmgmomaaGreat
