/-
  Proved here: calls in memory; kinds and lengths of one; slices.IndexFunc and ContainsFunc at calls.
  Conditions: rows of at most 2^20 calls.
-/
import Derived.Test.YtpmgnhijiodbaaaRecMem
import Derived.Test.YtpmgnhijiodbaaaStoreOnly
import Derived.Shelf.Abstract
import Derived.Deep.QuietTactic
import Derived.BigQuiet
import Derived.IntWalk
import Derived.WalkSmall
namespace Go.Proofs.Ytpmgnhijiodbaaa
open Go Go.RowKit
set_option maxRecDepth 100000

/-! ### Calls -/
/-- A call's own cells: its kind, its three texts, its group's slice. -/
structure Cal where
  kd : Int
  key : ByteArray
  val : ByteArray
  to_ : ByteArray
  ga : Option Addr
  gn : Nat
  gc : Nat
def Cal.cells (x : Cal) : List Value := [.int .i64 x.kd, .string x.key, .string x.val, .string x.to_, .slice x.ga x.gn x.gc]
def Cal.agg (x : Cal) : Value := .agg #[.int .i64 x.kd, .string x.key, .string x.val, .string x.to_, .slice x.ga x.gn x.gc]
theorem Cal.agg_cells (x : Cal) : x.agg = .agg x.cells.toArray := rfl
theorem call_info : (Try.prog.info? 31).map (fun i => (i.zero, i.size, i.bytes)) = some (some (.agg #[.int .i64 0, .string ⟨#[]⟩, .string ⟨#[]⟩, .string ⟨#[]⟩, .slice none 0 0]), 5, 80) := by kernel_rfl
theorem call_info' : ∃ i, Try.prog.info? 31 = some i ∧ i.zero = some (.agg #[.int .i64 0, .string ⟨#[]⟩, .string ⟨#[]⟩, .string ⟨#[]⟩, .slice none 0 0]) ∧ i.size = 5 ∧ i.bytes = 80 := by
  obtain ⟨i, h1, h2⟩ := Option.map_eq_some_iff.1 call_info
  simp only [Prod.mk.injEq] at h2
  exact ⟨i, h1, h2.1, h2.2.1, h2.2.2⟩
theorem zero_call : (Try.prog.info? 31).bind (·.zero) = some (.agg #[.int .i64 0, .string ⟨#[]⟩, .string ⟨#[]⟩, .string ⟨#[]⟩, .slice none 0 0]) := by
  obtain ⟨i, h1, h2, _⟩ := call_info'
  rw [h1]
  exact h2
theorem size_call : (Try.prog.info? 31).map (·.size) = some 5 := by
  obtain ⟨i, h1, _, h2, _⟩ := call_info'
  rw [h1]
  simp [h2]
theorem onesC (a : Int) (b c d : ByteArray) (p : Option Addr) (n m : Nat) : (#[.int .i64 a, .string b, .string c, .string d, .slice p n m] : Array Value).all (·.oneCell') = true := all_oneCell_toArray (cs := [.int .i64 a, .string b, .string c, .string d, .slice p n m]) (fun u hu => by
  simp only [List.mem_cons, List.not_mem_nil, or_false] at hu
  rcases hu with rfl | rfl | rfl | rfl | rfl <;> rfl)
/-- Calls in a slice. -/
def RC : Rec Cal where
  tE := 31
  tS := 29
  k := 5
  by_ := 80
  zv := .agg #[.int .i64 0, .string ⟨#[]⟩, .string ⟨#[]⟩, .string ⟨#[]⟩, .slice none 0 0]
  cells := Cal.cells
  hk := by omega
  klen := fun _ => rfl
  one := fun x u hu => by
    simp only [Cal.cells, List.mem_cons, List.not_mem_nil, or_false] at hu
    rcases hu with rfl | rfl | rfl | rfl | rfl <;> rfl
  und := Try.underlying29
  info := call_info'
  zk := by kernel_rfl
  small := by omega
/-- The five cells of one call in a row. -/
theorem callAt {w : World} {A : Option Addr} {l : List Cal} (h : RC.Row w A l) {i : Nat} {e : Cal} (hi : l[i]? = some e) : ∃ b off, A = some ⟨b, off, none⟩ ∧ b < w.heap.size ∧
    w.cell? ⟨b, off + i * 5, none⟩ = some (.int .i64 e.kd) ∧ w.cell? ⟨b, off + i * 5 + 1, none⟩ = some (.string e.key) ∧ w.cell? ⟨b, off + i * 5 + 2, none⟩ = some (.string e.val) ∧
    w.cell? ⟨b, off + i * 5 + 3, none⟩ = some (.string e.to_) ∧ w.cell? ⟨b, off + i * 5 + 4, none⟩ = some (.slice e.ga e.gn e.gc) := by
  obtain ⟨b, off, e1, hlt, hc⟩ := h.2 (by have := (List.getElem?_eq_some_iff.1 hi).1; omega)
  exact ⟨b, off, e1, hlt, hc i e hi 0 _ rfl, hc i e hi 1 _ rfl, hc i e hi 2 _ rfl, hc i e hi 3 _ rfl, hc i e hi 4 _ rfl⟩
/-- The call x in a block of its own. -/
def CBox (w : World) (g : Nat) (x : Cal) : Prop := w.heap[g]? = some (.cells #[.int .i64 x.kd, .string x.key, .string x.val, .string x.to_, .slice x.ga x.gn x.gc] 31 (0, 0))
theorem CBox.below {w w' : World} {g B : Nat} {x : Cal} (h : CBox w g x) (hb : Below B w w') (hg : g < B) : CBox w' g x := (hb.block g hg).trans h
theorem CBox.lt {w : World} {g : Nat} {x : Cal} (h : CBox w g x) : g < w.heap.size := lt_of_heap h
theorem CBox.at_ {w : World} {g : Nat} {x : Cal} (h : CBox w g x) : w.cell? ⟨g, 0, none⟩ = some (.int .i64 x.kd) ∧ w.cell? ⟨g, 1, none⟩ = some (.string x.key) ∧ w.cell? ⟨g, 2, none⟩ = some (.string x.val) ∧ w.cell? ⟨g, 3, none⟩ = some (.string x.to_) ∧ w.cell? ⟨g, 4, none⟩ = some (.slice x.ga x.gn x.gc) := by
  unfold CBox at h
  refine ⟨?_, ?_, ?_, ?_, ?_⟩ <;> simp [World.cell?, h]
/-! ### What is wrong with a call -/
def chgB (x : Cal) : Bool := x.kd == 2 || x.kd == 3
def hasKey (x : Cal) : Bool := !x.key.toList.isEmpty
def eqK (a b : ByteArray) : Bool := a.toList == b.toList
/-- May it stand in a group, but for lengths? -/
def memB (x : Cal) : Bool := (chgB x && hasKey x) || x.kd == 4
def shB (c x : Cal) : Bool := chgB x && eqK x.key c.key
def sharesB (l : List Cal) (c : Cal) : Bool := chgB c && l.any (shB c)
/-- The first k of a group may stand so. -/
def grpUpto (G : List Cal) (k : Nat) : Prop := ∀ i x, i < k → G[i]? = some x → memB x = true ∧ sharesB (G.take i) x = false
def kindOk (x : Cal) : Bool := x.kd == 1 || x.kd == 2 || x.kd == 3 || x.kd == 4 || x.kd == 5 || x.kd == 6 || x.kd == 8
/-- Formed, where it is no group. -/
def formF (x : Cal) : Bool := if x.kd == 1 || x.kd == 2 || x.kd == 3 then hasKey x else x.kd == 4 || x.kd == 5 || x.kd == 6 || x.kd == 8
def longK (s : ByteArray) : Bool := decide ((16 : Int) < s.size)
def longV (s : ByteArray) : Bool := decide ((400 : Int) < s.size)
def longF (x : Cal) : Bool := if x.kd == 1 || x.kd == 3 then longK x.key else if x.kd == 2 then longK x.key || longV x.val else if x.kd == 4 then longV x.val else if x.kd == 6 then longK x.key || longK x.to_ else false
set_option maxHeartbeats 400000 in
theorem chg_any (x : Cal) (w : World) : Calls Try.prog 82 #[.agg #[.int .i64 x.kd, .string x.key, .string x.val, .string x.to_, .slice x.ga x.gn x.gc]] w fun e w' => e = .returned (.bool (chgB x)) ∧ Below w.heap.size w w' := by
  unfold chgB
  generalize x.kd = kd at *
  generalize x.key = s1 at *
  generalize x.val = s2 at *
  generalize x.to_ = s3 at *
  by_cases h : kd = 2
  · subst h
    go_enter Try.func82, Try.ntmps82
    go_wp2
    go_ret
    exact ⟨rfl, (Below.refl _ _).alloc (Nat.le_refl _) _⟩
  · have h2 : (kd == 2) = false := by simpa using h
    rw [h2, Bool.false_or]
    clear h
    go_enter Try.func82, Try.ntmps82
    go_wp2
    go_ret
    exact ⟨rfl, (Below.refl _ _).alloc (Nat.le_refl _) _⟩
set_option maxHeartbeats 400000 in
theorem longk_any (s : ByteArray) (w : World) : Calls Try.prog 59 #[.string s] w fun e w' => e = .returned (.bool (longK s)) ∧ w = w' := by
  unfold longK
  go_enter Try.func59, Try.ntmps59
  go_wp2
  go_ret
  exact ⟨rfl, rfl⟩
set_option maxHeartbeats 400000 in
theorem longv_any (s : ByteArray) (w : World) : Calls Try.prog 60 #[.string s] w fun e w' => e = .returned (.bool (longV s)) ∧ w = w' := by
  unfold longV
  go_enter Try.func60, Try.ntmps60
  go_wp2
  go_ret
  exact ⟨rfl, rfl⟩
set_option maxHeartbeats 400000 in
theorem shares1_any (c x : Cal) (b : Nat) (w : World) (hc : CBox w b c) : Calls Try.prog 83 #[.agg #[.int .i64 x.kd, .string x.key, .string x.val, .string x.to_, .slice x.ga x.gn x.gc], .pointer (some ⟨b, 0, none⟩)] w fun e w' => e = .returned (.bool (shB c x)) ∧ Below w.heap.size w w' := by
  have HC := Lib.hid (fun w1 => chg_any x w1)
  obtain ⟨g, hg⟩ : ∃ g, w.heap.size = g := ⟨_, rfl⟩
  obtain ⟨w1, hw1⟩ : ∃ w1, w.alloc (.cells #[.int .i64 x.kd, .string x.key, .string x.val, .string x.to_, .slice x.ga x.gn x.gc] 31) = w1 := ⟨_, rfl⟩
  have HXg : Hid (CBox w1 g x) := by rw [← hw1, ← hg]; exact heap_alloc_new w _
  have HBg : Hid (Below g w w1) := by rw [← hw1, ← hg]; exact (Below.refl _ _).alloc (Nat.le_refl _) _
  have HGg : Hid (w.heap.size = g) := hg
  have HCB := Lib.hid (hc.below HBg.out (hg ▸ hc.lt))
  unfold shB eqK
  rw [hg]
  obtain ⟨c0, c1, c2, c3, c4⟩ := HXg.out.at_
  clear hc
  generalize chgB x = z at *
  go_enter Try.func83, Try.ntmps83
  go_wp2_with fail
  refine (HC.out w1).mono ?_
  clear hg hw1 c0 c1 c2 c3 c4
  rintro e w2 ⟨rfl, hb2⟩
  have HB2 : Hid (Below g w w2) := HBg.out.trans (hb2.mono (Nat.le_of_lt HXg.out.lt))
  obtain ⟨c0, c1, c2, c3, c4⟩ := (HXg.out.below hb2 HXg.out.lt).at_
  obtain ⟨d0, d1, d2, d3, d4⟩ := (HCB.out.below hb2 HCB.out.lt).at_
  clear hb2
  cases z
  all_goals
    go_wp2
    go_ret
    exact ⟨rfl, HB2.out⟩
/-- What a predicate over calls answers, in every world that has come of w. -/
def PredC (g : Nat) (cb : Array Value) (l : List Cal) (p : Cal → Bool) (w : World) : Prop :=
  ∀ W, Below w.heap.size w W → ∀ x ∈ l, Calls Try.prog g (#[.agg #[.int .i64 x.kd, .string x.key, .string x.val, .string x.to_, .slice x.ga x.gn x.gc]] ++ cb) W fun e w' => e = .returned (.bool (p x)) ∧ Below W.heap.size W w'
/-- The first place of which p holds, or -1. -/
def fIdx {α : Type} (p : α → Bool) (l : List α) : Int := if l.any p then (l.findIdx p : Nat) else -1
theorem fIdx_at {α : Type} (p : α → Bool) (l : List α) (i : Nat) (x : α) (h : ∀ j y, j < i → l[j]? = some y → p y = false) (hx : l[i]? = some x) (hp : p x = true) : fIdx p l = i := by
  obtain ⟨hi, rfl⟩ := List.getElem?_eq_some_iff.1 hx
  unfold fIdx
  rw [if_pos (List.any_eq_true.2 ⟨_, List.getElem_mem hi, hp⟩), (List.findIdx_eq hi).2 ⟨hp, fun j hj => h j _ hj (List.getElem?_eq_getElem (by omega))⟩]
theorem fIdx_no {α : Type} (p : α → Bool) (l : List α) (h : ∀ (j : Nat) y, l[j]? = some y → p y = false) : fIdx p l = -1 := by
  unfold fIdx
  rw [if_neg]
  rw [Bool.not_eq_true, List.any_eq_false]
  intro x hx
  obtain ⟨j, hj⟩ := List.getElem?_of_mem hx
  rw [h j x hj]
  simp
theorem fIdx_any {α : Type} (p : α → Bool) (l : List α) : decide (0 ≤ fIdx p l) = l.any p := by
  unfold fIdx
  cases l.any p <;> simp
set_option maxHeartbeats 800000 in
theorem idxc_any {w : World} {A : Option Addr} {l : List Cal} (n cap : Nat) (hn : l.length = n) (hr : RC.Row w A l) (g : Nat) (cb : Array Value) (lb : Array Value) (p : Cal → Bool) (hlb : lb = #[])
    (eg : ∀ args w, (callFunc g args).run Try.prog w = .ok (.enter g args) w) (hc : PredC g cb l p w) :
    Calls Try.prog 70 #[.slice A n cap, .func (.func g) lb cb] w fun e w' => e = .returned (.int .i64 (fIdx p l)) ∧ Below w.heap.size w w' := by
  subst hlb
  have hmax := hr.1
  rw [hn] at hmax
  obtain ⟨B, hB⟩ : ∃ B, w.heap.size = B := ⟨_, rfl⟩
  obtain ⟨r, hr0⟩ : ∃ r, fIdx p l = r := ⟨_, rfl⟩
  rw [hr0, hB]
  have HR := Lib.hid hr
  have HN := Lib.hid hn
  have HC : Hid (∀ W, Below B w W → ∀ x ∈ l, Calls Try.prog g (#[.agg #[.int .i64 x.kd, .string x.key, .string x.val, .string x.to_, .slice x.ga x.gn x.gc]] ++ cb) W fun e w' => e = .returned (.bool (p x)) ∧ Below W.heap.size W w') := hB ▸ hc
  have HBS := Lib.hid hB
  have HR0 := Lib.hid hr0
  clear hr hn hc hr0 hB
  go_enter Try.func70, Try.ntmps70
  go_wp2
  go_loopg [8] n (fun gk s8 wx => ∃ i : Nat, i + gk = n ∧ s8 = .int .i64 i ∧ Hid (Below B w wx) ∧ Hid (∀ j y, j < i → l[j]? = some y → p y = false))
  case atStart => exact ⟨0, by omega, rfl, Below.refl _ _, fun j y hj => by omega⟩
  case round =>
    obtain ⟨i, hig, rfl, HW, HP⟩ := hrel
    cases gk with
    | zero =>
      obtain rfl : i = n := by omega
      have hii : ¬ (i : Int) < (i : Int) := by omega
      obtain rfl : r = -1 := by
        rw [← HR0.out]
        exact fIdx_no p l fun j y hy => HP.out j y (by have := (List.getElem?_eq_some_iff.1 hy).1; have := HN.out; omega) hy
      go_wp2
      go_ret
      exact ⟨rfl, HW.out⟩
    | succ gk =>
      have hii : (i : Int) < (n : Int) := by omega
      have hil : i < l.length := by have := HN.out; omega
      have hgi := List.getElem?_eq_getElem hil
      have HCX := Lib.hid (HC.out wr HW.out _ (List.getElem_mem hil))
      generalize l[i] = x at *
      obtain ⟨b, off, rfl, -, c0, c1, c2, c3, c4⟩ := callAt (HR.out.below (HBS.out.symm ▸ HW.out)) hgi
      have HGI := Lib.hid hgi
      have HP2 : Hid (p x = false → ∀ j y, j < i + 1 → l[j]? = some y → p y = false) := fun hp j y hj hy => by
        rcases Nat.lt_or_ge j i with h | h
        · exact HP.out j y h hy
        · obtain rfl : j = i := by omega
          rw [HGI.out] at hy
          cases hy
          exact hp
      have HP3 : Hid (p x = true → r = i) := fun hp => by rw [← HR0.out]; exact fIdx_at p l i x HP.out HGI.out hp
      have hbw : B ≤ wr.heap.size := by have := HW.out.size; have := HBS.out; omega
      clear hgi hil
      generalize p x = z at *
      generalize x.kd = x0 at *
      generalize x.key = x1 at *
      generalize x.val = x2 at *
      generalize x.to_ = x3 at *
      generalize x.ga = x4 at *
      generalize x.gn = x5 at *
      generalize x.gc = x6 at *
      cases z with
      | true =>
        obtain rfl := HP3.out rfl
        go_wp2_with (go_at_fn g; refine HCX.out.mono ?_; rintro e w' ⟨rfl, hb'⟩)
        go_ret
        exact ⟨rfl, HW.out.trans (hb'.mono hbw)⟩
      | false =>
        have HP4 := Lib.hid (HP2.out rfl)
        go_wp2_with (go_at_fn g; refine HCX.out.mono ?_; rintro e w' ⟨rfl, hb'⟩)
        go_roundg gk
        case measure => omega
        case rel => exact ⟨i + 1, by omega, by go_num, HW.out.trans (hb'.mono hbw), HP4⟩
set_option maxHeartbeats 400000 in
theorem containsc_any {w : World} {A : Option Addr} {l : List Cal} (n cap : Nat) (hn : l.length = n) (hr : RC.Row w A l) (g : Nat) (cb : Array Value) (lb : Array Value) (p : Cal → Bool) (hlb : lb = #[])
    (eg : ∀ args w, (callFunc g args).run Try.prog w = .ok (.enter g args) w) (hc : PredC g cb l p w) :
    Calls Try.prog 61 #[.slice A n cap, .func (.func g) lb cb] w fun e w' => e = .returned (.bool (l.any p)) ∧ Below w.heap.size w w' := by
  have H := Lib.hid (idxc_any n cap hn hr g cb lb p hlb eg hc)
  have he := fIdx_any p l
  generalize fIdx p l = r at *
  generalize l.any p = z at *
  subst he
  clear hc hr hlb
  go_enter Try.func61, Try.ntmps61
  go_wp2_with fail
  refine H.out.mono ?_
  rintro e w' ⟨rfl, hb⟩
  go_wp2
  go_ret
  exact ⟨rfl, hb⟩

end Go.Proofs.Ytpmgnhijiodbaaa
