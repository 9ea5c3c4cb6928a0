/-
  Proved here, joined: Rise15, CCall15, CCallB15, SameC15, Frame15
  Conditions: as each part says.
-/
import Derived.Test.YtpmgnhijiodbaaaGot15
import Derived.Test.YtpmgnhijiodbaaaKvMath15
import Derived.Test.YtpmgnhijiodbaaaMay15
import Derived.Test.YtpmgnhijiodbaaaLCopy15
import Derived.Test.YtpmgnhijiodbaaaAwake15
import Derived.Deep.Cut
import Derived.Deep.RegionWith
import Derived.Deep.CutRange
import Derived.Deep.RegionHeld3
import Derived.Test.YtpmgnhijiodbaaaLent

/-
  Proved here: a store of one's own as one that came in; how long lists grow.
  Conditions: none.
-/
namespace Go.Proofs.Ytpmgnhijiodbaaa
open Go Go.RowKit
set_option maxRecDepth 100000

/-- A store of one's own reads as one that came in. -/
theorem OwnS.is {w : World} {base : Nat} {A B : Option Addr} {n c m d : Nat} {L : List Kv} {Q : List ByteArray} (h : OwnS w base A n c B m d L Q) (hl : L.length ≤ 1048576) (hq : Q.length ≤ 1048576) : RP.Is w A n c L ∧ RS.Is w B m d Q := by
  obtain ⟨_, A', c', e1, a1, a2, r1, z1, _⟩ := Rec.row_of_own h.o1 hl
  cases e1
  obtain ⟨_, B', d', e2, b1, b2, r2, z2, _⟩ := Rec.row_of_own h.o2 hq
  cases e2
  exact ⟨⟨h.n1, a1, a2, fun e => (z1 e).2, fun hp => r1.2 (by rw [h.n1]; exact hp)⟩, ⟨h.n2, b1, b2, fun e => (z2 e).2, fun hp => r2.2 (by rw [h.n2]; exact hp)⟩⟩
theorem OwnS.none (w : World) (base : Nat) : OwnS w base Option.none 0 0 Option.none 0 0 [] [] := ⟨World.ownsRow_nil _ _ _ _, World.ownsRow_nil _ _ _ _, rfl, rfl⟩
theorem apL_len (c : Cal) (G : List Cal) (L : List Kv) : (apL c G L).length ≤ L.length + G.length + 1 := by
  unfold apL
  have h1 := gL_len G L
  have h2 := stL_len c L
  split
  · split <;> omega
  · omega
theorem apQ_len (c : Cal) (G : List Cal) (Q : List ByteArray) : (apQ c G Q).length ≤ Q.length + G.length + 1 := by
  unfold apQ
  have h1 := gQ_len G Q
  have h2 := stQ_len c Q
  split
  · split <;> omega
  · omega

end Go.Proofs.Ytpmgnhijiodbaaa

/-
  Proved here: copies of calls, by the statements' CopyCall and the program's copyCall (one whose group has no groups).
  Conditions: rows of at most 2^20.
-/
namespace Go.Proofs.Ytpmgnhijiodbaaa
open Go Go.RowKit
set_option maxRecDepth 100000

/-- What a copy of a call is: its group in memory of its own. -/
def CallTo (w : World) (x : Cal) (G : List Cal) (e : Ending) (w' : World) : Prop :=
  ∃ A c, e = .returned (.agg #[.int .i64 x.kd, .string x.key, .string x.val, .string x.to_, .slice A x.gn c]) ∧ w'.ownsRow w.heap.size RC.tE RC.k (.slice A x.gn c) x.gn (RC.enc G) ∧ Below w.heap.size w w'
theorem grp_own {w : World} {x : Cal} {G : List Cal} {B : Nat} {A : Option Addr} {c : Nat} (h : w.ownsRow B RC.tE RC.k (.slice A x.gn c) x.gn (RC.enc G)) (hn : G.length = x.gn) (hl : G.length ≤ 1048576) (hf : ∀ y ∈ G, y.gn = 0 ∧ y.gc ≤ maxLen ∧ (y.ga = none → y.gc = 0)) : Grp w { x with ga := A, gc := c } G := by
  obtain ⟨_, A', c', e1, a1, a2, r1, z1, _⟩ := Rec.row_of_own h hl
  cases e1
  exact ⟨r1, hn, a1, a2, fun e => (z1 e).2, hf⟩
/-- One call as another one, but for where its (empty) group lies. -/
def AlikeC (y z : Cal) : Prop := z.kd = y.kd ∧ z.key = y.key ∧ z.val = y.val ∧ z.to_ = y.to_ ∧ z.gn = y.gn
def FlatC (z : Cal) : Prop := z.gn = 0 ∧ z.gc ≤ maxLen ∧ (z.ga = none → z.gc = 0)
def AlikeL (G M : List Cal) : Prop := M.length = G.length ∧ (∀ (j : Nat) y, G[j]? = some y → ∃ z, M[j]? = some z ∧ AlikeC y z) ∧ ∀ z ∈ M, FlatC z
theorem AlikeL.refl {G : List Cal} (h : ∀ z ∈ G, FlatC z) : AlikeL G G := ⟨rfl, fun _ y e => ⟨y, e, rfl, rfl, rfl, rfl, rfl⟩, h⟩
theorem AlikeL.set {G M : List Cal} (h : AlikeL G M) {i : Nat} {z z' : Cal} (hz : M[i]? = some z) (ha : AlikeC z z') (hf : FlatC z') : AlikeL G (M.set i z') := by
  refine ⟨by rw [List.length_set]; exact h.1, fun j y e => ?_, fun q hq => ?_⟩
  · obtain ⟨q, hq, a1, a2, a3, a4, a5⟩ := h.2.1 j y e
    by_cases hj : i = j
    · subst hj
      rw [hz] at hq
      cases hq
      exact ⟨z', by rw [List.getElem?_set_self (List.getElem?_eq_some_iff.1 hz).1], ha.1.trans a1, ha.2.1.trans a2, ha.2.2.1.trans a3, ha.2.2.2.1.trans a4, ha.2.2.2.2.trans a5⟩
    · exact ⟨q, by rw [List.getElem?_set_ne hj]; exact hq, a1, a2, a3, a4, a5⟩
  · rcases List.mem_or_eq_of_mem_set hq with h1 | h1
    · exact h.2.2 q h1
    · rw [h1]; exact hf
/-- What copyCall gives. -/
def CopyC (w : World) (x : Cal) (G : List Cal) (e : Ending) (w' : World) : Prop :=
  ∃ A c M, e = .returned (.agg #[.int .i64 x.kd, .string x.key, .string x.val, .string x.to_, .slice A x.gn c]) ∧ w'.ownsRow w.heap.size RC.tE RC.k (.slice A x.gn c) x.gn (RC.enc M) ∧ AlikeL G M ∧ Below w.heap.size w w'
end Go.Proofs.Ytpmgnhijiodbaaa

/-
  Proved here: copyCall of a call whose group has no groups.
  Conditions: rows of at most 2^20.
-/
namespace Go.Proofs.Ytpmgnhijiodbaaa
open Go Go.RowKit
set_option maxRecDepth 100000

theorem blk5 {w : World} {b o0 o1 o2 o3 o4 k : Nat} {a0 a1 a2 a3 a4 : Value} (h : k ≠ b) : (((((w.setCell ⟨b, o0, none⟩ a0).setCell ⟨b, o1, none⟩ a1).setCell ⟨b, o2, none⟩ a2).setCell ⟨b, o3, none⟩ a3).setCell ⟨b, o4, none⟩ a4).heap[k]? = w.heap[k]? := by
  rw [Below.heap_setCell _ _ _ _ h, Below.heap_setCell _ _ _ _ h, Below.heap_setCell _ _ _ _ h, Below.heap_setCell _ _ _ _ h, Below.heap_setCell _ _ _ _ h]
theorem callOwn {w : World} {B n c : Nat} {A : Option Addr} {M : List Cal} (h : w.ownsRow B RC.tE RC.k (.slice A n c) n (RC.enc M)) (hl : M.length ≤ 1048576) {i : Nat} {e : Cal} (hz : M[i]? = some e) : ∃ b, A = some ⟨b, 0, none⟩ ∧ B ≤ b ∧ b < w.heap.size ∧
    w.cell? ⟨b, i * 5, none⟩ = some (.int .i64 e.kd) ∧ w.cell? ⟨b, i * 5 + 1, none⟩ = some (.string e.key) ∧ w.cell? ⟨b, i * 5 + 2, none⟩ = some (.string e.val) ∧
    w.cell? ⟨b, i * 5 + 3, none⟩ = some (.string e.to_) ∧ w.cell? ⟨b, i * 5 + 4, none⟩ = some (.slice e.ga e.gn e.gc) := by
  obtain ⟨_, A', c', ee, a1, a2, a3, a4, a5⟩ := Rec.row_of_own h hl
  cases ee
  obtain ⟨b, o1, eA, hb1, k0, k1, k2, k3, k4⟩ := callAt a3 hz
  have hb0 := a5 _ eA
  have e0 : o1 = 0 := by have := hb0.2.2.1; injection this
  subst e0
  have e1 : 0 + i * 5 = i * 5 := Nat.zero_add _
  rw [e1] at k0 k1 k2 k3 k4
  exact ⟨b, eA, hb0.1, hb1, k0, k1, k2, k3, k4⟩
end Go.Proofs.Ytpmgnhijiodbaaa

/-
  Proved here: two answers, two calls that are the same.
  Conditions: rows of at most 2^20.
-/
namespace Go.Proofs.Ytpmgnhijiodbaaa
open Go Go.RowKit
set_option maxRecDepth 100000

/-- Two calls of groups in variables of their own. -/
def TwoC (w : World) (z y : Cal) (s6 s7 : Value) (wx : World) : Prop :=
  ∃ gx gy, s6 = .pointer (some ⟨gx, 0, none⟩) ∧ s7 = .pointer (some ⟨gy, 0, none⟩) ∧ wx.heap[gx]? = some (.cells #[.int .i64 z.kd, .string z.key, .string z.val, .string z.to_, .slice z.ga z.gn z.gc] 31 (0, 0)) ∧ wx.heap[gy]? = some (.cells #[.int .i64 y.kd, .string y.key, .string y.val, .string y.to_, .slice y.ga y.gn y.gc] 31 (0, 0)) ∧ Below w.heap.size w wx
abbrev objC (a b c d e : Value) : Obj := .cells #[a, b, c, d, e] 31 (0, 0)
theorem two_1 (w : World) (z y : Cal) : TwoC w z y (.pointer (some ⟨w.heap.size, 0, none⟩)) (.pointer (some ⟨w.heap.size + 1, 0, none⟩)) ((w.drew.alloc (objC (.int .i64 z.kd) (.string z.key) (.string z.val) (.string z.to_) (.slice z.ga z.gn z.gc))).alloc (objC (.int .i64 y.kd) (.string y.key) (.string y.val) (.string y.to_) (.slice y.ga y.gn y.gc))) :=
  ⟨_, _, rfl, rfl, alloc_old (heap_alloc_new w.drew _), alloc_two w.drew _ _, ((Below.refl _ _).drew.alloc (Nat.le_refl _) _).alloc (by simp) _⟩
theorem two_2 (w : World) (z y : Cal) : TwoC w z y (.pointer (some ⟨w.heap.size + 1, 0, none⟩)) (.pointer (some ⟨w.heap.size, 0, none⟩)) ((w.drew.alloc (objC (.int .i64 y.kd) (.string y.key) (.string y.val) (.string y.to_) (.slice y.ga y.gn y.gc))).alloc (objC (.int .i64 z.kd) (.string z.key) (.string z.val) (.string z.to_) (.slice z.ga z.gn z.gc))) :=
  ⟨_, _, rfl, rfl, alloc_two w.drew _ _, alloc_old (heap_alloc_new w.drew _), ((Below.refl _ _).drew.alloc (Nat.le_refl _) _).alloc (by simp) _⟩
end Go.Proofs.Ytpmgnhijiodbaaa

/-
  Proved here: the first frame of a call, and when two such frames are the same.
  Conditions: rows of at most 2^20.
-/
namespace Go.Proofs.Ytpmgnhijiodbaaa
open Go Go.RowKit
set_option maxRecDepth 100000

/-- A frame's cells: but for its call and its line all are noughts. -/
def frC (kd : Int) (a b c : ByteArray) (p : Option Addr) (n m : Nat) (ln : Int) : List Value := [.int .i64 kd, .string a, .string b, .string c, .slice p n m, .int .i64 0, .int .u64 0, .string ⟨#[]⟩, .bool false, .int .i64 0, .bool false, .string ⟨#[]⟩, .int .u64 0, .int .u64 0, .int .i64 0, .int .i64 0, .int .i64 ln, .int .i64 0, .int .i64 0, .slice none 0 0, .int .i64 0, .slice none 0 0, .int .i64 0, .bool false, .string ⟨#[]⟩, .slice none 0 0, .slice none 0 0, .int .u64 0]
theorem frC_one (kd : Int) (a b c : ByteArray) (p : Option Addr) (n m : Nat) (ln : Int) : (frC kd a b c p n m ln).toArray.all (·.oneCell') = true := all_oneCell_toArray (cs := frC kd a b c p n m ln) (fun u hu => by
  simp only [frC, List.mem_cons, List.not_mem_nil, or_false] at hu
  rcases hu with rfl | rfl | rfl | rfl | rfl | rfl | rfl | rfl | rfl | rfl | rfl | rfl | rfl | rfl | rfl | rfl | rfl | rfl | rfl | rfl | rfl | rfl | rfl | rfl | rfl | rfl | rfl | rfl <;> rfl)
def BeginTo (w : World) (x : Cal) (G : List Cal) (e : Ending) (w' : World) : Prop :=
  ∃ A c M, e = .returned (.agg (frC x.kd x.key x.val x.to_ A x.gn c (-1)).toArray) ∧ w'.ownsRow w.heap.size RC.tE RC.k (.slice A x.gn c) x.gn (RC.enc M) ∧ AlikeL G M ∧ Below w.heap.size w w'
end Go.Proofs.Ytpmgnhijiodbaaa
