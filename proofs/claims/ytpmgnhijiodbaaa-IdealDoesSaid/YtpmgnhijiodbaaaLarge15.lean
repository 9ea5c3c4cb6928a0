/-
  Proved here: what the statements' own large tells of a store and a call.
  Conditions: none.
-/
import Derived.Test.YtpmgnhijiodbaaaCallIn15
namespace Go.Proofs.Ytpmgnhijiodbaaa
open Go Go.RowKit
set_option maxRecDepth 100000

/-- What is told of a store and a call that are not more than is gone through. -/
def Fit (L : List Kv) (Q : List ByteArray) (G : List Cal) : Prop := L.length ≤ 60 ∧ Q.length ≤ 60 ∧ G.length ≤ 20 ∧ ∀ y ∈ G, y.gn = 0
def LargeTo (w : World) (L : List Kv) (Q : List ByteArray) (G : List Cal) (e : Ending) (w' : World) : Prop := ∃ b, e = .returned (.bool b) ∧ (b = false → Fit L Q G) ∧ Below w.heap.size w w'
set_option maxHeartbeats 1600000 in
theorem large_long (w : World) (A B : Option Addr) (n c m d : Nat) (L : List Kv) (Q : List ByteArray) (x : Cal) (G : List Cal) (hb : 60 < n ∨ 60 < m ∨ 20 < x.gn) :
    Calls Try.prog 4 #[.agg #[.slice A n c, .slice B m d], .agg #[.int .i64 x.kd, .string x.key, .string x.val, .string x.to_, .slice x.ga x.gn x.gc]] w (LargeTo w L Q G) := by
  obtain ⟨g1, hg1⟩ : ∃ g, w.heap.size = g := ⟨_, rfl⟩
  obtain ⟨w1, hw1⟩ : ∃ w1, w.alloc (.cells #[.slice A n c, .slice B m d] 25) = w1 := ⟨_, rfl⟩
  have HX1 : Hid (w1.heap[g1]? = some (.cells #[.slice A n c, .slice B m d] 25 (0, 0))) := by rw [← hw1, ← hg1]; exact heap_alloc_new w _
  have HB1 : Hid (Below g1 w w1) := by rw [← hw1, ← hg1]; exact (Below.refl _ _).alloc (Nat.le_refl _) _
  obtain ⟨g2, hg2⟩ : ∃ g2, w1.heap.size = g2 := ⟨_, rfl⟩
  obtain ⟨w2, hw2⟩ : ∃ w2, w1.alloc (.cells #[.int .i64 x.kd, .string x.key, .string x.val, .string x.to_, .slice x.ga x.gn x.gc] 31) = w2 := ⟨_, rfl⟩
  have HXg2 : Hid (CBox w2 g2 x) := by rw [← hw2, ← hg2]; exact heap_alloc_new w1 _
  have HBg2 : Hid (Below g2 w1 w2) := by rw [← hw2, ← hg2]; exact (Below.refl _ _).alloc (Nat.le_refl _) _
  have HGg2 : Hid (w1.heap.size = g2) := hg2
  have HLT : Hid (g1 < g2) := by rw [← hg2]; exact lt_of_heap HX1.out
  have HX12 : Hid (w2.heap[g1]? = some (.cells #[.slice A n c, .slice B m d] 25 (0, 0))) := (HBg2.out.block g1 HLT.out).trans HX1.out
  have HB2 : Hid (Below g1 w w2) := HB1.out.trans (HBg2.out.mono (Nat.le_of_lt HLT.out))
  obtain ⟨p0, p1⟩ := cells2 HX12.out
  obtain ⟨c0, c1, c2, c3, c4⟩ := HXg2.out.at_
  unfold LargeTo
  rw [hg1]
  by_cases h1 : 60 < n
  · have e1 : decide ((60 : Int) < (n : Int)) = true := decide_eq_true (by omega)
    clear hb h1
    go_enter Try.func4, Try.ntmps4
    go_wp2
    go_ret
    exact ⟨true, rfl, (fun h => by cases h), HB2.out⟩
  · have e1 : decide ((60 : Int) < (n : Int)) = false := decide_eq_false (by omega)
    by_cases h2 : 60 < m
    · have e2 : decide ((60 : Int) < (m : Int)) = true := decide_eq_true (by omega)
      clear hb h1 h2
      go_enter Try.func4, Try.ntmps4
      go_wp2
      go_ret
      exact ⟨true, rfl, (fun h => by cases h), HB2.out⟩
    · have e2 : decide ((60 : Int) < (m : Int)) = false := decide_eq_false (by omega)
      have e3 : decide ((20 : Int) < (x.gn : Int)) = true := decide_eq_true (by omega)
      clear hb h1 h2
      go_enter Try.func4, Try.ntmps4
      go_wp2
      go_ret
      exact ⟨true, rfl, (fun h => by cases h), HB2.out⟩
set_option maxHeartbeats 3200000 in
theorem large_fit (w : World) (A B : Option Addr) (n c m d : Nat) (L : List Kv) (Q : List ByteArray) (x : Cal) (G : List Cal) (hL : RP.Is w A n c L) (hQ : RS.Is w B m d Q) (hG : RC.Is w x.ga x.gn x.gc G) (hn : n ≤ 60) (hm : m ≤ 60) (hk : x.gn ≤ 20) :
    Calls Try.prog 4 #[.agg #[.slice A n c, .slice B m d], .agg #[.int .i64 x.kd, .string x.key, .string x.val, .string x.to_, .slice x.ga x.gn x.gc]] w (LargeTo w L Q G) := by
  obtain ⟨g1, hg1⟩ : ∃ g, w.heap.size = g := ⟨_, rfl⟩
  obtain ⟨w1, hw1⟩ : ∃ w1, w.alloc (.cells #[.slice A n c, .slice B m d] 25) = w1 := ⟨_, rfl⟩
  have HX1 : Hid (w1.heap[g1]? = some (.cells #[.slice A n c, .slice B m d] 25 (0, 0))) := by rw [← hw1, ← hg1]; exact heap_alloc_new w _
  have HB1 : Hid (Below g1 w w1) := by rw [← hw1, ← hg1]; exact (Below.refl _ _).alloc (Nat.le_refl _) _
  obtain ⟨g2, hg2⟩ : ∃ g2, w1.heap.size = g2 := ⟨_, rfl⟩
  obtain ⟨w2, hw2⟩ : ∃ w2, w1.alloc (.cells #[.int .i64 x.kd, .string x.key, .string x.val, .string x.to_, .slice x.ga x.gn x.gc] 31) = w2 := ⟨_, rfl⟩
  have HXg2 : Hid (CBox w2 g2 x) := by rw [← hw2, ← hg2]; exact heap_alloc_new w1 _
  have HBg2 : Hid (Below g2 w1 w2) := by rw [← hw2, ← hg2]; exact (Below.refl _ _).alloc (Nat.le_refl _) _
  have HGg2 : Hid (w1.heap.size = g2) := hg2
  have HLT : Hid (g1 < g2) := by rw [← hg2]; exact lt_of_heap HX1.out
  have HX12 : Hid (w2.heap[g1]? = some (.cells #[.slice A n c, .slice B m d] 25 (0, 0))) := (HBg2.out.block g1 HLT.out).trans HX1.out
  have HB2 : Hid (Below g1 w w2) := HB1.out.trans (HBg2.out.mono (Nat.le_of_lt HLT.out))
  have HRL := Lib.hid ((hL.row (by omega)).below (hg1 ▸ HB2.out))
  have HRQ := Lib.hid ((hQ.row (by omega)).below (hg1 ▸ HB2.out))
  have HRG := Lib.hid ((hG.row (by omega)).below (hg1 ▸ HB2.out))
  have HLL := Lib.hid hL.1
  have HQL := Lib.hid hQ.1
  have HGL := Lib.hid hG.1
  obtain ⟨p0, p1⟩ := cells2 HX12.out
  obtain ⟨c0, c1, c2, c3, c4⟩ := HXg2.out.at_
  have e1 : decide ((60 : Int) < (n : Int)) = false := decide_eq_false (by omega)
  have e2 : decide ((60 : Int) < (m : Int)) = false := decide_eq_false (by omega)
  have e3 : decide ((20 : Int) < (x.gn : Int)) = false := decide_eq_false (by omega)
  have HT : Hid (∀ b : Bool, (b = false → Fit L Q G) → LargeTo w L Q G (.returned (.bool b)) w2) := fun b h => ⟨b, rfl, h, hg1.symm ▸ HB2.out⟩
  clear hL hQ hG
  generalize x.kd = kd at *
  generalize x.key = t1 at *
  generalize x.val = t2 at *
  generalize x.to_ = t3 at *
  generalize x.ga = ga at *
  generalize x.gn = gn at *
  generalize x.gc = gc at *
  go_enter Try.func4, Try.ntmps4
  go_wp2
  clear hw1 hw2 hg1 hg2 e1 e2 e3
  go_loopg [5] n (fun gk s5 wx => ∃ i : Nat, i + gk = n ∧ s5 = .int .i64 i ∧ w2 = wx)
  case atStart => exact ⟨0, by omega, rfl, rfl⟩
  case round =>
    obtain ⟨i, hig, rfl, rfl⟩ := hrel
    cases gk with
    | zero =>
      obtain rfl : i = n := by omega
      have hii : ¬ (i : Int) < (i : Int) := by omega
      go_wp2
      go_loopg [6] m (fun gk s6 wx => ∃ i : Nat, i + gk = m ∧ s6 = .int .i64 i ∧ w2 = wx)
      case atStart => exact ⟨0, by omega, rfl, rfl⟩
      case round =>
        obtain ⟨j, hjg, rfl, rfl⟩ := hrel
        cases gk with
        | zero =>
          obtain rfl : j = m := by omega
          have hjj : ¬ (j : Int) < (j : Int) := by omega
          go_wp2
          go_loopg [7] gn (fun gk s7 wx => ∃ i : Nat, i + gk = gn ∧ s7 = .int .i64 i ∧ Hid (∀ k y, k < i → G[k]? = some y → y.gn = 0) ∧ w2 = wx)
          case atStart => exact ⟨0, by omega, rfl, (fun k y hk => by omega), rfl⟩
          case round =>
            obtain ⟨k, hkg, rfl, HF, rfl⟩ := hrel
            cases gk with
            | zero =>
              obtain rfl : k = gn := by omega
              have hkk : ¬ (k : Int) < (k : Int) := by omega
              have HFIN : Hid (∀ b : Bool, LargeTo w L Q G (.returned (.bool b)) w2) := fun b => HT.out b (fun _ => ⟨by have := HLL.out; omega, by have := HQL.out; omega, by have := HGL.out; omega, fun y hy => by
                obtain ⟨a, ha, e⟩ := List.getElem_of_mem hy
                exact HF.out a y (by have := HGL.out; omega) (by rw [List.getElem?_eq_getElem ha, e])⟩)
              cases hz1 : decide ((1000 : Int) < (t1.size : Int)) <;> cases hz2 : decide ((1000 : Int) < (t2.size : Int))
              all_goals
                go_wp2
                go_ret
                exact HFIN.out _
            | succ gk =>
              have hkk : (k : Int) < (gn : Int) := by omega
              have hkl : k < G.length := by have := HGL.out; omega
              obtain ⟨b1, o1, rfl, _, k0, k1, k2, k3, k4⟩ := callAt HRG.out (List.getElem?_eq_getElem hkl)
              have HGK := Lib.hid (List.getElem?_eq_getElem hkl)
              generalize G[k] = y at *
              have HNX : Hid (y.gn = 0 → ∀ a z, a < k + 1 → G[a]? = some z → z.gn = 0) := fun h a z ha hz => by
                rcases Nat.lt_or_ge a k with h1 | h1
                · exact HF.out a z h1 hz
                · obtain rfl : a = k := by omega
                  have := HGK.out.symm.trans hz
                  cases this
                  exact h
              have HZN : Hid (decide (0 < y.gn) = false → y.gn = 0) := fun h => by have := of_decide_eq_false h; omega
              generalize y.gn = yn at *
              clear HGK
              have HFIN : Hid (LargeTo w L Q G (.returned (.bool true)) w2) := HT.out true (fun h => by cases h)
              cases hz0 : decide (0 < yn) <;> cases hz1 : decide ((1000 : Int) < (y.key.size : Int)) <;> cases hz2 : decide ((1000 : Int) < (y.val.size : Int))
              · go_wp2
                go_roundg gk
                case measure => omega
                case rel => exact ⟨k + 1, by omega, by go_num, HNX.out (HZN.out hz0), rfl⟩
              all_goals
                go_wp2
                go_ret
                exact HFIN.out
        | succ gk =>
          have hjj : (j : Int) < (m : Int) := by omega
          have hjl : j < Q.length := by have := HQL.out; omega
          obtain ⟨b1, o1, rfl, _, k0⟩ := textAt HRQ.out (List.getElem?_eq_getElem hjl)
          generalize Q[j] = y at *
          cases hz0 : decide ((1000 : Int) < (y.size : Int))
          · go_wp2
            go_roundg gk
            case measure => omega
            case rel => exact ⟨j + 1, by omega, by go_num, rfl⟩
          · go_wp2
            go_ret
            exact HT.out true (fun h => by cases h)
    | succ gk =>
      have hii : (i : Int) < (n : Int) := by omega
      have hil : i < L.length := by have := HLL.out; omega
      obtain ⟨b1, o1, rfl, _, k0, k1⟩ := pairAt HRL.out (List.getElem?_eq_getElem hil)
      generalize L[i] = y at *
      cases hz0 : decide ((1000 : Int) < (y.k.size : Int)) <;> cases hz1 : decide ((1000 : Int) < (y.v.size : Int))
      · go_wp2
        go_roundg gk
        case measure => omega
        case rel => exact ⟨i + 1, by omega, by go_num, rfl⟩
      all_goals
        go_wp2
        go_ret
        exact HT.out true (fun h => by cases h)
/-- What the statements' own large tells. -/
theorem large_any (w : World) (A B : Option Addr) (n c m d : Nat) (L : List Kv) (Q : List ByteArray) (x : Cal) (G : List Cal) (hL : RP.Is w A n c L) (hQ : RS.Is w B m d Q) (hG : RC.Is w x.ga x.gn x.gc G) :
    Calls Try.prog 4 #[.agg #[.slice A n c, .slice B m d], .agg #[.int .i64 x.kd, .string x.key, .string x.val, .string x.to_, .slice x.ga x.gn x.gc]] w (LargeTo w L Q G) := by
  by_cases h : 60 < n ∨ 60 < m ∨ 20 < x.gn
  · exact large_long w A B n c m d L Q x G h
  · exact large_fit w A B n c m d L Q x G hL hQ hG (by omega) (by omega) (by omega)
theorem Fit.grp {w : World} {L : List Kv} {Q : List ByteArray} {x : Cal} {G : List Cal} (h : Fit L Q G) (hG : GrpIn w x G) : Grp w x G :=
  ⟨hG.1.row (by have := hG.1.1; have := h.2.2.1; omega), hG.1.1, hG.1.2.1, hG.1.2.2.1, hG.1.2.2.2.1, fun y hy => by
    have := hG.2 y hy
    exact ⟨h.2.2.2 y hy, this.2⟩⟩
theorem Fit.shv {w : World} {A B : Option Addr} {n c m d : Nat} {L : List Kv} {Q : List ByteArray} {G : List Cal} (h : Fit L Q G) (hL : RP.Is w A n c L) (hQ : RS.Is w B m d Q) : Shv w A n c B m d L Q :=
  ⟨hL.row (by have := hL.1; have := h.1; omega), hQ.row (by have := hQ.1; have := h.2.1; omega), hL.1, hQ.1, hL.2.2.2.1, hQ.2.2.2.1⟩
theorem Rec.is_nil {α : Type} (R : Rec α) (w : World) : R.Is w none 0 0 [] := ⟨rfl, Nat.le_refl _, Nat.zero_le _, fun _ => rfl, fun h => absurd h (Nat.lt_irrefl _)⟩

end Go.Proofs.Ytpmgnhijiodbaaa
