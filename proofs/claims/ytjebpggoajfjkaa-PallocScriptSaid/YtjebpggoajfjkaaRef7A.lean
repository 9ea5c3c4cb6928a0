/-
  Proved here: how chapter 7's own pool lies in memory; what its New, Class and Of answer.
  Conditions: none.
-/
import Derived.Test.YtjebpggoajfjkaaPoolQ
namespace Go.Proofs.Ytjebpggoajfjkaa
open Go Go.RowKit

/-- Chapter 7's own pool at r: n slabs, the blocks L; its row lies from block lo on. -/
structure Rf (w : World) (r lo n : Nat) (L : List Tk) : Prop where
  pool : Pool7 n L
  one : 1 ≤ n
  most : n ≤ 32
  lt : r < lo
  le : lo ≤ w.heap.size
  mem : ∃ A cap, w.heap[r]? = some (.cells #[.int .i64 n, .slice A L.length cap] 63 (0, 0)) ∧ RowT w A L ∧ ∀ x, A = some x → lo ≤ x.block
theorem RowT.turns {w w' : World} {p q : Nat} {A : Option Addr} {l : List Tk} (h : RowT w A l) (ht : Turns p q w w') (ho : ∀ x, A = some x → x.block ≠ p ∧ x.block ≠ q) : RowT w' A l := (HeT.turns ⟨h, ho⟩ ht).row
theorem RowT.gt {w : World} {A : Option Addr} {l : List Tk} (h : RowT w A l) {i : Nat} (hi : i < l.length) : ∃ b off, A = some ⟨b, off, none⟩ ∧ b < w.heap.size ∧ w.cell? ⟨b, off + i * 2, none⟩ = some (.int .i64 l[i].1) ∧ w.cell? ⟨b, off + i * 2 + 1, none⟩ = some (.int .i64 l[i].2) := by
  obtain ⟨b, off, e, hb, hc⟩ := h.2 (by omega)
  exact ⟨b, off, e, hb, (hc i _ (List.getElem?_eq_getElem hi)).1, (hc i _ (List.getElem?_eq_getElem hi)).2⟩
theorem Rf.turns {w w' : World} {r lo n p q : Nat} {L : List Tk} (h : Rf w r lo n L) (ht : Turns p q w w') (hp : p < lo) (hq : q < lo) (h1 : r ≠ p) (h2 : r ≠ q) : Rf w' r lo n L := by
  obtain ⟨A, cap, e, hr, ho⟩ := h.mem
  refine ⟨h.pool, h.one, h.most, h.lt, Nat.le_trans h.le ht.size, A, cap, (ht.block r h1 h2 (by have := h.lt; have := h.le; omega)).trans e, hr.turns ht (fun x hx => ?_), ho⟩
  have := ho x hx
  omega
theorem Rf.below {w w' : World} {r lo n : Nat} {L : List Tk} (h : Rf w r lo n L) (hb : Below w.heap.size w w') : Rf w' r lo n L := by
  obtain ⟨A, cap, e, hr, ho⟩ := h.mem
  exact ⟨h.pool, h.one, h.most, h.lt, Nat.le_trans h.le hb.size, A, cap, (hb.block r (by have := h.lt; have := h.le; omega)).trans e, hr.below hb, ho⟩
theorem Rf.drewN {w : World} {r lo n : Nat} {L : List Tk} (h : Rf w r lo n L) (m : Nat) : Rf (w.drewN m) r lo n L := h.below (below_drewN (Below.refl _ _) m)
theorem Rf.cells {w : World} {r lo n : Nat} {L : List Tk} (h : Rf w r lo n L) : w.cell? ⟨r, 0, none⟩ = some (.int .i64 n) ∧ ∃ A cap, w.cell? ⟨r, 1, none⟩ = some (.slice A L.length cap) ∧ RowT w A L := by
  obtain ⟨A, cap, e, hr, ho⟩ := h.mem
  exact ⟨by simp [World.cell?, e], A, cap, by simp [World.cell?, e], hr⟩
theorem Rf.frozen {w : World} {r lo n : Nat} {L : List Tk} (h : Rf w r lo n L) (j : Nat) : w.frozen? ⟨r, j, none⟩ = false := by
  obtain ⟨A, cap, e, hr, ho⟩ := h.mem
  simp [World.frozen?, e]
/-- A new row laid into the pool. -/
theorem Rf.put {w wk : World} {r lo n : Nat} {L M : List Tk} (h : Rf w r lo n L) (hb : Below w.heap.size w wk) {v : Value} (ho : wk.ownsRow w.heap.size 52 2 v M.length (encT M)) (hp : Pool7 n M) :
    Rf (wk.setCell ⟨r, 1, none⟩ v) r lo n M ∧ Turns r r w (wk.setCell ⟨r, 1, none⟩ v) := by
  have hk := h.below hb
  have ht : Turns r r wk (wk.setCell ⟨r, 1, none⟩ v) := (Turns.refl r r wk).setCell_p 1 v
  obtain ⟨A, cap, e, _, _⟩ := hk.mem
  obtain ⟨_, A2, cap2, rfl, hr2, _, ho2⟩ := rowT_of_own ho (by have := pool_len hp; have := h.most; omega)
  refine ⟨⟨hp, h.one, h.most, h.lt, Nat.le_trans hk.le ht.size, A2, cap2, ?_, hr2.turns ht (fun x hx => ?_), fun x hx => ?_⟩, (Turns.of_below hb r r).trans ht⟩
  · rw [heap_setCell_same wk r 1 _ _ _ e]
    rfl
  · have := ho2 x hx
    have := h.lt
    have := h.le
    omega
  · have := ho2 x hx
    have := h.le
    omega
set_option maxHeartbeats 400000 in
theorem rnew_bad (x : Int) (hx : x < 1 ∨ 32 < x) (w : World) : Calls Try.prog 13 #[.int .i64 x] w fun e w' => e = .returned (.tuple #[.pointer none, .int .i64 2]) ∧ w = w' := by
  rcases Classical.em (x < 1) with h1 | h1
  · clear hx
    go_enter Try.func13, Try.ntmps13
    go_wp2
    go_ret2
    exact ⟨rfl, rfl⟩
  · have h2 : 32 < x := by omega
    clear hx
    go_enter Try.func13, Try.ntmps13
    go_wp2
    go_ret2
    exact ⟨rfl, rfl⟩
set_option maxHeartbeats 400000 in
theorem rnew_ok (n : Nat) (h1 : 1 ≤ n) (h2 : n ≤ 32) (w : World) : Calls Try.prog 13 #[.int .i64 n] w fun e w' => e = .returned (.tuple #[.pointer (some ⟨w.heap.size, 0, none⟩), .int .i64 0]) ∧ Rf w' w.heap.size (w.heap.size + 1) n [] ∧ Below w.heap.size w w' := by
  have h3 : ¬ (n : Int) < 1 := by omega
  have h4 : ¬ 32 < (n : Int) := by omega
  go_enter Try.func13, Try.ntmps13
  go_wp2
  go_ret2
  refine ⟨rfl, ⟨pool_nil n, h1, h2, Nat.lt_succ_self _, by simp, none, 0, ?_, rowT_nil _ _, fun x hx => by cases hx⟩, (Below.refl _ _).alloc (Nat.le_refl _) _⟩
  show (w.heap.push _)[w.heap.size]? = _
  simp
theorem find_first {P : Tk → Bool} {L : List Tk} {i : Nat} (hi : i < L.length) (h : ∀ j (hj : j < L.length), j < i → P L[j] = false) (e : P L[i] = true) : L.find? P = some L[i] := by
  rw [List.find?_eq_some_iff_append]
  refine ⟨e, L.take i, L.drop (i + 1), ?_, fun a ha => ?_⟩
  · rw [← List.drop_eq_getElem_cons hi, List.take_append_drop]
  · obtain ⟨j, hj, rfl⟩ := List.getElem_of_mem ha
    rw [List.length_take] at hj
    have := h j (by omega) (by omega)
    simp [this]
theorem find_no' {P : Tk → Bool} {L : List Tk} (h : ∀ j (hj : j < L.length), P L[j] = false) : L.find? P = none := by
  rw [List.find?_eq_none]
  intro a ha
  obtain ⟨j, hj, rfl⟩ := List.getElem_of_mem ha
  simp [h j hj]
set_option maxHeartbeats 800000 in
theorem rclass_any {w : World} {r lo n : Nat} {L : List Tk} (h : Rf w r lo n L) (k : Int) : Calls Try.prog 45 #[.pointer (some ⟨r, 0, none⟩), .int .i64 k] w fun e w' => e = .returned (.int .i64 (clsAt L k)) ∧ w = w' := by
  obtain ⟨_, A, cap, hc1, hr⟩ := h.cells
  have hlen : L.length ≤ 256 := by have := pool_len h.pool; have := h.most; omega
  have HR := Lib.hid hr
  have HYES : Hid (∀ i (hi : i < L.length), (∀ j (hj : j < L.length), j < i → (slabOfN L[j].1 == k) = false) → (slabOfN L[i].1 == k) = true → clsAt L k = L[i].2) := fun i hi h1 h2 => by
    unfold clsAt
    rw [find_first hi h1 h2]
  have HNO : Hid ((∀ j (hj : j < L.length), (slabOfN L[j].1 == k) = false) → clsAt L k = -1) := fun h1 => by
    unfold clsAt
    rw [find_no' h1]
  have HSO := Lib.hid (fun x => rslabof_any x w)
  obtain ⟨m, hm⟩ : ∃ m, L.length = m := ⟨_, rfl⟩
  rw [hm] at hc1 hlen
  have HM := Lib.hid hm
  clear h hr hm
  generalize clsAt L k = cl at *
  go_enter Try.func45, Try.ntmps45
  go_wp2
  go_loopg [5] m (fun gk s5 wx => ∃ i : Nat, i + gk = m ∧ s5 = .int .i64 i ∧ w = wx ∧ Hid (∀ j (hj : j < L.length), j < i → (slabOfN L[j].1 == k) = false))
  case atStart => exact ⟨0, by omega, rfl, rfl, fun j hj h => by omega⟩
  case round =>
    obtain ⟨i, hin, rfl, rfl, HF⟩ := hrel
    cases gk with
    | zero =>
      obtain rfl : i = m := by omega
      have hii : ¬ (i : Int) < (i : Int) := by omega
      have HE := Lib.hid (HNO.out (fun j hj => HF.out j hj (by have := HM.out; omega)))
      go_wp2
      go_ret
      exact ⟨int_eq HE.out.symm, rfl⟩
    | succ gk =>
      have hii : (i : Int) < (m : Int) := by omega
      have hil : i < L.length := by have := HM.out; omega
      obtain ⟨b, off, rfl, _, c1, c2⟩ := HR.out.gt hil
      have HS := Lib.hid (HSO.out L[i].1)
      have HY1 := Lib.hid (HYES.out i hil HF.out)
      have HFN : Hid ((slabOfN L[i].1 == k) = false → ∀ j (hj : j < L.length), j < i + 1 → (slabOfN L[j].1 == k) = false) := fun e j hj hji => by
        rcases Nat.lt_or_ge j i with h1 | h1
        · exact HF.out j hj h1
        · obtain rfl : j = i := by omega
          exact e
      generalize slabOfN L[i].1 = s at *
      generalize L[i].1 = x at *
      generalize L[i].2 = y at *
      cases e : (s == k) with
      | true =>
        have HE := Lib.hid (HY1.out e)
        go_wp2_with fail
        refine HS.out.mono ?_
        rintro e w' ⟨rfl, rfl⟩
        go_wp2
        go_ret
        exact ⟨int_eq HE.out.symm, rfl⟩
      | false =>
        have HE := Lib.hid (HFN.out e)
        go_wp2_with fail
        refine HS.out.mono ?_
        rintro e w' ⟨rfl, rfl⟩
        go_wp2
        go_roundg gk
        case measure => omega
        case rel => exact ⟨i + 1, by omega, by go_num, rfl, HE⟩
set_option maxHeartbeats 800000 in
theorem rof_any {w : World} {r lo n : Nat} {L : List Tk} (h : Rf w r lo n L) (x : Int) : Calls Try.prog 22 #[.pointer (some ⟨r, 0, none⟩), .int .i64 x] w fun e w' => e = .returned (.tuple #[.int .i64 ((ofL L x).getD 0), .bool (ofL L x).isSome]) ∧ w = w' := by
  obtain ⟨_, A, cap, hc1, hr⟩ := h.cells
  have hlen : L.length ≤ 256 := by have := pool_len h.pool; have := h.most; omega
  have HR := Lib.hid hr
  have HYES : Hid (∀ i (hi : i < L.length), (∀ j (hj : j < L.length), j < i → (L[j].1 == x) = false) → (L[i].1 == x) = true → ofL L x = some L[i].2) := fun i hi h1 h2 => by
    unfold ofL
    rw [find_first hi h1 h2]
    rfl
  have HNO : Hid ((∀ j (hj : j < L.length), (L[j].1 == x) = false) → ofL L x = none) := fun h1 => by
    unfold ofL
    rw [find_no' h1]
    rfl
  obtain ⟨m, hm⟩ : ∃ m, L.length = m := ⟨_, rfl⟩
  rw [hm] at hc1 hlen
  have HM := Lib.hid hm
  have HFIN : Hid (∀ (v : Int) (b : Bool), (ofL L x).getD 0 = v → (ofL L x).isSome = b → Ending.returned (.tuple #[.int .i64 v, .bool b]) = .returned (.tuple #[.int .i64 ((ofL L x).getD 0), .bool (ofL L x).isSome])) := fun v b h1 h2 => by rw [h1, h2]
  clear h hr hm
  generalize ofL L x = o at *
  go_enter Try.func22, Try.ntmps22
  go_wp2
  go_loopg [6] m (fun gk s6 wx => ∃ i : Nat, i + gk = m ∧ s6 = .int .i64 i ∧ w = wx ∧ Hid (∀ j (hj : j < L.length), j < i → (L[j].1 == x) = false))
  case atStart => exact ⟨0, by omega, rfl, rfl, fun j hj h => by omega⟩
  case round =>
    obtain ⟨i, hin, rfl, rfl, HF⟩ := hrel
    cases gk with
    | zero =>
      obtain rfl : i = m := by omega
      have hii : ¬ (i : Int) < (i : Int) := by omega
      have HE := Lib.hid (HNO.out (fun j hj => HF.out j hj (by have := HM.out; omega)))
      go_wp2
      go_ret2
      exact ⟨HFIN.out 0 false (by rw [HE.out]; rfl) (by rw [HE.out]; rfl), rfl⟩
    | succ gk =>
      have hii : (i : Int) < (m : Int) := by omega
      have hil : i < L.length := by have := HM.out; omega
      obtain ⟨b, off, rfl, _, c1, c2⟩ := HR.out.gt hil
      have HY1 := Lib.hid (HYES.out i hil HF.out)
      have HFN : Hid ((L[i].1 == x) = false → ∀ j (hj : j < L.length), j < i + 1 → (L[j].1 == x) = false) := fun e j hj hji => by
        rcases Nat.lt_or_ge j i with h1 | h1
        · exact HF.out j hj h1
        · obtain rfl : j = i := by omega
          exact e
      generalize L[i].1 = s at *
      generalize L[i].2 = y at *
      cases e : (s == x) with
      | true =>
        have HE := Lib.hid (HY1.out e)
        go_wp2
        go_ret2
        exact ⟨HFIN.out y true (by rw [HE.out]; rfl) (by rw [HE.out]; rfl), rfl⟩
      | false =>
        have HE := Lib.hid (HFN.out e)
        go_wp2
        go_roundg gk
        case measure => omega
        case rel => exact ⟨i + 1, by omega, by go_num, rfl, HE⟩

end Go.Proofs.Ytjebpggoajfjkaa
