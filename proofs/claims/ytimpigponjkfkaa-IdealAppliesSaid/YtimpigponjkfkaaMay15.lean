/-
  Proved here: what both May answer of a store.
  Conditions: rows of at most 2^20.
-/
import Derived.Test.YtimpigponjkfkaaPlay15
namespace Go.Proofs.Ytimpigponjkfkaa
open Go Go.RowKit
set_option maxRecDepth 100000

/-- The j-th key is less than the next. -/
def upAt (L : List Kv) (j : Nat) : Bool := match L[j]?, L[j + 1]? with
  | some a, some b => ltK a.k b.k
  | _, _ => true
def riseB (L : List Kv) : Bool := (List.range (L.length - 1)).all (upAt L)
set_option maxHeartbeats 1600000 in
theorem may_any {w : World} {A B : Option Addr} {n c m d : Nat} {L : List Kv} {Q : List ByteArray} (h : Shv w A n c B m d L Q) : Calls Try.prog 25 #[.agg #[.slice A n c, .slice B m d]] w fun e w' => e = .returned (.bool (riseB L)) ∧ Below w.heap.size w w' := by
  obtain ⟨g, hg⟩ : ∃ g, w.heap.size = g := ⟨_, rfl⟩
  obtain ⟨w1, hw1⟩ : ∃ w1, w.alloc (.cells #[.slice A n c, .slice B m d] 29) = w1 := ⟨_, rfl⟩
  have HS1 : Hid (w1.heap[g]? = some (.cells #[.slice A n c, .slice B m d] 29 (0, 0))) := by rw [← hw1, ← hg]; exact heap_alloc_new w _
  have HB1 : Hid (Below g w w1) := by rw [← hw1, ← hg]; exact (Below.refl _ _).alloc (Nat.le_refl _) _
  have HR := Lib.hid (h.below (hg.symm ▸ HB1.out)).r1
  have HN := Lib.hid h.n1
  have hnb : n ≤ 1048576 := by have := h.r1.1; have := h.n1; omega
  obtain ⟨r, hr⟩ : ∃ r, riseB L = r := ⟨_, rfl⟩
  have HT : Hid ((∀ j, j + 1 < n → upAt L j = true) → r = true) := fun hh => by
    rw [← hr]
    refine List.all_eq_true.2 fun j hj => hh j ?_
    rw [List.mem_range, HN.out] at hj
    omega
  have HFA : Hid (∀ j, j + 1 < n → upAt L j = false → r = false) := fun j hj hu => by
    rw [← hr]
    refine Bool.eq_false_iff.2 fun ht => ?_
    have := List.all_eq_true.1 ht j (List.mem_range.2 (by rw [HN.out]; omega))
    rw [hu] at this
    cases this
  rw [hg, hr]
  obtain ⟨p0, p1⟩ := cells2 HS1.out
  clear h hr
  go_enter Try.func25, Try.ntmps25
  go_wp2
  clear hw1 hg
  go_loopg [3] n (fun gk s3 wx => ∃ j k : Nat, j + gk = n ∧ s3 = .int .i64 ((j : Int) + 1) ∧ Hid (∀ i, i < j → i + 1 < n → upAt L i = true) ∧ wx = w1.drewN k)
  case atStart => exact ⟨0, 0, by omega, rfl, (fun i hi => by omega), rfl⟩
  case round =>
    obtain ⟨j, k, hjg, rfl, HF, rfl⟩ := hrel
    have HBJ : Hid (Below g w (w1.drewN k)) := below_drewN HB1.out k
    by_cases hjn : j + 1 < n
    · cases gk with
      | zero => omega
      | succ gk =>
      have hii : (j : Int) + 1 < (n : Int) := by omega
      have hj0 : j < L.length := by have := HN.out; omega
      have hj1 : j + 1 < L.length := by have := HN.out; omega
      obtain ⟨b1, o1, rfl, _, k0, k1⟩ := pairAt HR.out (List.getElem?_eq_getElem hj0)
      obtain ⟨b2, o2, e2, _, q0, q1⟩ := pairAt HR.out (List.getElem?_eq_getElem hj1)
      cases e2
      have hup : upAt L j = ltK (L[j]).k (L[j + 1]).k := by unfold upAt; rw [List.getElem?_eq_getElem hj0, List.getElem?_eq_getElem hj1]
      have HUP := Lib.hid hup
      have hsz : ((j : Int) + 1 - 1) = (j : Int) := by omega
      clear hup
      generalize L[j].k = x0 at *
      generalize L[j + 1].k = x1 at *
      have HX : Hid (ltK x0 x1 = Op.bytesLess x0.toList x1.toList) := rfl
      cases hz : Op.bytesLess x0.toList x1.toList with
      | true =>
        have HUT : Hid (upAt L j = true) := HUP.out.trans (HX.out.trans hz)
        go_wp2
        go_quiet (fail)
        go_wp2
        go_roundg gk
        case measure => omega
        case rel => exact ⟨j + 1, k + nq, by omega, by go_num, (fun i hi h2 => by
          rcases Nat.lt_or_ge i j with h1 | h1
          · exact HF.out i h1 h2
          · obtain rfl : i = j := by omega
            exact HUT.out), rfl⟩
      | false =>
        have HUT := Lib.hid (HFA.out j hjn (HUP.out.trans (HX.out.trans hz)))
        go_wp2
        go_quiet (fail)
        go_wp2
        go_ret
        rw [HUT.out]
        exact ⟨rfl, below_drewN HBJ.out nq⟩
    · have hii : ¬ (j : Int) + 1 < (n : Int) := by omega
      have HUT := Lib.hid (HT.out (fun i hi => HF.out i (by omega) hi))
      go_wp2
      go_ret
      rw [HUT.out]
      exact ⟨rfl, HBJ.out⟩
set_option maxHeartbeats 1600000 in
theorem rmay15_any {w : World} {A B : Option Addr} {n c m d : Nat} {L : List Kv} {Q : List ByteArray} (h : Shv w A n c B m d L Q) : Calls Try.prog 26 #[.agg #[.slice A n c, .slice B m d]] w fun e w' => e = .returned (.bool (riseB L)) ∧ Below w.heap.size w w' := by
  obtain ⟨g, hg⟩ : ∃ g, w.heap.size = g := ⟨_, rfl⟩
  obtain ⟨w1, hw1⟩ : ∃ w1, w.alloc (.cells #[.slice A n c, .slice B m d] 29) = w1 := ⟨_, rfl⟩
  have HS1 : Hid (w1.heap[g]? = some (.cells #[.slice A n c, .slice B m d] 29 (0, 0))) := by rw [← hw1, ← hg]; exact heap_alloc_new w _
  have HB1 : Hid (Below g w w1) := by rw [← hw1, ← hg]; exact (Below.refl _ _).alloc (Nat.le_refl _) _
  have HR := Lib.hid (h.below (hg.symm ▸ HB1.out)).r1
  have HN := Lib.hid h.n1
  have hnb : n ≤ 1048576 := by have := h.r1.1; have := h.n1; omega
  obtain ⟨r, hr⟩ : ∃ r, riseB L = r := ⟨_, rfl⟩
  have HT : Hid ((∀ j, j + 1 < n → upAt L j = true) → r = true) := fun hh => by
    rw [← hr]
    refine List.all_eq_true.2 fun j hj => hh j ?_
    rw [List.mem_range, HN.out] at hj
    omega
  have HFA : Hid (∀ j, j + 1 < n → upAt L j = false → r = false) := fun j hj hu => by
    rw [← hr]
    refine Bool.eq_false_iff.2 fun ht => ?_
    have := List.all_eq_true.1 ht j (List.mem_range.2 (by rw [HN.out]; omega))
    rw [hu] at this
    cases this
  rw [hg, hr]
  obtain ⟨p0, p1⟩ := cells2 HS1.out
  clear h hr
  go_enter Try.func26, Try.ntmps26
  go_wp2
  clear hw1 hg
  go_loopg [3] n (fun gk s3 wx => ∃ j k : Nat, j + gk = n ∧ s3 = .int .i64 ((j : Int) + 1) ∧ Hid (∀ i, i < j → i + 1 < n → upAt L i = true) ∧ wx = w1.drewN k)
  case atStart => exact ⟨0, 0, by omega, rfl, (fun i hi => by omega), rfl⟩
  case round =>
    obtain ⟨j, k, hjg, rfl, HF, rfl⟩ := hrel
    have HBJ : Hid (Below g w (w1.drewN k)) := below_drewN HB1.out k
    by_cases hjn : j + 1 < n
    · cases gk with
      | zero => omega
      | succ gk =>
      have hii : (j : Int) + 1 < (n : Int) := by omega
      have hj0 : j < L.length := by have := HN.out; omega
      have hj1 : j + 1 < L.length := by have := HN.out; omega
      obtain ⟨b1, o1, rfl, _, k0, k1⟩ := pairAt HR.out (List.getElem?_eq_getElem hj0)
      obtain ⟨b2, o2, e2, _, q0, q1⟩ := pairAt HR.out (List.getElem?_eq_getElem hj1)
      cases e2
      have hup : upAt L j = ltK (L[j]).k (L[j + 1]).k := by unfold upAt; rw [List.getElem?_eq_getElem hj0, List.getElem?_eq_getElem hj1]
      have HUP := Lib.hid hup
      have hsz : ((j : Int) + 1 - 1) = (j : Int) := by omega
      clear hup
      generalize L[j].k = x0 at *
      generalize L[j + 1].k = x1 at *
      have HX : Hid (ltK x0 x1 = Op.bytesLess x0.toList x1.toList) := rfl
      cases hz : Op.bytesLess x0.toList x1.toList with
      | true =>
        have HUT : Hid (upAt L j = true) := HUP.out.trans (HX.out.trans hz)
        go_wp2
        go_quiet (fail)
        go_wp2
        go_roundg gk
        case measure => omega
        case rel => exact ⟨j + 1, k + nq, by omega, by go_num, (fun i hi h2 => by
          rcases Nat.lt_or_ge i j with h1 | h1
          · exact HF.out i h1 h2
          · obtain rfl : i = j := by omega
            exact HUT.out), rfl⟩
      | false =>
        have HUT := Lib.hid (HFA.out j hjn (HUP.out.trans (HX.out.trans hz)))
        go_wp2
        go_quiet (fail)
        go_wp2
        go_ret
        rw [HUT.out]
        exact ⟨rfl, below_drewN HBJ.out nq⟩
    · have hii : ¬ (j : Int) + 1 < (n : Int) := by omega
      have HUT := Lib.hid (HT.out (fun i hi => HF.out i (by omega) hi))
      go_wp2
      go_ret
      rw [HUT.out]
      exact ⟨rfl, HBJ.out⟩

end Go.Proofs.Ytimpigponjkfkaa
