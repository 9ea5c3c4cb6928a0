/-
  Proved here: what chapter 10's own first answers.
  Conditions: none.
-/
import Derived.Test.YtfonjkbdonbjdaaBagG
import Derived.Test.YtfonjkbdonbjdaaRef8B
namespace Go.Proofs.Ytfonjkbdonbjdaa
open Go Go.RowKit

abbrev RbP (w : World) (p lo q : Nat) (L : List En) : Prop := Bg 29 w p lo q L
set_option maxHeartbeats 1600000 in
set_option maxRecDepth 100000 in
theorem rfirst_any {w : World} {p lo q rp rq : Nat} {L : List En} {R : List Nat} {now : Nat} (h : RbP w p lo q L) (hr : RdR w rp rq R now) (D : Nat) :
    Calls Try.prog 45 #[.pointer (some ⟨p, 0, none⟩), .pointer (some ⟨rp, 0, none⟩), .int .u64 (D : Nat)] w fun y w' =>
      y = .returned (.int .i64 (if hasE (readyB (quietB R) D) L then (firstAt (readyB (quietB R) D) L : Int) else -1)) ∧ w = w' := by
  obtain ⟨A, cap, _, _, hrd⟩ := h.reads
  obtain ⟨hc, hrow⟩ := hrd w (Below.refl _ _)
  have HRW := Lib.hid hrow
  have HQ : Hid (∀ x : Nat, Calls Try.prog 52 #[.pointer (some ⟨rp, 0, none⟩), .int .u64 (x : Nat)] w fun e w' => e = .returned (.bool (quietB R x)) ∧ w = w') := fun x => r8quiet_any hr x
  have hmost := h.most
  obtain ⟨n, hn⟩ : ∃ n, L.length = n := ⟨_, rfl⟩
  have HN := Lib.hid hn
  obtain ⟨Rr, hRr⟩ : ∃ Rr : Ending → World → Prop, (fun y w' => y = .returned (.int .i64 (if hasE (readyB (quietB R) D) L then (firstAt (readyB (quietB R) D) L : Int) else -1)) ∧ w = w') = Rr := ⟨_, rfl⟩
  rw [hRr]
  have HNO : Hid ((∀ k, k < L.length → ∃ a, L[k]? = some a ∧ readyB (quietB R) D a = false) → Rr (.returned (.int .i64 (-1))) w) := fun h => by
    have h1 := firstAt_none _ L h
    rw [← hRr]
    exact ⟨by simp [hasE, h1], rfl⟩
  have HYES : Hid (∀ k e, (∀ j, j < k → ∃ a, L[j]? = some a ∧ readyB (quietB R) D a = false) → L[k]? = some e → readyB (quietB R) D e = true → Rr (.returned (.int .i64 (k : Nat))) w) := fun k e h he hz => by
    have h1 := firstAt_is _ L k e h he hz
    have h2 : k < L.length := (List.getElem?_eq_some_iff.1 he).1
    rw [← hRr]
    exact ⟨by simp [hasE, h1, h2], rfl⟩
  rw [hn] at hc hmost
  clear h hr hrd hrow hRr hn
  go_enter Try.func45, Try.ntmps45
  go_wp2
  go_loopg [7] n (fun gk s7 wx => ∃ i : Nat, i + gk = n ∧ s7 = .int .i64 i ∧ w = wx ∧ Hid (∀ j, j < i → ∃ a, L[j]? = some a ∧ readyB (quietB R) D a = false))
  case atStart => exact ⟨0, by omega, rfl, rfl, fun j hj => by omega⟩
  case round =>
    obtain ⟨i, hig, rfl, rfl, HT⟩ := hrel
    cases gk with
    | zero =>
      obtain rfl : i = n := by omega
      have hii : ¬ (i : Int) < (i : Int) := by omega
      have HE := Lib.hid (HNO.out (HN.out.symm ▸ HT.out))
      go_wp2
      exact HE.out
    | succ gk =>
      have hii : (i : Int) < (n : Int) := by omega
      have hil : i < L.length := by have := HN.out; omega
      have hgi := List.getElem?_eq_getElem hil
      generalize L[i] = e at *
      have HGI := Lib.hid hgi
      obtain ⟨b, off, rfl, _, _, _, c2, c3, _⟩ := HRW.out.at_ hgi
      have HQE := Lib.hid (HQ.out e.r)
      have hz : readyB (quietB R) D e = (quietB R e.r && decide (e.d ≤ D)) := rfl
      cases hq : quietB R e.r with
      | false =>
        rw [hq] at HQE hz
        have HNX : Hid (∀ j, j < i + 1 → ∃ a, L[j]? = some a ∧ readyB (quietB R) D a = false) := fun j hj => by
          rcases Nat.lt_or_ge j i with h1 | h1
          · exact HT.out j h1
          · obtain rfl : j = i := by omega
            exact ⟨e, HGI.out, by rw [hz]; rfl⟩
        clear hz hgi hq
        go_wp2_with fail
        refine HQE.out.mono ?_
        rintro y w' ⟨rfl, rfl⟩
        go_wp2
        go_roundg gk
        case measure => omega
        case rel => exact ⟨i + 1, by omega, by go_num, rfl, HNX⟩
      | true =>
        rw [hq] at HQE hz
        cases hd : decide (e.d ≤ D) with
        | false =>
          rw [hd] at hz
          have HNX : Hid (∀ j, j < i + 1 → ∃ a, L[j]? = some a ∧ readyB (quietB R) D a = false) := fun j hj => by
            rcases Nat.lt_or_ge j i with h1 | h1
            · exact HT.out j h1
            · obtain rfl : j = i := by omega
              exact ⟨e, HGI.out, by rw [hz]; rfl⟩
          clear hz hgi hq
          go_wp2_with fail
          refine HQE.out.mono ?_
          rintro y w' ⟨rfl, rfl⟩
          go_wp2
          go_roundg gk
          case measure => omega
          case rel => exact ⟨i + 1, by omega, by go_num, rfl, HNX⟩
        | true =>
          rw [hd] at hz
          have HE := Lib.hid (HYES.out i e HT.out HGI.out hz)
          clear hz hgi hq
          go_wp2_with fail
          refine HQE.out.mono ?_
          rintro y w' ⟨rfl, rfl⟩
          go_wp2
          exact HE.out

end Go.Proofs.Ytfonjkbdonbjdaa
