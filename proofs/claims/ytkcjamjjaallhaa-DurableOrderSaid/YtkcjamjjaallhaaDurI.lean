/-
  Proved here: what the law DurableOrder asks of a device's loose lines and of the clock's line.
  Conditions: none.
-/
import Derived.Test.YtkcjamjjaallhaaDurH
namespace Go.Proofs.Ytkcjamjjaallhaa
open Go Go.RowKit

theorem idx_mem (f : Cl → Bool) (st : List Cl) (k : Nat) (x : Int) : x ∈ idx f k st → ∃ i : Nat, x = ((k + i : Nat) : Int) ∧ ∃ c, st[i]? = some c ∧ f c = true := by
  induction st generalizing k with
  | nil => intro h; simp [idx] at h
  | cons d st ih =>
    intro h
    have hr : x ∈ idx f (k + 1) st → ∃ i : Nat, x = ((k + i : Nat) : Int) ∧ ∃ c, (d :: st)[i]? = some c ∧ f c = true := fun hx => by
      obtain ⟨i, e, c, h1, h2⟩ := ih (k + 1) hx
      exact ⟨i + 1, by rw [e]; congr 1; omega, c, by simpa using h1, h2⟩
    simp only [idx] at h
    split at h
    · rename_i hd
      rcases List.mem_cons.1 h with rfl | h
      · exact ⟨0, rfl, d, rfl, hd⟩
      · exact hr h
    · exact hr h
theorem loose_low (st : List Cl) (h : ∀ i : Nat, 2 ≤ i → i < st.length → (clAt st (i : Int)).v = (clAt st (i : Int)).p) : ∀ x ∈ looseL st, x ≤ 1 := by
  intro x hx
  obtain ⟨i, rfl, c, hc, hf⟩ := idx_mem _ st 0 x hx
  rw [Nat.zero_add]
  rcases Nat.lt_or_ge i 2 with h1 | h1
  · omega
  · exfalso
    obtain ⟨hi, e⟩ := List.getElem?_eq_some_iff.1 hc
    have := h i h1 hi
    have hcl : clAt st (i : Int) = c := by
      have := clAt_some hi
      rw [hc] at this
      exact (Option.some.inj this).symm
    rw [hcl] at this
    simp [this] at hf
set_option maxHeartbeats 800000 in
theorem lasting_any {w : World} {dp dq : Nat} {s : St} (h : DvS w dp dq s) (hs : ∀ x ∈ looseL s.1, x ≤ 1) : Calls Try.prog 34 #[.pointer (some ⟨dp, 0, none⟩)] w fun e w' => e = .returned (.bool true) ∧ Below w.heap.size w w' := by
  have HL := Lib.hid (looses_ok h)
  have HN : Hid ((looseL s.1).length ≤ 134217728) := by
    have h1 := h.len
    have h2 := idx_len (fun c => c.v != c.p) s.1 0
    show (looseL s.1).length ≤ _
    unfold looseL
    omega
  unfold Listed at HL
  have HS : Hid (∀ j, j < (looseL s.1).length → (looseL s.1).getD j 0 ≤ 1) := fun j hj => hs _ (by rw [List.getD, List.getElem?_eq_getElem hj]; exact List.getElem_mem hj)
  generalize looseL s.1 = l at *
  clear h hs
  go_enter Try.func34, Try.ntmps34
  go_wp2_with fail
  refine HL.out.mono ?_
  rintro e w1 ⟨V, rfl, ho, hb⟩
  obtain ⟨A, cap, rfl, hrow, _, _⟩ := rowI_of_own ho HN.out
  have HR := Lib.hid hrow
  have HB := Lib.hid hb
  obtain ⟨n, hn⟩ : ∃ n, l.length = n := ⟨_, rfl⟩
  have HLN := Lib.hid hn
  rw [hn]
  have hnb : n ≤ 134217728 := by have := HN.out; omega
  clear ho hb hrow hn
  go_wp2
  go_loopg [4] n (fun gk s4 wx => ∃ i : Nat, i + gk = n ∧ s4 = .int .i64 i ∧ wx = w1)
  case atStart => exact ⟨0, by omega, rfl, rfl⟩
  case round =>
    obtain ⟨i, hig, rfl, rfl⟩ := hrel
    cases gk with
    | zero =>
      obtain rfl : i = n := by omega
      have hii : ¬ (i : Int) < (i : Int) := by omega
      go_wp2
      go_ret
      exact ⟨rfl, HB.out⟩
    | succ gk =>
      have hii : (i : Int) < (n : Int) := by omega
      have hx := HS.out i (by have := HLN.out; omega)
      obtain ⟨b, off, rfl, _, hc⟩ := HR.out.2 (by have := HLN.out; omega)
      have hci := hc i (by have := HLN.out; omega)
      generalize l.getD i 0 = x at *
      have hx1 : ¬ (1 : Int) < x := by omega
      clear hc hx
      go_wp2
      go_roundg gk
      case measure => omega
      case rel => exact ⟨i + 1, by omega, by go_num, rfl⟩
theorem u8_of (z : Int) : ∃ X : UInt8, IntKind.u8.wrap z = ((X.toNat : Nat) : Int) := by
  have h : 0 ≤ IntKind.u8.wrap z ∧ IntKind.u8.wrap z < 256 := by
    simp [IntKind.wrap, IntKind.signed, IntKind.bits]
    omega
  obtain ⟨n, hn⟩ := Int.eq_ofNat_of_zero_le h.1
  refine ⟨UInt8.ofNat n, ?_⟩
  rw [hn, UInt8.toNat_ofNat']
  have : n < 256 := by omega
  rw [Nat.mod_eq_of_lt (by omega)]
theorem Ck.step_dur (c : Ck) (hp : c.ph ≠ 0) : (c.step.ph = 0 ∧ c.step.dur = c.dur + 1) ∨ (c.step.ph ≠ 0 ∧ c.step.dur = c.dur) := by
  unfold Ck.step
  rw [if_neg hp]
  split
  · have := nx_le c.left.tail
    exact .inr ⟨by show nx c.left.tail ≠ 0; omega, rfl⟩
  split
  · exact .inr ⟨by simp, rfl⟩
  split
  · exact .inr ⟨by simp, rfl⟩
  split
  · exact .inr ⟨by simp, rfl⟩
  · exact .inl ⟨rfl, rfl⟩
theorem zeros_no (v : Nat) : zeros64 ≠ clockL v := by
  intro h
  have := congrArg (fun l => l.getD 0 0) h
  have h2 : (clockL v).getD 0 0 = 3 := by
    rw [clockL, sealed_eq (clockNine_len v)]
    simp [clockNine, lay]
  simp only [h2] at this
  simp [zeros64] at this
theorem Ord.lasts {c : Ck} {s : St} (h : Ord c s) (hp : c.ph = 0 ∨ 3 ≤ c.ph) : ∀ x ∈ looseL s.1, x ≤ 1 := loose_low s.1 (fun i h1 h2 => (h.p3 hp i h1 (by have := h.len; omega)).1)
/-- What the clock's line says, and what of the others then. -/
theorem Ord.tri {c : Ck} {s : St} (h : Ord c s) : (∀ v, v < 18446744073709551616 → (clAt s.1 1).p ≠ clockL v) ∨ (∃ v, v < 18446744073709551616 ∧ v ≠ 1 ∧ (clAt s.1 1).p = clockL v) ∨ ((clAt s.1 1).p = clockL 1 ∧ ∀ x ∈ looseL s.1, x ≤ 1) := by
  rcases Classical.em (c.ph = 0 ∨ 3 ≤ c.ph) with hp | hp
  · have hl := h.lasts hp
    rcases Classical.em (∃ v, v < 18446744073709551616 ∧ (clAt s.1 1).p = clockL v) with ⟨v, h1, h2⟩ | hn
    · rcases Classical.em (v = 1) with rfl | h3
      · exact .inr (.inr ⟨h2, hl⟩)
      · exact .inr (.inl ⟨v, h1, h3, h2⟩)
    · exact .inl (fun v h1 h2 => hn ⟨v, h1, h2⟩)
  · left
    intro v _
    rw [h.q (by omega) (by omega)]
    exact zeros_no v

end Go.Proofs.Ytkcjamjjaallhaa
