/-
  Proved here: what the statements' own LendBytes, SameBytes, KeptBytes and Low answer.
  Conditions: rows of at most 2^30 bytes.
-/
import Derived.Test.YtimpigponjkfkaaBytes
namespace Go.Proofs.Ytimpigponjkfkaa
open Go.RowKit
set_option maxRecDepth 100000

def z8 (n : Nat) : Value := .int .u8 (n : Nat)

/-- What LendBytes makes ahead of its loop. -/
theorem lend_made (w : World) (A : Option Addr) (n c : Nat) (l : List UInt8) (hl : l.length = n) (hr : Row w A l) (hc : A = none → c = 0) :
    ∃ w1 w2, (Instr.makeSlice 67 (.int .i64 0) (.int .i64 ((n : Int) + 5))).run Try.prog w = .ok (.slice (some ⟨w.heap.size, 0, none⟩) 0 (n + 5)) w1 ∧
      (Builtin.append_ #[67, 67] 67 #[.slice (some ⟨w.heap.size, 0, none⟩) 0 (n + 5), .slice A n c]).run Try.prog w1 = .ok (.slice (some ⟨w.heap.size, 0, none⟩) n (n + 5)) w2 ∧
      Blk w2 w.heap.size (enc l ++ List.replicate 5 (z8 0)) ∧ Below w.heap.size w w2 := by
  obtain ⟨i, hi, hz, hs, hy⟩ : ∃ i, Try.prog.info? 5 = some i ∧ i.zero = some (.int .u8 0) ∧ i.size = 1 ∧ i.bytes = 1 := by
    obtain ⟨i, h1, h2⟩ := Option.map_eq_some_iff.1 byte_info
    simp only [Prod.mk.injEq] at h2
    exact ⟨i, h1, h2.1, h2.2.1, h2.2.2⟩
  have hn : n ≤ 1073741824 := by have := hr.1; omega
  have hmk := run_make (P := Try.prog) w 67 5 i _ Try.underlying67 hi hz .i64 .i64 0 ((n : Int) + 5) (by omega) (by omega) (by rw [hy]; omega) (by omega)
  rw [show ((n : Int) + 5).toNat = n + 5 by omega, show (0 : Int).toNat = 0 from rfl, hs, Nat.mul_one] at hmk
  obtain ⟨cur, hcur⟩ : ∃ cur, madeCells (Value.cells (.int .u8 0)) (n + 5) = cur := ⟨_, rfl⟩
  have hcl : cur.toList = List.replicate (n + 5) (z8 0) := by
    rw [← hcur]
    exact toList_madeCells_one (.int .u8 0) (n + 5)
  rw [hcur] at hmk
  have hb1 : Below w.heap.size w (w.alloc (.cells cur 5)) := (Below.refl _ _).alloc (Nat.le_refl _) _
  have hg : (w.alloc (.cells cur 5)).heap[w.heap.size]? = some (.cells cur 5 (0, 0)) := by
    show (w.heap.push _)[w.heap.size]? = _
    simp
  have hcs : cur.size = n + 5 := by rw [← Array.length_toList, hcl, List.length_replicate]
  rcases A with _ | ad
  · have h0 : l.length = 0 := by
      rcases Nat.eq_zero_or_pos l.length with h | h
      · exact h
      · obtain ⟨_, _, e, _⟩ := hr.2 h
        cases e
    obtain rfl : l = [] := List.eq_nil_of_length_eq_zero h0
    obtain rfl : n = 0 := by simpa using hl.symm
    obtain rfl := hc rfl
    refine ⟨_, _, hmk, run_append_owned_none (P := Try.prog) _ w.heap.size 67 67 5 i 1 Try.underlying67 hi _ 0 [] (World.ownsRow_made w cur 5 (Nat.le_refl _) (by decide) (by omega)), ?_, hb1⟩
    unfold Blk
    rw [hg]
    have : cur = (enc [] ++ List.replicate 5 (z8 0)).toArray := by
      apply Array.ext'
      rw [hcl]
      rfl
    rw [← this]
  · have hcells : ∀ j u, (enc l)[j]? = some u → (w.alloc (.cells cur 5)).cell? (ad.add j) = some u := by
      intro j u hu
      obtain ⟨hj, rfl⟩ := enc_at' l hu
      obtain ⟨b, off, e, hlt, hcl⟩ := hr.2 (by omega)
      replace e := Option.some.inj e
      subst e
      rw [add_plain]
      exact (hb1.cell (p := ⟨b, off + j, none⟩) hlt).trans (hcl j hj)
    have hap := run_append_room (P := Try.prog) (w.alloc (.cells cur 5)) 67 67 5 i Try.underlying67 hi w.heap.size 0 (n + 5) cur hg ad n c (enc l) (by rw [enc_len, hs]; omega) hcells enc_one (by omega) (by rw [enc_len, hcs]; omega)
    rw [Nat.zero_mul, List.take_zero, List.nil_append, Nat.zero_add, Nat.zero_add, enc_len, hl] at hap
    refine ⟨_, _, hmk, hap, ?_, ?_⟩
    · unfold Blk
      rw [setRow_heap _ _ cur _ 5 _ hg, hcl]
      simp
    · exact hb1.trans ⟨rfl, rfl, rfl, by simp, fun k hk => setRow_other _ _ k _ (by omega)⟩

/-- The spare room behind i rounds of marking. -/
def marked (i : Nat) : List Value := List.replicate i (z8 165) ++ List.replicate (5 - i) (z8 0)
theorem marked_set (i : Nat) (h : i < 5) : (marked i).set i (z8 165) = marked (i + 1) := by
  rcases i with _ | _ | _ | _ | _ | i <;> first | rfl | omega
theorem marked_len (i : Nat) (h : i ≤ 5) : (marked i).length = 5 := by simp [marked]; omega
theorem lent_set (l : List UInt8) (i : Nat) (h : i < 5) : (enc l ++ marked i).set (l.length + i) (z8 165) = enc l ++ marked (i + 1) := by
  rw [List.set_append_right _ _ (by rw [enc_len]; omega), enc_len, Nat.add_sub_cancel_left, marked_set i h]

/-- What is lent: the bytes l, and five marked places behind them. -/
def Lent (w : World) (g : Nat) (l : List UInt8) : Prop := Blk w g (enc l ++ List.replicate 5 (z8 165))

/-- What LendBytes leaves. -/
def LentTo (w : World) (n : Nat) (l : List UInt8) (e : Ending) (w' : World) : Prop :=
  ∃ g, e = .returned (.slice (some ⟨g, 0, none⟩) n (n + 5)) ∧ w.heap.size ≤ g ∧ Lent w' g l ∧ Below w.heap.size w w'

set_option maxHeartbeats 400000 in
theorem same_any (w : World) (A B : Option Addr) (n m c d : Nat) (l k : List UInt8) (hl : l.length = n) (hk : k.length = m) (hr : Row w A l) (hs : Row w B k) :
    Calls Try.prog 57 #[.slice A n c, .slice B m d] w fun e w' => e = .returned (.bool (l == k)) ∧ w = w' := by
  have h1 := run_conv w A n c l hl hr
  have h2 := run_conv w B m d k hk hs
  have e1 : (⟨l.toArray⟩ : ByteArray).data.toList = l := by simp
  have e2 : (⟨k.toArray⟩ : ByteArray).data.toList = k := by simp
  obtain ⟨S, hS⟩ : ∃ S : ByteArray, (⟨l.toArray⟩ : ByteArray) = S := ⟨_, rfl⟩
  obtain ⟨T, hT⟩ : ∃ T : ByteArray, (⟨k.toArray⟩ : ByteArray) = T := ⟨_, rfl⟩
  rw [hS] at h1 e1
  rw [hT] at h2 e2
  have E1 := Lib.hid e1
  have E2 := Lib.hid e2
  clear hl hk hr hs e1 e2 hS hT
  go_enter Try.func57, Try.ntmps57
  go_wp2
  go_ret
  exact ⟨bool_eq (by rw [ByteArray.toList_eq, ByteArray.toList_eq, E1.out, E2.out]), rfl⟩

theorem Lent.row {w : World} {g : Nat} {l : List UInt8} (h : Lent w g l) (hl : l.length ≤ 1073741824) : Row w (some ⟨g, 0, none⟩) l :=
  ⟨hl, fun _ => ⟨g, 0, rfl, Blk.lt h, fun k hk => by
    rw [Nat.zero_add, Blk.cell h, List.getElem?_append_left (by rw [enc_len]; exact hk), enc_at l k hk]⟩⟩

/-- Low: the number x, taken below n. -/
def low (x : Int) (n : Nat) : Nat := (IntKind.u64.wrap x).toNat % n
theorem low_lt (x : Int) {n : Nat} (h : 0 < n) : low x n < n := Nat.mod_lt _ h
theorem low_eq (x : Int) (n : Nat) (hn : 0 < n) (hn2 : n ≤ 1073741824) : wrap64 ((IntKind.u64.wrap x).tmod (n : Int)) = (low x n : Nat) := by
  have h0 := wrap_u64_nonneg x
  have hl := low_lt x hn
  obtain ⟨y, hy⟩ : ∃ y : Nat, IntKind.u64.wrap x = (y : Int) := ⟨(IntKind.u64.wrap x).toNat, by omega⟩
  have e : (IntKind.u64.wrap x).tmod (n : Int) = (low x n : Nat) := by
    rw [low, hy, Int.tmod_eq_emod_of_nonneg (by omega), Int.toNat_natCast]
    rfl
  rw [e]
  unfold wrap64
  omega
end Go.Proofs.Ytimpigponjkfkaa
