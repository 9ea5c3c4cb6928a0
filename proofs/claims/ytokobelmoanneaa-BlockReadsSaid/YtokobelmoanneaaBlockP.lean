/-
    Proved here: what chapter 6's own Head answers; what is put behind a row of the call's own.
  Conditions: rows of at most 2^30 bytes.
-/
import Derived.Test.YtokobelmoanneaaBlockN
import Derived.Test.YtokobelmoanneaaRef2N
import Derived.Test.YtokobelmoanneaaRef1
namespace Go.Proofs.Ytokobelmoanneaa
open Go Go.RowKit

theorem own_join {W : World} {q g m cap : Nat} {V : Value} {l k : List UInt8} (ho : W.ownsRow q 5 1 V l.length (enc l)) (hq : q ≤ W.heap.size) (hr : Row W (some ⟨g, 0, none⟩) k) (hk : k.length = m) (hl : l.length + m ≤ 1000) :
    ∃ V' W', (Builtin.append_ #[27, 27] 27 #[V, .slice (some ⟨g, 0, none⟩) m cap]).run Try.prog W = .ok V' W' ∧ W'.ownsRow q 5 1 V' (l ++ k).length (enc (l ++ k)) ∧ Below q W W' := by
  obtain ⟨V', W', h1, h2, h3⟩ := run_app_below W q l.length V _ ho (some ⟨g, 0, none⟩) m cap k hk hr (by intro h; cases h) (by omega) hq
  refine ⟨V', W', h1, ?_, h3⟩
  rw [List.length_append, hk, ← enc_append]
  exact h2
/-- Lay, and what it laid put behind a row: what is known behind the call. -/
theorem lay_join {W W1 : World} {q n v : Nat} {V V1 : Value} {l : List UInt8} (ho : W.ownsRow q 5 1 V l.length (enc l)) (hq : q ≤ W.heap.size) (hb : Below W.heap.size W W1) (h1 : W1.ownsRow W.heap.size 5 1 V1 n (enc (lay n v))) (hn : 0 < n) (hl : l.length + n ≤ 1000) :
    ∃ V' W', (Builtin.append_ #[27, 27] 27 #[V, V1]).run Try.prog W1 = .ok V' W' ∧ W'.ownsRow q 5 1 V' (l ++ lay n v).length (enc (l ++ lay n v)) ∧ Below q W W' := by
  obtain ⟨g, cap, rfl, _, _, _, hrow⟩ := own_form h1 hn (by omega)
  obtain ⟨V', W', h2, h3, h4⟩ := own_join (cap := cap) (own_keep ho hb) (Nat.le_trans hq hb.size) hrow (lay_len n v) hl
  exact ⟨V', W', h2, h3, (hb.mono hq).trans h4⟩
theorem own_lit (w : World) (l : List UInt8) (hl : l.length ≤ 1073741824) : (w.alloc (.cells (enc l).toArray 5)).ownsRow w.heap.size 5 1 (.slice (some ⟨w.heap.size, 0, none⟩) l.length l.length) l.length (enc l) := by
  refine blk_own (r := l) ?_ rfl hl
  show (w.heap.push _)[w.heap.size]? = _
  simp
theorem app_data (k v : ByteArray) : (k ++ v).data.toList = k.data.toList ++ v.data.toList := by simp
set_option maxHeartbeats 1600000 in
theorem rhead_any (w : World) (A : Option Addr) (n c : Nat) (l : List UInt8) (hl : l.length = n) (hr : Row w A l) :
    Calls Try.prog 27 #[.slice A n c] w fun e w' => e = .returned (headR l) ∧ Below w.heap.size w w' := by
  have HH : Hid (headR l = if isHead l = true then .tuple #[.int .i64 (clOf l : Nat), .int .i64 (kdOf l : Nat), .bool true] else .tuple #[.int .i64 0, .int .i64 0, .bool false]) := rfl
  have hi : isHead l = (decide (l.length = 64) && (decide ((l.getD 0 0).toNat = 1) && (decide (clOf l ≤ 3) && decide (kdOf l ≤ 3)))) := rfl
  generalize headR l = T at *
  rcases Classical.em (n = 64) with h64 | h64
  · subst h64
    obtain ⟨g, off, rfl, hlt, hcl⟩ := hr.2 (by omega)
    have q0 : w.cell? ⟨g, off, none⟩ = some (.int .u8 ((l.getD 0 0).toNat : Nat)) := hcl 0 (by omega)
    have q1 : w.cell? ⟨g, off + 1, none⟩ = some (.int .u8 (clOf l : Nat)) := hcl 1 (by omega)
    have q2 : w.cell? ⟨g, off + 2, none⟩ = some (.int .u8 (kdOf l : Nat)) := hcl 2 (by omega)
    have b1 : clOf l < 256 := UInt8.toNat_lt _
    have b2 : kdOf l < 256 := UInt8.toNat_lt _
    rw [decide_eq_true hl, Bool.true_and] at hi
    have HI := Lib.hid hi
    generalize isHead l = ih at *
    generalize clOf l = cl at *
    generalize kdOf l = kd at *
    generalize (l.getD 0 0).toNat = t at *
    clear hi hcl hr hl
    rcases Classical.em (t = 1) with ht | ht
    · subst ht
      have HI2 : Hid (ih = (decide (cl ≤ 3) && decide (kd ≤ 3))) := (by have := HI.out; show _ = _; simpa using this)
      clear HI
      rcases Nat.lt_or_ge 3 cl with h3 | h3
      · have h3' : decide ((3 : Int) < (cl : Int)) = true := by simp; omega
        have HI3 : Hid (ih = false) := (by show _ = _; rw [HI2.out, decide_eq_false (by omega)]; rfl)
        go_enter Try.func27, Try.ntmps27
        go_wp2
        go_ret3
        exact ⟨by rw [HH.out, HI3.out]; rfl, Below.refl _ _⟩
      · have h3' : decide ((3 : Int) < (cl : Int)) = false := by simp; omega
        rcases Nat.lt_or_ge 3 kd with h4 | h4
        · have h4' : decide ((3 : Int) < (kd : Int)) = true := by simp; omega
          have HI3 : Hid (ih = false) := (by show _ = _; rw [HI2.out, decide_eq_false (p := kd ≤ 3) (by omega)]; simp)
          go_enter Try.func27, Try.ntmps27
          go_wp2
          go_ret3
          exact ⟨by rw [HH.out, HI3.out]; rfl, Below.refl _ _⟩
        · have h4' : decide ((3 : Int) < (kd : Int)) = false := by simp; omega
          have HI3 : Hid (ih = true) := (by show _ = _; rw [HI2.out, decide_eq_true h3, decide_eq_true h4]; rfl)
          go_enter Try.func27, Try.ntmps27
          go_wp2_with fail
          go_quiet (fail)
          go_wp2
          go_ret3
          exact ⟨by rw [HH.out, HI3.out]; rfl, below_drewN (Below.refl _ _) _⟩
    · have ht1 : ((t : Int) != 1) = true := by simp; omega
      have HI2 : Hid (ih = false) := (by have := HI.out; show _ = _; rw [this]; simp [ht])
      clear HI ht
      go_enter Try.func27, Try.ntmps27
      go_wp2
      go_ret3
      exact ⟨by rw [HH.out, HI2.out]; rfl, Below.refl _ _⟩
  · have h1 : ((n : Int) != 64) = true := by simp; omega
    have HI2 : Hid (isHead l = false) := (by show _ = _; rw [hi, hl, decide_eq_false h64]; rfl)
    generalize isHead l = ih at *
    clear hi hl h64 hr
    go_enter Try.func27, Try.ntmps27
    go_wp2
    go_ret3
    exact ⟨by rw [HH.out, HI2.out]; rfl, Below.refl _ _⟩

end Go.Proofs.Ytokobelmoanneaa
