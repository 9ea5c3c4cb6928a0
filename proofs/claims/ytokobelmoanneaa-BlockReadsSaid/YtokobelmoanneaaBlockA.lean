/-
    Proved here: what package block's isClass, isNumber, isKind and fills answer, and chapter 6's own number.
  Conditions: texts of at most 2,000 bytes.
-/
import Derived.Test.YtokobelmoanneaaBlockMath
import Derived.Test.YtokobelmoanneaaCode
import Derived.Deep.QuietTactic
import Derived.BigQuiet
import Derived.IntWalk
import Derived.WalkSmall
namespace Go.Proofs.Ytokobelmoanneaa
open Go Go.RowKit

/-- A block as a value. -/
def BV.agg (b : BV) : Value := .agg #[.int .i64 b.cl, .int .i64 b.kd, .int .u64 (b.id : Nat), .int .u64 (b.ver : Nat), .int .u64 (b.ep : Nat), .string b.key, .string b.val]
def clsB (c : Int) : Bool := decide (0 ≤ c) && decide (c ≤ 3)
theorem clsB_span (c : Int) : decide ((0 : Int) < (spanN c : Nat)) = clsB c := by
  unfold clsB spanN
  (repeat' split) <;> simp_all <;> omega
set_option maxHeartbeats 400000 in
theorem isclass_any (c : Int) (w : World) : Calls Try.prog 29 #[.int .i64 c] w fun e w' => e = .returned (.bool (clsB c)) ∧ w = w' := by
  have H := Lib.hid (span_any c w)
  have HC := Lib.hid (clsB_span c)
  generalize clsB c = r at *
  generalize spanN c = s at *
  go_enter Try.func29, Try.ntmps29
  go_wp2_with fail
  refine H.out.mono ?_
  rintro e w' ⟨rfl, rfl⟩
  go_wp2
  go_ret
  exact ⟨bool_eq (by rw [← HC.out]; simp), rfl⟩
theorem le_cast (v : Nat) : decide ((v : Int) ≤ 2305843009213693952) = decide (v ≤ 2305843009213693952) := by
  rw [Bool.eq_iff_iff, decide_eq_true_iff, decide_eq_true_iff]; omega
set_option maxHeartbeats 400000 in
theorem isnumber_any (v : Nat) (w : World) : Calls Try.prog 44 #[.int .u64 v] w fun e w' => e = .returned (.bool (numB v)) ∧ w = w' := by
  have HN : Hid (numB v = (decide (1 ≤ v) && decide (v ≤ 2305843009213693952))) := rfl
  generalize numB v = r at *
  rcases Classical.em (1 ≤ v) with h | h
  all_goals
    go_enter Try.func44, Try.ntmps44
    go_wp2
    go_ret
    refine ⟨bool_eq ?_, rfl⟩
    rw [HN.out]
    simp [h, le_cast]
set_option maxHeartbeats 400000 in
theorem rnumber_any (v : Nat) (w : World) : Calls Try.prog 31 #[.int .u64 v] w fun e w' => e = .returned (.bool (numB v)) ∧ w = w' := by
  have HN : Hid (numB v = (decide (1 ≤ v) && decide (v ≤ 2305843009213693952))) := rfl
  generalize numB v = r at *
  rcases Classical.em (1 ≤ v) with h | h
  all_goals
    go_enter Try.func31, Try.ntmps31
    go_wp2
    go_ret
    refine ⟨bool_eq ?_, rfl⟩
    rw [HN.out]
    simp [h, le_cast]
def kndB (k : Int) : Bool := decide (0 ≤ k) && decide (k ≤ 3)
set_option maxHeartbeats 400000 in
theorem iskind_any (k : Int) (w : World) : Calls Try.prog 41 #[.int .i64 k] w fun e w' => e = .returned (.bool (kndB k)) ∧ w = w' := by
  have HN : Hid (kndB k = (decide (0 ≤ k) && decide (k ≤ 3))) := rfl
  generalize kndB k = r at *
  go_enter Try.func41, Try.ntmps41
  go_wp2
  all_goals
    go_ret
    refine ⟨bool_eq ?_, rfl⟩
    rw [HN.out]
    simp_all <;> omega
theorem quiet_same {P : Program} {f : FuncId} {args : Array Value} {w : World} {n : Nat} {v : Value}
    (h : Calls P f args (w.drewN n) fun e w' => e = .returned v ∧ w.drewN n = w') : Calls P f args (w.drewN n) fun e w'' => e = .returned v ∧ ∃ m, w'' = w.drewN m :=
  h.mono fun _ _ ⟨he, hm⟩ => ⟨he, n, hm.symm⟩
set_option maxHeartbeats 4000000 in
theorem fills_any (b : BV) (hk : b.key.size ≤ 2000) (hv : b.val.size ≤ 2000) (w : World) : Calls Try.prog 30 #[b.agg] w fun e w' => e = .returned (.bool (fillsB b)) ∧ Below w.heap.size w w' := by
  have H1 := Lib.hid (fun W => isnumber_any b.id W)
  have H2 := Lib.hid (fun W => isnumber_any b.ver W)
  have H3 := Lib.hid (fun W => isnumber_any b.ep W)
  have H4 := Lib.hid (fun W => need_any ((b.key.size + b.val.size : Nat) : Int) W)
  have HF : Hid (fillsB b = (numB b.id && numB b.ver && numB b.ep && decide (b.val.size ≤ 400) && decide (b.cl = needN ((b.key.size + b.val.size : Nat) : Int)))) := rfl
  rw [BV.agg]
  generalize fillsB b = r at *
  obtain ⟨cl, kd, id, ver, ep, key, val⟩ := b
  simp only at H1 H2 H3 H4 HF hk hv ⊢
  have hsum : ((key.size + val.size : Nat) : Int) = (key.size : Int) + (val.size : Int) := by omega
  rw [hsum] at H4 HF
  generalize needN ((key.size : Int) + (val.size : Int)) = q at *
  generalize numB id = r1 at *
  generalize numB ver = r2 at *
  generalize numB ep = r3 at *
  clear hsum
  have hb : ∀ o, Below w.heap.size w (w.alloc o) := fun o => (Below.refl _ _).alloc (Nat.le_refl _) _
  have HB := Lib.hid hb
  clear hb
  have hs1 : IntKind.i64.wrap ((key.size : Int) + (val.size : Int)) = (key.size : Int) + (val.size : Int) := IntWalk.i64_in _ (by omega)
  rcases Classical.em (val.size ≤ 400) with h4 | h4
  · have h4' : decide ((val.size : Int) ≤ 400) = true := by simp; omega
    have HD : Hid (decide (val.size ≤ 400) = true) := by show _ = _; simp; omega
    cases r1 <;> cases r2 <;> cases r3
    all_goals
      go_enter Try.func30, Try.ntmps30
      go_wp2
      go_quiet ((first | (go_at_call 44; first | (with_reducible exact quiet_same (H1.out _)) | (with_reducible exact quiet_same (H2.out _)) | (with_reducible exact quiet_same (H3.out _))) | (go_at_call 45; exact quiet_same (H4.out _))))
      go_wp2
      go_ret
      exact ⟨bool_eq (by rw [HF.out, HD.out]; rfl), below_drewN (HB.out _) _⟩
  · have h4' : decide ((val.size : Int) ≤ 400) = false := by simp; omega
    have HD : Hid (decide (val.size ≤ 400) = false) := by show _ = _; simp; omega
    cases r1 <;> cases r2 <;> cases r3
    all_goals
      go_enter Try.func30, Try.ntmps30
      go_wp2
      go_quiet ((first | (go_at_call 44; first | (with_reducible exact quiet_same (H1.out _)) | (with_reducible exact quiet_same (H2.out _)) | (with_reducible exact quiet_same (H3.out _))) | (go_at_call 45; exact quiet_same (H4.out _))))
      go_wp2
      go_ret
      exact ⟨bool_eq (by rw [HF.out, HD.out]; simp), below_drewN (HB.out _) _⟩

end Go.Proofs.Ytokobelmoanneaa
