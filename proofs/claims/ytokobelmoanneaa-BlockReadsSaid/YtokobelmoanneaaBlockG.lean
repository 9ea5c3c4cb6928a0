/-
    Proved here: what bytes.Equal, bytes.Clone and package block's Head answer.
  Conditions: rows of at most 2^30 bytes.
-/
import Derived.Test.YtokobelmoanneaaBlockF
import Derived.Laws.Cover3
import Derived.OwnWalk
import Derived.Lib.SliceRun
namespace Go.Proofs.Ytokobelmoanneaa
open Go Go.RowKit

set_option maxHeartbeats 400000 in
theorem beq_any (w : World) (A B : Option Addr) (n m c d : Nat) (l k : List UInt8) (hl : l.length = n) (hk : k.length = m) (hr : Row w A l) (hs : Row w B k) :
    Calls Try.prog 38 #[.slice A n c, .slice B m d] w fun e w' => e = .returned (.bool (l == k)) ∧ w = w' := by
  have h1 := run_conv w A n c l hl hr
  have h2 := run_conv w B m d k hk hs
  have e1 : (⟨l.toArray⟩ : ByteArray).data.toList = l := by simp
  have e2 : (⟨k.toArray⟩ : ByteArray).data.toList = k := by simp
  obtain ⟨S, hS⟩ : ∃ S : ByteArray, (⟨l.toArray⟩ : ByteArray) = S := ⟨_, rfl⟩
  obtain ⟨T, hT⟩ : ∃ T : ByteArray, (⟨k.toArray⟩ : ByteArray) = T := ⟨_, rfl⟩
  rw [hS] at h1 e1
  rw [hT] at h2 e2
  have E1 := Lib.hid e1
  have E2 := Lib.hid e2
  clear hl hk hr hs e1 e2 hS hT
  go_enter Try.func38, Try.ntmps38
  go_wp2
  go_ret
  exact ⟨bool_eq (by rw [ByteArray.toList_eq, ByteArray.toList_eq, E1.out, E2.out]), rfl⟩
/-- What leaves a row of the call's own. -/
def RowTo (w : World) (l : List UInt8) (e : Ending) (w' : World) : Prop :=
  ∃ V, e = .returned V ∧ w'.ownsRow w.heap.size 5 1 V l.length (enc l) ∧ Below w.heap.size w w'
set_option maxHeartbeats 400000 in
theorem clone_any (w : World) (a : Addr) (n c : Nat) (l : List UInt8) (hl : l.length = n) (hr : Row w (some a) l) :
    Calls Try.prog 42 #[.slice (some a) n c] w (RowTo w l) := by
  have hb0 : Below w.heap.size w (w.alloc (.cells #[] 5)) := (Below.refl _ _).alloc (Nat.le_refl _) _
  obtain ⟨V, w2, hrun, hown, hb⟩ := run_app_below (w.alloc (.cells #[] 5)) w.heap.size 0 _ [] (World.ownsRow_made (e := 5) (size := 1) w #[] 0 (Nat.le_refl _) (by simp) (by simp)) (some a) n c l hl (hr.below hb0) (by intro h; cases h) (by have := hr.1; omega) (by simp)
  have HRUN := Lib.hid hrun
  have HO : Hid (w2.ownsRow w.heap.size 5 1 V l.length (enc l)) := (by show World.ownsRow _ _ _ _ _ _ _; rw [hl]; simpa using hown)
  have HB := Lib.hid (hb0.trans hb)
  have hnil : (binOp .eql 27 (.slice (some a) n c) (.slice none 0 0)).run Try.prog w = .ok (.bool false) w := Lib.run_eql_slice_nil w 27 5 (some a) n c 0 0 Try.underlying27
  clear hrun hown hb hl hr hb0
  go_enter Try.func42, Try.ntmps42
  go_wp2_with (at_builtin; refine wpList_app rfl (.tmp 5) (.tmp 6) 27 rfl rfl rfl HRUN.out ?_)
  go_ret
  exact ⟨V, rfl, HO.out, HB.out⟩
/-- Is a line a head (P6.2)? -/
def isHead (l : List UInt8) : Bool := decide (l.length = 64) && (decide ((l.getD 0 0).toNat = 1) && (decide (clOf l ≤ 3) && decide (kdOf l ≤ 3)))
theorem clsB_nat (n : Nat) : clsB (n : Int) = decide (n ≤ 3) := by
  rw [Bool.eq_iff_iff, clsB, Bool.and_eq_true, decide_eq_true_iff, decide_eq_true_iff, decide_eq_true_iff]; omega
theorem kndB_nat (n : Nat) : kndB (n : Int) = decide (n ≤ 3) := by
  rw [Bool.eq_iff_iff, kndB, Bool.and_eq_true, decide_eq_true_iff, decide_eq_true_iff, decide_eq_true_iff]; omega
def headR (l : List UInt8) : Value := if isHead l = true then .tuple #[.int .i64 (clOf l : Nat), .int .i64 (kdOf l : Nat), .bool true] else .tuple #[.int .i64 0, .int .i64 0, .bool false]
set_option maxHeartbeats 1600000 in
theorem head_any (w : World) (A : Option Addr) (n c : Nat) (l : List UInt8) (hl : l.length = n) (hr : Row w A l) :
    Calls Try.prog 24 #[.slice A n c] w fun e w' => e = .returned (headR l) ∧ Below w.heap.size w w' := by
  have HH : Hid (headR l = if isHead l = true then .tuple #[.int .i64 (clOf l : Nat), .int .i64 (kdOf l : Nat), .bool true] else .tuple #[.int .i64 0, .int .i64 0, .bool false]) := rfl
  have hi : isHead l = (decide (l.length = 64) && (decide ((l.getD 0 0).toNat = 1) && (decide (clOf l ≤ 3) && decide (kdOf l ≤ 3)))) := rfl
  generalize headR l = T at *
  rcases Classical.em (n = 64) with h64 | h64
  · subst h64
    obtain ⟨g, off, rfl, hlt, hcl⟩ := hr.2 (by omega)
    have q0 : w.cell? ⟨g, off, none⟩ = some (.int .u8 ((l.getD 0 0).toNat : Nat)) := hcl 0 (by omega)
    have q1 : w.cell? ⟨g, off + 1, none⟩ = some (.int .u8 (clOf l : Nat)) := hcl 1 (by omega)
    have q2 : w.cell? ⟨g, off + 2, none⟩ = some (.int .u8 (kdOf l : Nat)) := hcl 2 (by omega)
    have HC := Lib.hid (fun W => isclass_any (clOf l : Nat) W)
    have HK := Lib.hid (fun W => iskind_any (kdOf l : Nat) W)
    rw [clsB_nat] at HC
    rw [kndB_nat] at HK
    have b1 : clOf l < 256 := UInt8.toNat_lt _
    have b2 : kdOf l < 256 := UInt8.toNat_lt _
    rw [decide_eq_true hl, Bool.true_and] at hi
    have HI := Lib.hid hi
    generalize decide (clOf l ≤ 3) = dc at *
    generalize decide (kdOf l ≤ 3) = dk at *
    generalize isHead l = ih at *
    generalize clOf l = cl at *
    generalize kdOf l = kd at *
    generalize (l.getD 0 0).toNat = t at *
    clear hi hcl hr hl
    rcases Classical.em (t = 1) with ht | ht
    · subst ht
      have HI2 : Hid (ih = (dc && dk)) := (by have := HI.out; show _ = _; simpa using this)
      clear HI
      cases dc <;> cases dk
      all_goals
        go_enter Try.func24, Try.ntmps24
        go_wp2_with fail
        go_quiet (fail)
        go_wp2_with (first | (go_at_call 29; refine (HC.out _).mono ?_; rintro e w' ⟨rfl, rfl⟩) | (go_at_call 41; refine (HK.out _).mono ?_; rintro e w' ⟨rfl, rfl⟩))
        go_ret3
        exact ⟨by rw [HH.out, HI2.out]; rfl, below_drewN (Below.refl _ _) _⟩
    · have ht1 : ((t : Int) != 1) = true := by simp; omega
      have HI2 : Hid (ih = false) := (by have := HI.out; show _ = _; rw [this]; simp [ht])
      clear HI ht
      go_enter Try.func24, Try.ntmps24
      go_wp2
      go_ret3
      exact ⟨by rw [HH.out, HI2.out]; rfl, Below.refl _ _⟩
  · have h1 : ((n : Int) != 64) = true := by simp; omega
    have HI2 : Hid (isHead l = false) := (by show _ = _; rw [hi, hl, decide_eq_false h64]; rfl)
    generalize isHead l = ih at *
    clear hi hl h64 hr
    go_enter Try.func24, Try.ntmps24
    go_wp2
    go_ret3
    exact ⟨by rw [HH.out, HI2.out]; rfl, Below.refl _ _⟩

end Go.Proofs.Ytokobelmoanneaa
