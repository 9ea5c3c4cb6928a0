/-
  Proved here: of which bytes package geom tells that they are a superblock or a clock line; the chapter's example.
  Conditions: rows of at most 2^30 bytes.
-/
import Derived.Test.YtkcjamjjaallhaaGeomC
import Derived.Test.YtkcjamjjaallhaaGeomS
namespace Go.Proofs.Ytkcjamjjaallhaa
open Go Go.RowKit

/-- Is x a clock line, a superblock? -/
theorem isclock_yes (A : Option Addr) (c : Nat) (v : Nat) (hv : v < 18446744073709551616) (w : World) (hr : Row w A (clockL v)) :
    Calls Try.prog 31 #[.slice A 64 c] w fun e w' => e = .returned (.tuple #[.int .u64 v, .bool true]) ∧ Below w.heap.size w w' :=
  isclock_64 A c (clockL v) (clockL_len v) w hr v (clock_num hv) true (by simp)
theorem isclock_no (A : Option Addr) (n c : Nat) (x : List UInt8) (hx : x.length = n) (w : World) (hr : Row w A x) (hno : ∀ v, v < 18446744073709551616 → x ≠ clockL v) :
    Calls Try.prog 31 #[.slice A n c] w fun e w' => e = .returned (.tuple #[.int .u64 0, .bool false]) ∧ Below w.heap.size w w' := by
  rcases Classical.em (n = 64) with h | h
  · subst h
    have hvl : le (cut x 1 8) < 18446744073709551616 := by
      have := le_lt (cut x 1 8)
      rw [cut_len x 1 8 (by omega), pow8_eight] at this
      exact this
    exact isclock_64 A c x hx w hr _ rfl false (by simpa using hno _ hvl)
  · exact isclock_bad A n c h w
end Go.Proofs.Ytkcjamjjaallhaa
