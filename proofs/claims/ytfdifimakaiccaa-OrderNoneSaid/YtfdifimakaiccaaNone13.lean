/-
  Proved here: what the order's functions answer of no order.
  Conditions: none.
-/
import Derived.Test.YtfdifimakaiccaaPlays13
import Derived.ChangeSame
namespace Go.Proofs.Ytfdifimakaiccaa
open Go Go.RowKit
set_option maxRecDepth 100000

section
open Go.ChangeShapes Go.WideShapes Go.Deep
set_option maxRecDepth 100000 in
/-- A link that came in, as the walk is told of it. -/
theorem isLink_of {H : Type} {enc : TypeId × Value → H} {w : World} {base b0 : Nat} {spare : Nat → Bool} {held : Bool} {r : Reach} {v : Value} {d : DataW H} {p : List MemPlace}
    (hv : Value.okWide Try.prog w r b0 33 v) (h : DataW.Trod enc Try.prog w base spare held 33 v d p) : ∃ x : Ln, v = x.agg ∧ x.k.length ≤ maxLen := by
  obtain ⟨cs, rfl, hsz⟩ := okWide_struct Try.underlying33 hv
  obtain ⟨fuel, hf⟩ := h
  obtain ⟨x, hx, hk⟩ := link_cells hf
  refine ⟨x, ?_, hk⟩
  rw [Ln.agg_cells]
  congr 1
  apply Array.ext'
  rw [← hx]
  rfl
end
set_option maxHeartbeats 800000 in
theorem odset_nil (x : Ln) (w : World) : Calls Try.prog 11 #[.pointer none, .agg #[.string x.str, .int .u64 (x.id : Nat), .int .u64 (x.ver : Nat), .int .i64 x.line, .int .i64 x.cl]] w fun e w' => e = .returned (.bool false) ∧ Below w.heap.size w w' := by
  generalize x.str = x0 at *
  generalize (x.id : Int) = x1 at *
  generalize (x.ver : Int) = x2 at *
  generalize x.line = x3 at *
  generalize x.cl = x4 at *
  go_enter Try.func11, Try.ntmps11
  go_wp2
  go_ret
  exact ⟨rfl, (Below.refl _ _).alloc (Nat.le_refl _) _⟩
set_option maxHeartbeats 800000 in
theorem oddrop_nil (s : ByteArray) (w : World) : Calls Try.prog 13 #[.pointer none, .string s] w fun e w' => e = .returned (.bool false) ∧ w = w' := by
  go_enter Try.func13, Try.ntmps13
  go_wp2
  go_ret
  exact ⟨rfl, rfl⟩
theorem odall_nil (w : World) : Calls Try.prog 18 #[.pointer none] w (AllTo [] w) :=
  odall_of (cap := 0) (A := none) 0 rfl (rowL_nil _ _) (fun _ => ⟨rfl, rfl⟩) (by simp) fun w' _ => odlinks_nil 1 w'
theorem odlen_nil (w : World) : Calls Try.prog 17 #[.pointer none] w fun e w' => e = .returned (.int .i64 0) ∧ w = w' := odlen_of (n := 0) (cap := 0) (odlinks_nil 1 w)

end Go.Proofs.Ytfdifimakaiccaa
