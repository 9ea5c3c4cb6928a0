/-
  Proved here: what package sum's Text answers.
  Conditions: texts of at most 2^30 bytes.
-/
import Derived.Test.YtfdifimakaiccaaSum
namespace Go.Proofs.Ytfdifimakaiccaa
open Go.RowKit
set_option maxRecDepth 100000

set_option maxHeartbeats 400000 in
theorem text_any (s : ByteArray) (hs : s.size ≤ 1073741824) (w : World) :
    Calls Try.prog 32 #[.string s] w fun e w' => e = .returned (.int .u32 (addS 0 s.data.toList : Nat)) ∧ Below w.heap.size w w' := by
  have hconv := Lib.run_convert_string_bytes (P := Try.prog) w 9 67 5 s Try.underlying9 Try.underlying67 Try.underlying5
  have HH := Lib.hid (add_any 0 (by omega) (some ⟨w.heap.size, 0, none⟩) s.size (grownCap w s.size 0 5) s.data.toList rfl _ (row_bytes w s hs))
  obtain ⟨W, hW⟩ : ∃ W, Lib.bytesWorld w 5 s = W := ⟨_, rfl⟩
  have hb := below_bytes w s
  rw [hW] at hconv HH hb
  have HB := Lib.hid hb
  clear hW hb
  go_enter Try.func32, Try.ntmps32
  go_wp2_with (go_at_call 38; refine HH.out.mono ?_; rintro e w' ⟨rfl, rfl⟩)
  go_ret
  exact ⟨rfl, HB.out⟩

end Go.Proofs.Ytfdifimakaiccaa
