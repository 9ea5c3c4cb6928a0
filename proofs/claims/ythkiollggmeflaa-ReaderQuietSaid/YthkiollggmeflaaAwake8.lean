/-
  Proved here: what the statements' own awake answers.
  Conditions: none.
-/
import Derived.Test.YthkiollggmeflaaRdD
namespace Go.Proofs.Ythkiollggmeflaa
open Go Go.RowKit

set_option maxHeartbeats 400000 in
theorem awake_any (w : World) : Calls Try.prog 7 #[] w fun e w' => e = .returned (.bool true) ∧ Below w.heap.size w w' := by
  have HN := Lib.hid (rdnew_ok 2 (by omega) (by omega) w)
  unfold MadeRd at HN
  have H1 : Hid (∀ w1 p q, RdP w1 p q (List.replicate 2 0) 1 → Calls Try.prog 11 #[.pointer (some ⟨p, 0, none⟩), .int .i64 0] w1 fun e w' => e = .returned (.tuple #[.int .u64 1, .int .i64 0]) ∧ RdP w' p q [1, 0] 1 ∧ Turns p q w1 w') := fun w1 p q h => rdenter_any h 0
  have H2 : Hid (∀ w1 p q, RdP w1 p q [1, 0] 1 → Calls Try.prog 15 #[.pointer (some ⟨p, 0, none⟩)] w1 fun e w' => e = .returned (.int .u64 2) ∧ RdP w' p q [1, 0] 2 ∧ Turns p q w1 w') := fun w1 p q h => rdadv_any h (by omega)
  have H3 : Hid (∀ w1 p q, RdP w1 p q [1, 0] 2 → Calls Try.prog 20 #[.pointer (some ⟨p, 0, none⟩), .int .u64 1] w1 fun e w' => e = .returned (.bool false) ∧ w1 = w') := fun w1 p q h => rdquiet_any h 1
  have H4 : Hid (∀ w1 p q, RdP w1 p q [1, 0] 2 → Calls Try.prog 20 #[.pointer (some ⟨p, 0, none⟩), .int .u64 0] w1 fun e w' => e = .returned (.bool true) ∧ w1 = w') := fun w1 p q h => rdquiet_any h 0
  go_enter Try.func7, Try.ntmps7
  go_wp2_with fail
  refine HN.out.mono ?_
  rintro e w1 ⟨p, q, rfl, hp, hq, hpl, hb⟩
  have HP := Lib.hid hp
  have HQ := Lib.hid hq
  have HPL := Lib.hid hpl
  have HB := Lib.hid hb
  clear hp hq hpl hb
  go_wp2_with fail
  refine (H1.out _ _ _ HPL.out).mono ?_
  rintro e w2 ⟨rfl, hpl, ht⟩
  have HPL2 := Lib.hid hpl
  have HTR := Lib.hid ht
  clear hpl ht
  go_wp2_with fail
  refine (H2.out _ _ _ HPL2.out).mono ?_
  rintro e w3 ⟨rfl, hpl, ht⟩
  have HPL3 := Lib.hid hpl
  have HTR2 := Lib.hid ht
  clear hpl ht
  go_wp2_with fail
  refine (H3.out _ _ _ HPL3.out).mono ?_
  rintro e w4 ⟨rfl, rfl⟩
  go_wp2_with fail
  refine (H4.out _ _ _ HPL3.out).mono ?_
  rintro e w4 ⟨rfl, rfl⟩
  go_wp2
  go_ret
  refine ⟨rfl, HB.out.trans ?_⟩
  exact (HTR.out.trans HTR2.out).below HP.out HQ.out HB.out.size

end Go.Proofs.Ythkiollggmeflaa
