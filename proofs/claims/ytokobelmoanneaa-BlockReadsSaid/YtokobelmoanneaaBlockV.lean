/-
    Proved here: what chapter 6's own Decode answers.
  Conditions: none.
-/
import Derived.Test.YtokobelmoanneaaBlockU
namespace Go.Proofs.Ytokobelmoanneaa
open Go Go.RowKit

/-- What chapter 6's own Decode answers of bytes that are the lines of a block. -/
theorem rdec_yes (w : World) (bl off n c : Nat) (b : BV) (ho : b.ok) (hm : mayB b = true) (hl : (linesL b).length = n) (hc : n ≤ c) (hr : Row w (some ⟨bl, off, none⟩) (linesL b)) :
    Calls Try.prog 21 #[.slice (some ⟨bl, off, none⟩) n c] w fun e w' => e = .returned (.tuple #[b.agg, .bool true]) ∧ Below w.heap.size w w' := by
  have hrd := read_lines hm ho
  have hR := lines_readable hm
  have := rdec_g3 w bl off n c (linesL b) hl hc hr hR.cl (hl.symm.trans hR.len) hR.fits (by rw [hrd]; exact hm) (by rw [hrd])
  rw [hrd] at this
  exact this
/-- .. and of others. -/
theorem rdec_no (w : World) (bl off n c : Nat) (l : List UInt8) (h : ¬ isLines l) (hl : l.length = n) (hc : n ≤ c) (hr : Row w (some ⟨bl, off, none⟩) l) :
    Calls Try.prog 21 #[.slice (some ⟨bl, off, none⟩) n c] w fun e w' => e = .returned (.tuple #[zeroBV.agg, .bool false]) ∧ Below w.heap.size w w' := by
  rcases Nat.lt_or_ge n 64 with h1 | h1
  · exact rdec_short w _ n c h1
  · rcases Nat.lt_or_ge 3 (clOf l) with h2 | h2
    · exact rdec_nocl w bl off n c l hl h1 hr h2
    · rcases Classical.em (n = 64 * spanN (clOf l)) with h3 | h3
      · rcases Nat.lt_or_ge (28 + 63 * restN (clOf l)) (klOf l + vlOf l) with h4 | h4
        · exact rdec_bad w bl off n c l hl hc hr h2 h3 h4
        · cases hm : mayB (readL l) with
          | false => exact rdec_g1 w bl off n c l hl hc hr h2 h3 h4 hm
          | true => exact rdec_g2 w bl off n c l hl hc hr h2 h3 h4 hm (fun e => h ⟨readL l, readL_ok l, hm, e⟩)
      · exact rdec_nolen w bl off n c l hl h1 hr h2 h3

end Go.Proofs.Ytokobelmoanneaa
