/-
  Proved here: a store of one's own as one that came in; how long lists grow.
  Conditions: none.
-/
import Derived.Test.YtimpigponjkfkaaGot15
import Derived.Test.YtimpigponjkfkaaKvMath15
import Derived.Test.YtimpigponjkfkaaMay15
namespace Go.Proofs.Ytimpigponjkfkaa
open Go Go.RowKit
set_option maxRecDepth 100000

/-- A store of one's own reads as one that came in. -/
theorem OwnS.is {w : World} {base : Nat} {A B : Option Addr} {n c m d : Nat} {L : List Kv} {Q : List ByteArray} (h : OwnS w base A n c B m d L Q) (hl : L.length ≤ 1048576) (hq : Q.length ≤ 1048576) : RP.Is w A n c L ∧ RS.Is w B m d Q := by
  obtain ⟨_, A', c', e1, a1, a2, r1, z1, _⟩ := Rec.row_of_own h.o1 hl
  cases e1
  obtain ⟨_, B', d', e2, b1, b2, r2, z2, _⟩ := Rec.row_of_own h.o2 hq
  cases e2
  exact ⟨⟨h.n1, a1, a2, fun e => (z1 e).2, fun hp => r1.2 (by rw [h.n1]; exact hp)⟩, ⟨h.n2, b1, b2, fun e => (z2 e).2, fun hp => r2.2 (by rw [h.n2]; exact hp)⟩⟩
theorem OwnS.none (w : World) (base : Nat) : OwnS w base Option.none 0 0 Option.none 0 0 [] [] := ⟨World.ownsRow_nil _ _ _ _, World.ownsRow_nil _ _ _ _, rfl, rfl⟩
theorem apL_len (c : Cal) (G : List Cal) (L : List Kv) : (apL c G L).length ≤ L.length + G.length + 1 := by
  unfold apL
  have h1 := gL_len G L
  have h2 := stL_len c L
  split
  · split <;> omega
  · omega
theorem apQ_len (c : Cal) (G : List Cal) (Q : List ByteArray) : (apQ c G Q).length ≤ Q.length + G.length + 1 := by
  unfold apQ
  have h1 := gQ_len G Q
  have h2 := stQ_len c Q
  split
  · split <;> omega
  · omega

end Go.Proofs.Ytimpigponjkfkaa
