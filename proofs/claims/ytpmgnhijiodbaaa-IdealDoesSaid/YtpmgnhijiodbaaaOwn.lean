/-
  Proved here: facts on rows of bytes that the call itself has made: a new row of noughts, a row written out, one byte put behind a row.
  Conditions: rows of at most 2^30 bytes.
-/
import Derived.Test.YtpmgnhijiodbaaaLent
import Derived.Laws.CopyOwn
namespace Go.Proofs.Ytpmgnhijiodbaaa
open Go.RowKit
set_option maxRecDepth 100000

theorem byte_size : (Try.prog.info? 5).map (·.size) = some 1 := by kernel_rfl
theorem own_alloc {w : World} {base size n : Nat} {e : TypeId} {v : Value} {xs : List Value} (h : w.ownsRow base e size v n xs) (o : Obj) : (w.alloc o).ownsRow base e size v n xs := by
  refine ⟨h.1, ?_⟩
  rcases h.2 with h2 | ⟨g, cap, cur, h1, h2, h3, h4⟩
  · exact .inl h2
  · refine .inr ⟨g, cap, cur, h1, h2, ?_, h4⟩
    have hlt : g < w.heap.size := by
      rcases Nat.lt_or_ge g w.heap.size with hlt | hge
      · exact hlt
      · rw [Array.getElem?_eq_none hge] at h3
        cases h3
    rw [Below.heap_alloc _ _ _ hlt]
    exact h3
theorem own_ge {w : World} {base size n : Nat} {e : TypeId} {v : Value} {xs : List Value} (h : w.ownsRow base e size v n xs) : ∀ k, v.ownBlock = some k → base ≤ k := by
  intro k hk
  rcases h.2 with ⟨rfl, _⟩ | ⟨g, cap, cur, rfl, h2, _⟩
  · cases hk
  · simp only [Value.ownBlock, Option.some.injEq] at hk
    omega

theorem own_mono {w : World} {base base' size n : Nat} {e : TypeId} {v : Value} {xs : List Value} (h : w.ownsRow base e size v n xs) (hb : base' ≤ base) : w.ownsRow base' e size v n xs :=
  ⟨h.1, h.2.imp id fun ⟨g, cap, cur, h1, h2, h3⟩ => ⟨g, cap, cur, h1, Nat.le_trans hb h2, h3⟩⟩

theorem lt_of_heap {w : World} {g : Nat} {o : Obj} (h : w.heap[g]? = some o) : g < w.heap.size := by
  rcases Nat.lt_or_ge g w.heap.size with hlt | hge
  · exact hlt
  · rw [Array.getElem?_eq_none hge] at h
    cases h
theorem own_keep {w w' : World} {base size n : Nat} {e : TypeId} {v : Value} {xs : List Value} (h : w.ownsRow base e size v n xs) (hb : Below w.heap.size w w') : w'.ownsRow base e size v n xs := by
  refine ⟨h.1, h.2.imp id fun ⟨g, cap, cur, h1, h2, h3, h4⟩ => ⟨g, cap, cur, h1, h2, (hb.block g (lt_of_heap h3)).trans h3, h4⟩⟩

/-- What lies at A, where there is any, are the bytes l. -/
def Feeds (w : World) (A : Option Addr) (l : List UInt8) : Prop := 0 < l.length → ∃ ad, A = some ad ∧ ∀ j u, (enc l)[j]? = some u → w.cell? (ad.add j) = some u

theorem blk_own {w : World} {g n : Nat} {r : List UInt8} (h : Blk w g (enc r)) (hr : r.length = n) (hn : n ≤ 1073741824) : w.ownsRow g 5 1 (.slice (some ⟨g, 0, none⟩) n n) n (enc r) := by
  refine ⟨by rw [enc_len]; omega, .inr ⟨g, n, _, rfl, Nat.le_refl _, h, Nat.le_refl _, by unfold maxLen; omega, by simp [enc_len, hr], by rw [Nat.mul_one]; exact List.take_of_length_le (by rw [enc_len]; omega)⟩⟩

theorem row_lit (w : World) (l : List UInt8) (hl : l.length ≤ 1073741824) : Row (w.alloc (.cells (enc l).toArray 5)) (some ⟨w.heap.size, 0, none⟩) l := by
  refine ⟨hl, fun _ => ⟨w.heap.size, 0, rfl, by simp, fun k hk => ?_⟩⟩
  rw [Nat.zero_add]
  simp [enc_at l k hk]

theorem Blk.row {w : World} {g : Nat} {l : List UInt8} (h : Blk w g (enc l)) (hl : l.length ≤ 1073741824) : Row w (some ⟨g, 0, none⟩) l :=
  ⟨hl, fun _ => ⟨g, 0, rfl, Blk.lt h, fun k hk => by rw [Nat.zero_add, Blk.cell h, enc_at l k hk]⟩⟩

end Go.Proofs.Ytpmgnhijiodbaaa
