/-
  Proved here: facts on rows of bytes that the call itself has made: a new row of noughts, a row written out, one byte put behind a row.
  Conditions: rows of at most 2^30 bytes.
-/
import Derived.Test.YtimpigponjkfkaaLent
import Derived.Laws.CopyOwn
namespace Go.Proofs.Ytimpigponjkfkaa
open Go.RowKit
set_option maxRecDepth 100000

theorem byte_size : (Try.prog.info? 5).map (·.size) = some 1 := by kernel_rfl
/-- A new row of n noughts. -/
theorem made (w : World) (n : Nat) (hn : n ≤ 1073741824) : ∃ w1, (Instr.makeSlice 67 (.int .i64 (n : Int)) (.int .i64 (n : Int))).run Try.prog w = .ok (.slice (some ⟨w.heap.size, 0, none⟩) n n) w1 ∧
    Blk w1 w.heap.size (List.replicate n (z8 0)) ∧ Below w.heap.size w w1 := by
  obtain ⟨i, hi, hz, hs, hy⟩ : ∃ i, Try.prog.info? 5 = some i ∧ i.zero = some (.int .u8 0) ∧ i.size = 1 ∧ i.bytes = 1 := by
    obtain ⟨i, h1, h2⟩ := Option.map_eq_some_iff.1 byte_info
    simp only [Prod.mk.injEq] at h2
    exact ⟨i, h1, h2.1, h2.2.1, h2.2.2⟩
  have hmk := run_make (P := Try.prog) w 67 5 i _ Try.underlying67 hi hz .i64 .i64 (n : Int) (n : Int) (by omega) (by omega) (by rw [hy]; omega) (by omega)
  rw [Int.toNat_natCast, hs, Nat.mul_one] at hmk
  obtain ⟨cur, hcur⟩ : ∃ cur, madeCells (Value.cells (.int .u8 0)) n = cur := ⟨_, rfl⟩
  have hcl : cur.toList = List.replicate n (z8 0) := by
    rw [← hcur]
    exact toList_madeCells_one (.int .u8 0) n
  rw [hcur] at hmk
  refine ⟨_, hmk, ?_, (Below.refl _ _).alloc (Nat.le_refl _) _⟩
  unfold Blk
  rw [← hcl]
  show (w.heap.push _)[w.heap.size]? = _
  simp

theorem own_alloc {w : World} {base size n : Nat} {e : TypeId} {v : Value} {xs : List Value} (h : w.ownsRow base e size v n xs) (o : Obj) : (w.alloc o).ownsRow base e size v n xs := by
  refine ⟨h.1, ?_⟩
  rcases h.2 with h2 | ⟨g, cap, cur, h1, h2, h3, h4⟩
  · exact .inl h2
  · refine .inr ⟨g, cap, cur, h1, h2, ?_, h4⟩
    have hlt : g < w.heap.size := by
      rcases Nat.lt_or_ge g w.heap.size with hlt | hge
      · exact hlt
      · rw [Array.getElem?_eq_none hge] at h3
        cases h3
    rw [Below.heap_alloc _ _ _ hlt]
    exact h3
theorem own_ge {w : World} {base size n : Nat} {e : TypeId} {v : Value} {xs : List Value} (h : w.ownsRow base e size v n xs) : ∀ k, v.ownBlock = some k → base ≤ k := by
  intro k hk
  rcases h.2 with ⟨rfl, _⟩ | ⟨g, cap, cur, rfl, h2, _⟩
  · cases hk
  · simp only [Value.ownBlock, Option.some.injEq] at hk
    omega

theorem own_mono {w : World} {base base' size n : Nat} {e : TypeId} {v : Value} {xs : List Value} (h : w.ownsRow base e size v n xs) (hb : base' ≤ base) : w.ownsRow base' e size v n xs :=
  ⟨h.1, h.2.imp id fun ⟨g, cap, cur, h1, h2, h3⟩ => ⟨g, cap, cur, h1, Nat.le_trans hb h2, h3⟩⟩

theorem lt_of_heap {w : World} {g : Nat} {o : Obj} (h : w.heap[g]? = some o) : g < w.heap.size := by
  rcases Nat.lt_or_ge g w.heap.size with hlt | hge
  · exact hlt
  · rw [Array.getElem?_eq_none hge] at h
    cases h
theorem own_keep {w w' : World} {base size n : Nat} {e : TypeId} {v : Value} {xs : List Value} (h : w.ownsRow base e size v n xs) (hb : Below w.heap.size w w') : w'.ownsRow base e size v n xs := by
  refine ⟨h.1, h.2.imp id fun ⟨g, cap, cur, h1, h2, h3, h4⟩ => ⟨g, cap, cur, h1, h2, (hb.block g (lt_of_heap h3)).trans h3, h4⟩⟩

/-- One byte put behind a row that the call made. -/
theorem run_app_one (w : World) (base : Nat) (v : Value) (l : List UInt8) (x : UInt8) (hown : w.ownsRow base 5 1 v l.length (enc l)) (hl : l.length < 1073741824) (hbase : base ≤ w.heap.size) :
    ∃ v' w', (Builtin.append_ #[67, 67] 67 #[v, .slice (some ⟨w.heap.size, 0, none⟩) 1 1]).run Try.prog (w.alloc (.cells #[.int .u8 (x.toNat : Nat)] 5)) = .ok v' w' ∧ w'.ownsRow base 5 1 v' (l.length + 1) (enc (l ++ [x])) ∧ Below base w w' := by
  obtain ⟨v', w', h1, h2, h3, _⟩ := run_app (w.alloc (.cells #[.int .u8 (x.toNat : Nat)] 5)) base l.length v (enc l) (own_alloc hown _) (some ⟨w.heap.size, 0, none⟩) 1 1 [x] rfl (row_one w x) (by intro h; cases h) (by omega) (by simp; omega)
  refine ⟨v', w', h1, by rw [← enc_append]; exact h2, ?_⟩
  exact ((Below.refl _ _).alloc hbase _).grown h3 (by simp; omega) (own_ge hown)

/-- What lies at A, where there is any, are the bytes l. -/
def Feeds (w : World) (A : Option Addr) (l : List UInt8) : Prop := 0 < l.length → ∃ ad, A = some ad ∧ ∀ j u, (enc l)[j]? = some u → w.cell? (ad.add j) = some u

theorem blk_own {w : World} {g n : Nat} {r : List UInt8} (h : Blk w g (enc r)) (hr : r.length = n) (hn : n ≤ 1073741824) : w.ownsRow g 5 1 (.slice (some ⟨g, 0, none⟩) n n) n (enc r) := by
  refine ⟨by rw [enc_len]; omega, .inr ⟨g, n, _, rfl, Nat.le_refl _, h, Nat.le_refl _, by unfold maxLen; omega, by simp [enc_len, hr], by rw [Nat.mul_one]; exact List.take_of_length_le (by rw [enc_len]; omega)⟩⟩

theorem row_lit (w : World) (l : List UInt8) (hl : l.length ≤ 1073741824) : Row (w.alloc (.cells (enc l).toArray 5)) (some ⟨w.heap.size, 0, none⟩) l := by
  refine ⟨hl, fun _ => ⟨w.heap.size, 0, rfl, by simp, fun k hk => ?_⟩⟩
  rw [Nat.zero_add]
  simp [enc_at l k hk]

theorem Blk.row {w : World} {g : Nat} {l : List UInt8} (h : Blk w g (enc l)) (hl : l.length ≤ 1073741824) : Row w (some ⟨g, 0, none⟩) l :=
  ⟨hl, fun _ => ⟨g, 0, rfl, Blk.lt h, fun k hk => by rw [Nat.zero_add, Blk.cell h, enc_at l k hk]⟩⟩

end Go.Proofs.Ytimpigponjkfkaa
