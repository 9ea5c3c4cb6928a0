/-
  Proved here: what a call does to a store, where it is no group; a group's calls one behind the other, as lists.
  Conditions: less than 10^6 pairs and texts.
-/
import Derived.Test.YtpmgnhijiodbaaaAScan15
namespace Go.Proofs.Ytpmgnhijiodbaaa
open Go Go.RowKit
set_option maxRecDepth 100000

/-! ### What a call does, where it is no group -/
def stL (x : Cal) (L : List Kv) : List Kv := if x.kd == 2 then setK L x.key x.val else if x.kd == 3 then delK L x.key else L
def stQ (x : Cal) (Q : List ByteArray) : List ByteArray := if x.kd == 4 then Q ++ [x.val] else if x.kd == 5 then Q.tail else Q
def fnd (x : Cal) (L : List Kv) (Q : List ByteArray) : Bool := if x.kd == 1 || x.kd == 2 || x.kd == 3 then hasK L x.key else if x.kd == 5 then anyQ Q else false
def vlu (x : Cal) (L : List Kv) (Q : List ByteArray) : ByteArray := if x.kd == 1 then valK L x.key else if x.kd == 5 then firstQ Q else ⟨#[]⟩
def prs (x : Cal) (L : List Kv) : List Kv := if x.kd == 6 then L.filter (inR x) else []
theorem stL_len (x : Cal) (L : List Kv) : (stL x L).length ≤ L.length + 1 := by
  unfold stL
  split
  · exact setK_len _ _ _
  · split
    · have := List.length_filter_le (fun y => !eqKv x.key y) L
      show (L.filter fun y => !eqKv x.key y).length ≤ _
      omega
    · omega
theorem stQ_len (x : Cal) (Q : List ByteArray) : (stQ x Q).length ≤ Q.length + 1 := by
  unfold stQ
  split
  · simp
  · split
    · simp; omega
    · omega
/-- The function of a kind: the place of its number behind the first. -/
theorem flat_any {w : World} {p : Nat} {v1 v2 : Value} {L : List Kv} {Q : List ByteArray} (h : Shm w p v1 v2 L Q) (hl : L.length + 1 < 1000000) (hq : Q.length + 1 < 1000000) (x : Cal) (k : Nat) (hk : k < 8) (h7 : k ≠ 6) (hx : x.kd = (k : Int) + 1) :
    Calls Try.prog (49 + k) #[.pointer (some ⟨p, 0, none⟩), .agg #[.int .i64 x.kd, .string x.key, .string x.val, .string x.to_, .slice x.ga x.gn x.gc]] w (ApTo w p v1 v2 (stL x L) (stQ x Q) (fnd x L Q) (vlu x L Q) (prs x L) []) := by
  have hc : k = 0 ∨ k = 1 ∨ k = 2 ∨ k = 3 ∨ k = 4 ∨ k = 5 ∨ k = 7 := by omega
  unfold stL stQ fnd vlu prs
  rw [hx]
  rcases hc with rfl | rfl | rfl | rfl | rfl | rfl | rfl
  · have := aget_any h x
    rw [hx] at this
    exact this
  · have := aput_any h hl x
    rw [hx] at this
    exact this
  · have := adel_any h x
    rw [hx] at this
    exact this
  · have := aenq_any h hq x
    rw [hx] at this
    exact this
  · have := adeq_any h x
    rw [hx] at this
    exact this
  · have := ascan_any h x
    rw [hx] at this
    exact this
  · have := async_any h x
    rw [hx] at this
    exact this
theorem flat_enter (k : Nat) (hk : k < 8) : ∀ args w, (callFunc (49 + k) args).run Try.prog w = .ok (.enter (49 + k) args) w := by
  have hc : k = 0 ∨ k = 1 ∨ k = 2 ∨ k = 3 ∨ k = 4 ∨ k = 5 ∨ k = 6 ∨ k = 7 := by omega
  rcases hc with rfl | rfl | rfl | rfl | rfl | rfl | rfl | rfl
  · exact enters_of Try.func49 (by kernel_rfl) rfl
  · exact enters_of Try.func50 (by kernel_rfl) rfl
  · exact enters_of Try.func51 (by kernel_rfl) rfl
  · exact enters_of Try.func52 (by kernel_rfl) rfl
  · exact enters_of Try.func53 (by kernel_rfl) rfl
  · exact enters_of Try.func54 (by kernel_rfl) rfl
  · exact enters_of Try.func55 (by kernel_rfl) rfl
  · exact enters_of Try.func56 (by kernel_rfl) rfl
/-! ### A group's calls, one behind the other -/
def gL (G : List Cal) (L : List Kv) : List Kv := G.foldl (fun L x => stL x L) L
def gQ (G : List Cal) (Q : List ByteArray) : List ByteArray := G.foldl (fun Q x => stQ x Q) Q
/-- The j-th hit. -/
def hitG (G : List Cal) (L : List Kv) (Q : List ByteArray) (j : Nat) : Bool := match G[j]? with
  | some x => fnd x (gL (G.take j) L) (gQ (G.take j) Q)
  | none => false
def hitsG (G : List Cal) (L : List Kv) (Q : List ByteArray) : List Bool := (List.range G.length).map (hitG G L Q)
/-- The hits, when i of them are known. -/
def hitsU (G : List Cal) (L : List Kv) (Q : List ByteArray) (i : Nat) : List Bool := (List.range G.length).map fun j => if j < i then hitG G L Q j else false
theorem gL_succ {G : List Cal} {L : List Kv} {i : Nat} {x : Cal} (h : G[i]? = some x) : gL (G.take (i + 1)) L = stL x (gL (G.take i) L) := by
  unfold gL
  rw [List.take_add_one, h, List.foldl_append]
  rfl
theorem gQ_succ {G : List Cal} {Q : List ByteArray} {i : Nat} {x : Cal} (h : G[i]? = some x) : gQ (G.take (i + 1)) Q = stQ x (gQ (G.take i) Q) := by
  unfold gQ
  rw [List.take_add_one, h, List.foldl_append]
  rfl
theorem gL_len (G : List Cal) (L : List Kv) : (gL G L).length ≤ L.length + G.length := by
  induction G generalizing L with
  | nil => exact Nat.le_refl _
  | cons x G ih =>
    have h1 := ih (stL x L)
    have h2 := stL_len x L
    show (gL G (stL x L)).length ≤ _
    simp only [List.length_cons]
    omega
theorem gQ_len (G : List Cal) (Q : List ByteArray) : (gQ G Q).length ≤ Q.length + G.length := by
  induction G generalizing Q with
  | nil => exact Nat.le_refl _
  | cons x G ih =>
    have h1 := ih (stQ x Q)
    have h2 := stQ_len x Q
    show (gQ G (stQ x Q)).length ≤ _
    simp only [List.length_cons]
    omega
theorem hitsU_len (G : List Cal) (L : List Kv) (Q : List ByteArray) (i : Nat) : (hitsU G L Q i).length = G.length := by simp [hitsU]
theorem hitsU_zero (G : List Cal) (L : List Kv) (Q : List ByteArray) : hitsU G L Q 0 = List.replicate G.length false := by
  unfold hitsU
  rw [List.eq_replicate_iff]
  exact ⟨by simp, fun b hb => by simp at hb; exact hb.2⟩
theorem hitsU_all (G : List Cal) (L : List Kv) (Q : List ByteArray) : hitsU G L Q G.length = hitsG G L Q := by
  unfold hitsU hitsG
  refine List.map_congr_left fun j hj => ?_
  rw [if_pos (List.mem_range.1 hj)]
theorem hitsU_succ {G : List Cal} {L : List Kv} {Q : List ByteArray} {i : Nat} {x : Cal} (h : G[i]? = some x) : (hitsU G L Q i).set i (fnd x (gL (G.take i) L) (gQ (G.take i) Q)) = hitsU G L Q (i + 1) := by
  have hh : hitG G L Q i = fnd x (gL (G.take i) L) (gQ (G.take i) Q) := by unfold hitG; rw [h]
  rw [← hh]
  apply List.ext_getElem?
  intro j
  unfold hitsU
  rw [List.getElem?_set]
  simp only [List.length_map, List.length_range, List.getElem?_map]
  have hi := (List.getElem?_eq_some_iff.1 h).1
  by_cases hj : i = j
  · subst hj
    rw [if_pos rfl, if_pos hi, List.getElem?_range hi]
    simp
  · rw [if_neg hj]
    rcases Nat.lt_or_ge j G.length with hl | hl
    · rw [List.getElem?_range hl]
      simp only [Option.map_some]
      congr 1
      by_cases h1 : j < i
      · rw [if_pos h1, if_pos (by omega)]
      · rw [if_neg h1, if_neg (by omega)]
    · rw [List.getElem?_eq_none (by simpa using hl)]
      rfl
theorem encB_rep (n : Nat) : RB.enc (List.replicate n false) = List.replicate n (.bool false) := by
  induction n with
  | zero => rfl
  | succ n ih =>
    rw [List.replicate_succ, Rec.enc_cons, ih]
    rfl
/-- A new row of n truths, all false. -/
theorem madeB (w : World) (n : Nat) (hn : n ≤ 1048576) : ∃ w1, (Instr.makeSlice 44 (.int .i64 (n : Int)) (.int .i64 (n : Int))).run Try.prog w = .ok (.slice (some ⟨w.heap.size, 0, none⟩) n n) w1 ∧
    w1.ownsRow w.heap.size RB.tE RB.k (.slice (some ⟨w.heap.size, 0, none⟩) n n) n (RB.enc (List.replicate n false)) ∧ Below w.heap.size w w1 := by
  obtain ⟨i, hi, hz, hs, hy⟩ := bool_info'
  have hmk := run_make (P := Try.prog) w 44 4 i _ Try.underlying44 hi hz .i64 .i64 (n : Int) (n : Int) (by omega) (by omega) (by rw [hy]; omega) (by omega)
  rw [Int.toNat_natCast, hs, Nat.mul_one] at hmk
  obtain ⟨cur, hcur⟩ : ∃ cur, madeCells (Value.cells (.bool false)) n = cur := ⟨_, rfl⟩
  have hcl : cur.toList = List.replicate n (.bool false) := by
    rw [← hcur]
    exact toList_madeCells_one (.bool false) n
  have henc := encB_rep n
  rw [hcur] at hmk
  refine ⟨_, hmk, ?_, (Below.refl _ _).alloc (Nat.le_refl _) _⟩
  refine Rec.block_own (R := RB) (cur := cur) ?_ (Nat.le_refl _) (by unfold maxLen; omega) ?_ ?_ (Nat.le_refl _)
  · show (w.heap.push _)[w.heap.size]? = _
    simp
    rfl
  · rw [← Array.length_toList, hcl]
    show _ = n * 1
    simp
  · rw [hcl, henc]
    show List.take (n * 1) _ = _
    simp

end Go.Proofs.Ytpmgnhijiodbaaa
