/-
    Proved here: how a block lies in a variable; what package block's read answers where it refuses.
  Conditions: rows of at most 2^30 bytes.
-/
import Derived.Test.YtokobelmoanneaaBlockH
namespace Go.Proofs.Ytokobelmoanneaa
open Go Go.RowKit

def zeroBV : BV := ⟨0, 0, 0, 0, 0, ⟨#[]⟩, ⟨#[]⟩⟩
theorem zero_block : (Try.prog.info? 24).bind (·.zero) = some zeroBV.agg := by kernel_rfl
theorem size_block : (Try.prog.info? 24).map (·.size) = some 7 := by kernel_rfl
def BV.cells (b : BV) : List Value := [.int .i64 b.cl, .int .i64 b.kd, .int .u64 (b.id : Nat), .int .u64 (b.ver : Nat), .int .u64 (b.ep : Nat), .string b.key, .string b.val]
theorem Box.range {w : World} {p : Nat} {b : BV} (h : Box w p b) : w.rangeAt p 0 b.cells := by
  intro j v hv
  rw [Nat.zero_add, h.cell j]
  simpa [BV.cells] using hv
theorem Box.load {w : World} {p : Nat} {b : BV} (h : Box w p b) : (loadVar 24 ⟨p, 0, none⟩).run Try.prog w = .ok b.agg w :=
  run_loadVar_mid (P := Try.prog) w p 0 24 b.cells _ h.range Try.underlying24 rfl size_block
/-- Two results, the first a block in a variable of its own. -/
theorem results_box {fn : Func} {t u : Tmp} (hf : fn.results = #[.cell t 24, .tmp u]) {tmps : Array Value} {g : Nat} (ht : tmps.getD t undef = .pointer (some ⟨g, 0, none⟩)) {v : Value} (hv : tmps.getD u undef = v) {w : World} {b : BV} (h : Box w g b) :
    (results fn tmps).run Try.prog w = .ok (.tuple #[b.agg, v]) w := by
  rw [results_cell_tmp hf, ht]
  have hl := h.load
  simp [asAddr, hl, hv, Result.andThen]
set_option maxHeartbeats 400000 in
set_option maxRecDepth 100000 in
theorem read_short (w : World) (A : Option Addr) (n c : Nat) (hn : n < 64) :
    Calls Try.prog 37 #[.slice A n c] w fun e w' => e = .returned (.tuple #[zeroBV.agg, .bool false]) ∧ Below w.heap.size w w' := by
  obtain ⟨p, hp⟩ : ∃ p, w.heap.size = p := ⟨_, rfl⟩
  have HP := Lib.hid hp
  have HZ := Lib.hid zero_block
  have hd : decide ((n : Int) < 64) = true := by simp; omega
  clear hp
  go_enter Try.func37, Try.ntmps37
  go_wp2_with (first
    | ((with_reducible show wpList _ _ _ (⟨some 2, .alloc _, _, _, _, _⟩ :: _) _ _); refine wpList_alloc_var (o := ⟨some 2, _, _, _, _, _⟩) rfl 24 rfl p HP.out _ HZ.out ?_; intro w1 HA1 HB1)
    | ((with_reducible show wpList _ _ _ (⟨none, .store _ _ _, _, _, _, _⟩ :: _) _ _); refine wpList_store_whole (o := ⟨none, .store 24 (.tmp 2) (.tmp 13), _, _, _, _⟩) rfl _ _ _ rfl rfl p zeroBV.cells.toArray rfl rfl 24 _ HA1.out size_block rfl (by decide +kernel) ?_; intro w6 HA6 HB6))
  refine bodyPost_ret (results_box rfl rfl rfl HA6.out) rfl ⟨rfl, ?_⟩
  rw [HP.out]
  exact HB1.out.trans HB6.out
theorem take_getD (l : List UInt8) (k n : Nat) (h : k < n) : (l.take n).getD k 0 = l.getD k 0 := by
  rw [List.getD, List.getD, List.getElem?_take_of_lt h]
theorem headR_yes {l : List UInt8} (h : isHead (l.take 64) = true) : headR (l.take 64) = .tuple #[.int .i64 (clOf l : Nat), .int .i64 (kdOf l : Nat), .bool true] := by
  rw [headR, if_pos h, clOf, kdOf, take_getD l 1 64 (by omega), take_getD l 2 64 (by omega)]
  rfl
theorem headR_no {l : List UInt8} (h : isHead l = false) : headR l = .tuple #[.int .i64 0, .int .i64 0, .bool false] := by
  rw [headR, if_neg (by rw [h]; decide)]
set_option maxHeartbeats 400000 in
set_option maxRecDepth 100000 in
theorem read_nohead (w : World) (b off n c : Nat) (l : List UInt8) (hl : l.length = n) (hn : 64 ≤ n) (hc : n ≤ c) (hr : Row w (some ⟨b, off, none⟩) l) (hh : isHead (l.take 64) = false) :
    Calls Try.prog 37 #[.slice (some ⟨b, off, none⟩) n c] w fun e w' => e = .returned (.tuple #[zeroBV.agg, .bool false]) ∧ Below w.heap.size w w' := by
  obtain ⟨p, hp⟩ : ∃ p, w.heap.size = p := ⟨_, rfl⟩
  have HP := Lib.hid hp
  have HZ := Lib.hid zero_block
  have HH : Hid (∀ W, Below p w W → Calls Try.prog 24 #[.slice (some ⟨b, off, none⟩) 64 c] W fun e w' => e = .returned (.tuple #[.int .i64 0, .int .i64 0, .bool false]) ∧ Below W.heap.size W w') := fun W hW => by
    have h1 := (hr.below (hp.symm ▸ hW)).part 0 64 (by omega)
    rw [List.drop_zero] at h1
    have h2 := head_any W (some ⟨b, off + 0, none⟩) 64 c (l.take 64) (by simp; omega) h1
    rw [headR_no hh] at h2
    exact h2
  have hd : decide ((n : Int) < 64) = false := by simp; omega
  have hc64 : 64 ≤ c := by omega
  clear hp hh hr hl
  go_enter Try.func37, Try.ntmps37
  go_wp2_with (first
    | ((with_reducible show wpList _ _ _ (⟨some 2, .alloc _, _, _, _, _⟩ :: _) _ _); refine wpList_alloc_var (o := ⟨some 2, _, _, _, _, _⟩) rfl 24 rfl p HP.out _ HZ.out ?_; intro w1 HA1 HB1)
    | (go_at_call 24; refine (HH.out _ HB1.out).mono ?_; rintro e w2 ⟨rfl, hb⟩; have HA2 := Lib.hid ((hb.block p (lt_of_heap HA1.out)).trans HA1.out); have HB2 : Hid (Below p w w2) := HB1.out.trans (hb.mono (Nat.le_of_lt (lt_of_heap HA1.out))); clear hb)
    | ((with_reducible show wpList _ _ _ (⟨none, .store _ _ _, _, _, _, _⟩ :: _) _ _); refine wpList_store_whole (o := ⟨none, .store 24 (.tmp 2) (.tmp 31), _, _, _, _⟩) rfl _ _ _ rfl rfl p zeroBV.cells.toArray rfl rfl 24 _ HA2.out size_block rfl (by decide +kernel) ?_; intro w6 HA6 HB6))
  refine bodyPost_ret (results_box rfl rfl rfl HA6.out) rfl ⟨rfl, ?_⟩
  rw [HP.out]
  exact HB2.out.trans HB6.out
set_option maxHeartbeats 400000 in
set_option maxRecDepth 100000 in
theorem read_nolen (w : World) (b off n c : Nat) (l : List UInt8) (hl : l.length = n) (hn : 64 ≤ n) (hc : n ≤ c) (hr : Row w (some ⟨b, off, none⟩) l) (hh : isHead (l.take 64) = true) (hs : n ≠ 64 * spanN (clOf l)) :
    Calls Try.prog 37 #[.slice (some ⟨b, off, none⟩) n c] w fun e w' => e = .returned (.tuple #[zeroBV.agg, .bool false]) ∧ Below w.heap.size w w' := by
  obtain ⟨p, hp⟩ : ∃ p, w.heap.size = p := ⟨_, rfl⟩
  have HP := Lib.hid hp
  have HZ := Lib.hid zero_block
  have HSP := Lib.hid (fun W => span_any (clOf l : Nat) W)
  have HH : Hid (∀ W, Below p w W → Calls Try.prog 24 #[.slice (some ⟨b, off, none⟩) 64 c] W fun e w' => e = .returned (.tuple #[.int .i64 (clOf l : Nat), .int .i64 (kdOf l : Nat), .bool true]) ∧ Below W.heap.size W w') := fun W hW => by
    have h1 := (hr.below (hp.symm ▸ hW)).part 0 64 (by omega)
    rw [List.drop_zero] at h1
    have h2 := head_any W (some ⟨b, off + 0, none⟩) 64 c (l.take 64) (by simp; omega) h1
    rw [headR_yes hh] at h2
    exact h2
  have hd : decide ((n : Int) < 64) = false := by simp; omega
  have hc64 : 64 ≤ c := by omega
  have hsc := spanN_cases (clOf l : Nat)
  have hne : ((n : Int) != (spanN (clOf l : Nat) : Int) * 64) = true := by simp; omega
  have hs8 : spanN (clOf l : Nat) ≤ 8 := by omega
  generalize spanN (clOf l : Nat) = s at *
  generalize clOf l = cl at *
  generalize kdOf l = kd at *
  clear hp hh hr hl hsc hs
  go_enter Try.func37, Try.ntmps37
  go_wp2_with (first
    | ((with_reducible show wpList _ _ _ (⟨some 2, .alloc _, _, _, _, _⟩ :: _) _ _); refine wpList_alloc_var (o := ⟨some 2, _, _, _, _, _⟩) rfl 24 rfl p HP.out _ HZ.out ?_; intro w1 HA1 HB1)
    | (go_at_call 24; refine (HH.out _ HB1.out).mono ?_; rintro e w2 ⟨rfl, hb⟩; have HA2 := Lib.hid ((hb.block p (lt_of_heap HA1.out)).trans HA1.out); have HB2 : Hid (Below p w w2) := HB1.out.trans (hb.mono (Nat.le_of_lt (lt_of_heap HA1.out))); clear hb)
    | (go_at_call 43; refine (HSP.out _).mono ?_; rintro e w' ⟨rfl, rfl⟩)
    | ((with_reducible show wpList _ _ _ (⟨none, .store _ _ _, _, _, _, _⟩ :: _) _ _); refine wpList_store_whole (o := ⟨none, .store 24 (.tmp 2) (.tmp 31), _, _, _, _⟩) rfl _ _ _ rfl rfl p zeroBV.cells.toArray rfl rfl 24 _ HA2.out size_block rfl (by decide +kernel) ?_; intro w6 HA6 HB6))
  refine bodyPost_ret (results_box rfl rfl rfl HA6.out) rfl ⟨rfl, ?_⟩
  rw [HP.out]
  exact HB2.out.trans HB6.out

end Go.Proofs.Ytokobelmoanneaa
