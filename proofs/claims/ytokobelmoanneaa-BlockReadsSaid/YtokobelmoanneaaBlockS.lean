/-
    Proved here: where chapter 6's own Decode refuses bytes by their length or class; how a block's fields are set.
  Conditions: none.
-/
import Derived.Test.YtokobelmoanneaaBlockR
namespace Go.Proofs.Ytokobelmoanneaa
open Go Go.RowKit

theorem Box.setId {w : World} {p : Nat} {b : BV} (h : Box w p b) (v : Nat) : Box (w.setCell ⟨p, 2, none⟩ (.int .u64 (v : Nat))) p { b with id := v } := by
  unfold Box at h ⊢
  simp [World.setCell, Array.getElem?_modify, h]
theorem Box.setVer {w : World} {p : Nat} {b : BV} (h : Box w p b) (v : Nat) : Box (w.setCell ⟨p, 3, none⟩ (.int .u64 (v : Nat))) p { b with ver := v } := by
  unfold Box at h ⊢
  simp [World.setCell, Array.getElem?_modify, h]
theorem Box.setEp {w : World} {p : Nat} {b : BV} (h : Box w p b) (v : Nat) : Box (w.setCell ⟨p, 4, none⟩ (.int .u64 (v : Nat))) p { b with ep := v } := by
  unfold Box at h ⊢
  simp [World.setCell, Array.getElem?_modify, h]
theorem Box.setKey {w : World} {p : Nat} {b : BV} (h : Box w p b) (s : ByteArray) : Box (w.setCell ⟨p, 5, none⟩ (.string s)) p { b with key := s } := by
  unfold Box at h ⊢
  simp [World.setCell, Array.getElem?_modify, h]
theorem Box.setVal {w : World} {p : Nat} {b : BV} (h : Box w p b) (s : ByteArray) : Box (w.setCell ⟨p, 6, none⟩ (.string s)) p { b with val := s } := by
  unfold Box at h ⊢
  simp [World.setCell, Array.getElem?_modify, h]
theorem Box.frozen {w : World} {p : Nat} {b : BV} (h : Box w p b) (j : Nat) : w.frozen? ⟨p, j, none⟩ = false := by
  unfold Box at h
  simp [World.frozen?, h]
set_option maxHeartbeats 400000 in
set_option maxRecDepth 100000 in
theorem rdec_short (w : World) (A : Option Addr) (n c : Nat) (hn : n < 64) :
    Calls Try.prog 21 #[.slice A n c] w fun e w' => e = .returned (.tuple #[zeroBV.agg, .bool false]) ∧ Below w.heap.size w w' := by
  obtain ⟨p, hp⟩ : ∃ p, w.heap.size = p := ⟨_, rfl⟩
  have HP := Lib.hid hp
  have HZ := Lib.hid zero_block
  have hd : decide ((n : Int) < 64) = true := by simp; omega
  clear hp
  go_enter Try.func21, Try.ntmps21
  go_wp2_with (first
    | ((with_reducible show wpList _ _ _ (⟨some 2, .alloc _, _, _, _, _⟩ :: _) _ _); refine wpList_alloc_var (o := ⟨some 2, _, _, _, _, _⟩) rfl 24 rfl p HP.out _ HZ.out ?_; intro w1 HA1 HB1)
    | ((with_reducible show wpList _ _ _ (⟨none, .store _ _ _, _, _, _, _⟩ :: _) _ _); refine wpList_store_whole (o := ⟨none, .store 24 (.tmp 2) (.tmp 29), _, _, _, _⟩) rfl _ _ _ rfl rfl p zeroBV.cells.toArray rfl rfl 24 _ HA1.out size_block rfl (by decide +kernel) ?_; intro w6 HA6 HB6))
  refine bodyPost_ret (results_box rfl rfl rfl HA6.out) rfl ⟨rfl, ?_⟩
  rw [HP.out]
  exact HB1.out.trans HB6.out
set_option maxHeartbeats 400000 in
set_option maxRecDepth 100000 in
theorem rdec_nocl (w : World) (b off n c : Nat) (l : List UInt8) (hl : l.length = n) (hn : 64 ≤ n) (hr : Row w (some ⟨b, off, none⟩) l) (hc : 3 < clOf l) :
    Calls Try.prog 21 #[.slice (some ⟨b, off, none⟩) n c] w fun e w' => e = .returned (.tuple #[zeroBV.agg, .bool false]) ∧ Below w.heap.size w w' := by
  obtain ⟨p, hp⟩ : ∃ p, w.heap.size = p := ⟨_, rfl⟩
  have HP := Lib.hid hp
  have HZ := Lib.hid zero_block
  have hd : decide ((n : Int) < 64) = false := by simp; omega
  have hd3 : decide ((3 : Int) < (clOf l : Int)) = true := by simp; omega
  have HC1 : Hid (∀ W, Below p w W → W.cell? ⟨b, off + 1, none⟩ = some (.int .u8 (clOf l : Nat))) := fun W hW => by
    obtain ⟨b', off', e, _, h2⟩ := (hr.below (hp.symm ▸ hW)).2 (by omega)
    simp only [Option.some.injEq, Addr.mk.injEq, and_true] at e
    obtain ⟨rfl, rfl⟩ := e
    exact h2 1 (by omega)
  have hcl := UInt8.toNat_lt (l.getD 1 0)
  have hcl2 : clOf l < 256 := hcl
  generalize clOf l = cl at *
  have h1n : (1 : Int) < (n : Int) := by omega
  clear hp hl hr hc hcl
  go_enter Try.func21, Try.ntmps21
  go_wp2_with (first
    | ((with_reducible show wpList _ _ _ (⟨some 2, .alloc _, _, _, _, _⟩ :: _) _ _); refine wpList_alloc_var (o := ⟨some 2, _, _, _, _, _⟩) rfl 24 rfl p HP.out _ HZ.out ?_; intro w1 HA1 HB1; have hk1 := HC1.out _ HB1.out)
    | ((with_reducible show wpList _ _ _ (⟨none, .store _ _ _, _, _, _, _⟩ :: _) _ _); refine wpList_store_whole (o := ⟨none, .store 24 (.tmp 2) (.tmp 29), _, _, _, _⟩) rfl _ _ _ rfl rfl p zeroBV.cells.toArray rfl rfl 24 _ HA1.out size_block rfl (by decide +kernel) ?_; intro w6 HA6 HB6))
  refine bodyPost_ret (results_box rfl rfl rfl HA6.out) rfl ⟨rfl, ?_⟩
  rw [HP.out]
  exact HB1.out.trans HB6.out
set_option maxHeartbeats 400000 in
set_option maxRecDepth 100000 in
theorem rdec_nolen (w : World) (b off n c : Nat) (l : List UInt8) (hl : l.length = n) (hn : 64 ≤ n) (hr : Row w (some ⟨b, off, none⟩) l) (hc : clOf l ≤ 3) (hs : n ≠ 64 * spanN (clOf l)) :
    Calls Try.prog 21 #[.slice (some ⟨b, off, none⟩) n c] w fun e w' => e = .returned (.tuple #[zeroBV.agg, .bool false]) ∧ Below w.heap.size w w' := by
  obtain ⟨p, hp⟩ : ∃ p, w.heap.size = p := ⟨_, rfl⟩
  have HP := Lib.hid hp
  have HZ := Lib.hid zero_block
  have hd : decide ((n : Int) < 64) = false := by simp; omega
  have hd3 : decide ((3 : Int) < (clOf l : Int)) = false := by simp; omega
  have HC1 : Hid (∀ W, Below p w W → W.cell? ⟨b, off + 1, none⟩ = some (.int .u8 (clOf l : Nat))) := fun W hW => by
    obtain ⟨b', off', e, _, h2⟩ := (hr.below (hp.symm ▸ hW)).2 (by omega)
    simp only [Option.some.injEq, Addr.mk.injEq, and_true] at e
    obtain ⟨rfl, rfl⟩ := e
    exact h2 1 (by omega)
  have HSP := Lib.hid (fun W => rspan_any (clOf l : Nat) W)
  have hsc := spanN_cases (clOf l : Nat)
  have hs8 : spanN (clOf l : Nat) ≤ 8 := by omega
  have hne : ((n : Int) != 64 * (spanN (clOf l : Nat) : Int)) = true := by simp; omega
  have hcl2 : clOf l < 256 := by omega
  generalize spanN (clOf l : Nat) = s at *
  generalize clOf l = cl at *
  have h1n : (1 : Int) < (n : Int) := by omega
  clear hp hl hr hc hsc hs
  go_enter Try.func21, Try.ntmps21
  go_wp2_with (first
    | ((with_reducible show wpList _ _ _ (⟨some 2, .alloc _, _, _, _, _⟩ :: _) _ _); refine wpList_alloc_var (o := ⟨some 2, _, _, _, _, _⟩) rfl 24 rfl p HP.out _ HZ.out ?_; intro w1 HA1 HB1; have hk1 := HC1.out _ HB1.out)
    | (go_at_call 39; refine (HSP.out _).mono ?_; rintro e w' ⟨rfl, rfl⟩)
    | ((with_reducible show wpList _ _ _ (⟨none, .store _ _ _, _, _, _, _⟩ :: _) _ _); refine wpList_store_whole (o := ⟨none, .store 24 (.tmp 2) (.tmp 29), _, _, _, _⟩) rfl _ _ _ rfl rfl p zeroBV.cells.toArray rfl rfl 24 _ HA1.out size_block rfl (by decide +kernel) ?_; intro w6 HA6 HB6))
  refine bodyPost_ret (results_box rfl rfl rfl HA6.out) rfl ⟨rfl, ?_⟩
  rw [HP.out]
  exact HB1.out.trans HB6.out

end Go.Proofs.Ytokobelmoanneaa
