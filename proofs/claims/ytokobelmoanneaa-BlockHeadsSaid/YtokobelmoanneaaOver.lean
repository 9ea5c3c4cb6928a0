/-
  Proved here: what the statements' own OverBytes does.
  Conditions: rows of fewer than 2^30 bytes.
-/
import Derived.Test.YtokobelmoanneaaNum
namespace Go.Proofs.Ytokobelmoanneaa
open Go.RowKit

set_option maxHeartbeats 400000 in
theorem over_nil (w : World) (B : Nat) (hB : B ≤ w.heap.size) :
    Calls Try.prog 28 #[.slice none 0 0] w fun e w' => e = .returned (.tuple #[]) ∧ Below B w w' := by
  obtain ⟨V', w', hrun, ho', hb'⟩ := run_app_one w B (.slice none 0 0) [] 90 (World.ownsRow_nil _ _ _ _) (by simp) hB
  have HRUN : Hid (Sem.run Try.prog (Builtin.append_ #[27, 27] 27 #[.slice none 0 0, .slice (some ⟨w.heap.size, 0, none⟩) 1 1]) (w.alloc (.cells #[.int .u8 90] 5)) = .ok V' w') := hrun
  have HB' := Lib.hid hb'
  clear hrun ho' hb'
  go_enter Try.func28, Try.ntmps28
  go_wp2
  go_loopg [2] 0 (fun gk s2 wx => gk = 0 ∧ s2 = .int .i64 0 ∧ w = wx)
  case atStart => exact ⟨rfl, rfl, rfl⟩
  case round =>
    obtain ⟨rfl, rfl, rfl⟩ := hrel
    go_wp2_with (at_builtin; refine wpList_app rfl (.tmp 17) (.tmp 18) 27 rfl rfl rfl HRUN.out ?_)
    refine bodyPost_end (results_none rfl _ _ _) rfl ?_
    exact ⟨rfl, HB'.out⟩

set_option maxHeartbeats 800000 in
theorem over_row (w : World) (B g n cap : Nat) (r : List UInt8) (hr : r.length = n) (hn : n < 1073741824) (h : w.ownsRow B 5 1 (.slice (some ⟨g, 0, none⟩) n cap) n (enc r)) (hB : B ≤ w.heap.size) (hg : B ≤ g) :
    Calls Try.prog 28 #[.slice (some ⟨g, 0, none⟩) n cap] w fun e w' => e = .returned (.tuple #[]) ∧ Below B w w' := by
  have HO0 := Lib.hid h
  have HR := Lib.hid hr
  clear h hr
  go_enter Try.func28, Try.ntmps28
  go_wp2
  go_loopg [2] n (fun gk s2 wx => ∃ (i : Nat) (q : List UInt8), i + gk = n ∧ s2 = .int .i64 i ∧ Hid (q.length = n) ∧ Hid (wx.ownsRow B 5 1 (.slice (some ⟨g, 0, none⟩) n cap) n (enc q)) ∧ Hid (Below B w wx))
  case atStart => exact ⟨0, r, by omega, rfl, HR, HO0, Below.refl _ _⟩
  case round =>
    obtain ⟨i, q, hin, rfl, HQ, HO, HW⟩ := hrel
    cases gk with
    | zero =>
      obtain rfl : i = n := by omega
      have hii : ¬ (i : Int) < (i : Int) := by omega
      obtain ⟨V', w', hrun, _, hb'⟩ := run_app_one wr B (.slice (some ⟨g, 0, none⟩) i cap) q 90 (by rw [HQ.out]; exact HO.out) (by have := HQ.out; omega) (Nat.le_trans hB HW.out.size)
      have HRUN : Hid (Sem.run Try.prog (Builtin.append_ #[27, 27] 27 #[.slice (some ⟨g, 0, none⟩) i cap, .slice (some ⟨wr.heap.size, 0, none⟩) 1 1]) (wr.alloc (.cells #[.int .u8 90] 5)) = .ok V' w') := hrun
      have HB' := Lib.hid hb'
      clear hrun hb'
      go_wp2_with (at_builtin; refine wpList_app rfl (.tmp 17) (.tmp 18) 27 rfl rfl rfl HRUN.out ?_)
      refine bodyPost_end (results_none rfl _ _ _) rfl ?_
      exact ⟨rfl, HW.out.trans HB'.out⟩
    | succ gk =>
      have hii : (i : Int) < (n : Int) := by omega
      have hcell := HO.out.cellAt i (by omega)
      rw [enc_at _ _ (by have := HQ.out; omega)] at hcell
      have hfr := HO.out.frozenAt i
      have hx := UInt8.toNat_lt (q.getD i 0)
      obtain ⟨x, hxe⟩ : ∃ x, (q.getD i 0).toNat = x := ⟨_, rfl⟩
      rw [hxe] at hcell hx
      have hxor := u8_xor_nat x 255 hx (by omega)
      have hrl : x ^^^ 255 < 256 := Nat.xor_lt_two_pow (n := 8) (by omega) (by omega)
      obtain ⟨y, hye⟩ : ∃ y, x ^^^ 255 = y := ⟨_, rfl⟩
      rw [hye] at hxor hrl
      have hxor2 : bits .xor .u8 (x : Int) 255 = (y : Int) := hxor
      have hst := (HO.out.stored i (.int .u8 (y : Int))).1
      rw [enc_set _ _ _ hrl] at hst
      have HST := Lib.hid hst
      have HQ2 : Hid ((q.set i (UInt8.ofNat y)).length = n) := by show _ = _; rw [List.length_set]; exact HQ.out
      clear hst hxor hxe hye
      go_wp2
      go_roundg gk
      case measure => omega
      case rel => exact ⟨i + 1, _, by omega, by go_num, HQ2, HST, HW.out.setCell hg _⟩

end Go.Proofs.Ytokobelmoanneaa
