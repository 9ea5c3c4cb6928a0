/-
    Proved here: what package block's dataOf answers.
  Conditions: rows of 64 to 512 bytes.
-/
import Derived.Test.YtokobelmoanneaaBlockG
namespace Go.Proofs.Ytokobelmoanneaa
open Go Go.RowKit

theorem Row.part {w : World} {b off : Nat} {l : List UInt8} (h : Row w (some ⟨b, off, none⟩) l) (a k : Nat) (hk : a + k ≤ l.length) : Row w (some ⟨b, off + a, none⟩) ((l.drop a).take k) := by
  have hlen : ((l.drop a).take k).length = k := by simp; omega
  refine ⟨by have := h.1; omega, fun hp => ?_⟩
  rw [hlen] at hp ⊢
  obtain ⟨b', off', e, hlt, hc⟩ := h.2 (by omega)
  simp only [Option.some.injEq, Addr.mk.injEq, and_true] at e
  obtain ⟨rfl, rfl⟩ := e
  refine ⟨_, _, rfl, hlt, fun j hj => ?_⟩
  rw [Nat.add_assoc, hc (a + j) (by omega)]
  simp [List.getD, List.getElem?_take_of_lt hj, List.getElem?_drop]
theorem dataOfL_next (m i : Nat) (l : List UInt8) (_ : i < m) : dataOfL i l ++ (l.drop (64 + 64 * i + 1)).take 63 = dataOfL (i + 1) l := by
  rw [dataOfL, dataOfL, untags_snoc, List.drop_drop, List.append_assoc, ← Nat.add_assoc]
theorem dataOfL_lenLe {i : Nat} {l : List UInt8} (h : 64 * (i + 1) ≤ l.length) : (dataOfL i l).length = 28 + 63 * i := by
  induction i with
  | zero => simp [dataOfL, untags]; omega
  | succ i ih =>
    rw [← dataOfL_next (i + 1) i l (by omega), List.length_append, ih (by omega), List.length_take, List.length_drop]
    omega
set_option maxHeartbeats 800000 in
theorem dataof_any (w : World) (b off n c m : Nat) (l : List UInt8) (hl : l.length = n) (hc : n ≤ c) (hn : n = 64 * (m + 1)) (hm : m ≤ 7) (hr : Row w (some ⟨b, off, none⟩) l) :
    Calls Try.prog 53 #[.slice (some ⟨b, off, none⟩) n c] w (RowTo w (dataOfL m l)) := by
  have HCL := Lib.hid (clone_any w ⟨b, off + 36, none⟩ 28 (c - 36) ((l.drop 36).take 28) (by simp; omega) (hr.part 36 28 (by omega)))
  have HD0 : Hid ((l.drop 36).take 28 = dataOfL 0 l) := (by show _ = _; simp [dataOfL, untags])
  have HL := Lib.hid hl
  have HR := Lib.hid hr
  have HN := Lib.hid hn
  have h64 : 64 ≤ n := by omega
  have hc64 : 64 ≤ c := by omega
  have hc36 : ¬ c = 36 := by omega
  have hn512 : n ≤ 512 := by omega
  obtain ⟨q, hq⟩ : ∃ q, w.heap.size = q := ⟨_, rfl⟩
  have HQ := Lib.hid hq
  clear hl hr hn hq
  go_enter Try.func53, Try.ntmps53
  go_wp2_with fail
  refine HCL.out.mono ?_
  rintro e w1 ⟨V, rfl, hown, hb⟩
  have HO : Hid (w1.ownsRow q 5 1 V (28 + 63 * 0) (enc (dataOfL 0 l))) := (by
    have h1 := hown
    rw [HD0.out, dataOfL_lenLe (by rw [HL.out]; omega), HQ.out] at h1
    exact h1)
  have HB : Hid (Below q w w1) := HQ.out ▸ hb
  clear hown hb HCL
  go_wp2
  go_loopg [3, 4] m (fun gk s3 s4 wx => ∃ (i : Nat) (V' : Value), i + gk = m ∧ V' = s3 ∧ s4 = .int .i64 ((64 + 64 * i : Nat) : Int) ∧ Hid (wx.ownsRow q 5 1 V' (28 + 63 * i) (enc (dataOfL i l))) ∧ Hid (Below q w wx))
  case atStart => exact ⟨0, V, by omega, rfl, rfl, HO, HB⟩
  case round =>
    obtain ⟨i, V', hik, rfl, rfl, HO', HB'⟩ := hrel
    cases gk with
    | zero =>
      obtain rfl : i = m := by omega
      have hcd : ¬ ((64 + 64 * i : Nat) : Int) < (n : Int) := by have := HN.out; omega
      go_wp2
      go_ret
      exact ⟨V', rfl, by rw [HQ.out, dataOfL_lenLe (by rw [HL.out, HN.out]; omega)]; exact HO'.out, by rw [HQ.out]; exact HB'.out⟩
    | succ gk =>
      obtain ⟨a, ha⟩ : ∃ a, 64 + 64 * i = a := ⟨_, rfl⟩
      have haN : a + 64 ≤ n := by have := HN.out; omega
      have hcd : (a : Int) < (n : Int) := by omega
      have hca : ¬ c = a + 1 := by omega
      have hrow : Row wr (some ⟨b, off + (a + 1), none⟩) ((l.drop (a + 1)).take 63) := (HR.out.below (HQ.out ▸ HB'.out)).part (a + 1) 63 (by rw [HL.out]; omega)
      obtain ⟨V2, x2, hrun, hown, hbel⟩ := run_app_below wr q (28 + 63 * i) V' _ HO'.out (some ⟨b, off + (a + 1), none⟩) 63 (c - (a + 1)) _ (by rw [List.length_take, List.length_drop, HL.out]; omega) hrow (by intro h; cases h) (by omega) (HQ.out ▸ HB'.out.size)
      rw [← ha, enc_append, dataOfL_next m i l (by omega)] at hown
      have HR1 : Hid ((Builtin.append_ #[27, 27] 27 #[V', .slice (some ⟨b, off + (a + 1), none⟩) (a + 64 - (a + 1)) (c - (a + 1))]).run Try.prog wr = .ok V2 x2) := (by show _ = _; rw [show a + 64 - (a + 1) = 63 by omega]; exact hrun)
      have HO2 : Hid (x2.ownsRow q 5 1 V2 (28 + 63 * (i + 1)) (enc (dataOfL (i + 1) l))) := (by have h1 := hown; rw [show 28 + 63 * i + 63 = 28 + 63 * (i + 1) by omega] at h1; exact h1)
      have HB2 : Hid (Below q w x2) := HB'.out.trans hbel
      have HAI := Lib.hid ha
      rw [ha]
      clear hrun hown hbel hrow ha
      go_wp2_with (at_builtin; refine wpList_app rfl (.tmp 14) (.tmp 20) 27 rfl rfl rfl HR1.out ?_)
      go_roundg gk
      case measure => omega
      case rel => exact ⟨i + 1, V2, by omega, rfl, by rw [← HAI.out]; go_num, HO2, HB2⟩

end Go.Proofs.Ytokobelmoanneaa
