/-
    Proved here: what package block's head answers.
  Conditions: a block that may be.
-/
import Derived.Test.YtokobelmoanneaaBlockD
namespace Go.Proofs.Ytokobelmoanneaa
open Go Go.RowKit

def pad36 (pre : List UInt8) : List UInt8 := pre ++ List.replicate (36 - pre.length) 0
theorem pad36_splice (pre ys : List UInt8) : splice (pad36 pre) pre.length ys = pad36 (pre ++ ys) := by
  rw [pad36, splice_pre, pad36, List.drop_replicate, List.length_append, Nat.sub_sub]
def head4 (b : BV) : List UInt8 := [1, UInt8.ofNat b.cl.toNat, UInt8.ofNat b.kd.toNat, UInt8.ofNat b.K.length]
theorem head4_set (b : BV) : ((((List.replicate 36 (0 : UInt8)).set 0 1).set 1 (UInt8.ofNat b.cl.toNat)).set 2 (UInt8.ofNat b.kd.toNat)).set 3 (UInt8.ofNat b.K.length) = pad36 (head4 b) := rfl
set_option maxHeartbeats 1600000 in
set_option maxRecDepth 100000 in
theorem bhead_any (b : BV) (ho : b.ok) (hm : mayB b = true) (A : Option Addr) (c : Nat) (w : World) (hr : Row w A (roomL b)) :
    Calls Try.prog 35 #[b.agg, .slice A (28 + 63 * restN b.cl) c] w (BlkTo w 36 (headL b ++ lay 4 (addS 0 (headL b ++ roomL b)))) := by
  obtain ⟨hks, hvs, _⟩ := mayB_sizes hm
  have hcl := mayB_cl hm
  have hkd := mayB_kd hm
  have hrl := roomL_len hm
  have hrn := restN_le b.cl
  obtain ⟨w0, hw0⟩ : ∃ w0, w.alloc (.cells #[.int .i64 b.cl, .int .i64 b.kd, .int .u64 (b.id : Nat), .int .u64 (b.ver : Nat), .int .u64 (b.ep : Nat), .string b.key, .string b.val] 24) = w0 := ⟨_, rfl⟩
  have hbw0 : Below w.heap.size w w0 := by rw [← hw0]; exact (Below.refl _ _).alloc (Nat.le_refl _) _
  obtain ⟨w1, hmk, hblk, hbel⟩ := made w0 36 (by omega)
  obtain ⟨p, hp⟩ : ∃ p, w.heap.size = p := ⟨_, rfl⟩
  obtain ⟨g, hg⟩ : ∃ g, w0.heap.size = g := ⟨_, rfl⟩
  have hpg : p < g := by rw [← hp, ← hg, ← hw0]; simp
  rw [hg, show ((36 : Nat) : Int) = 36 from rfl] at hmk
  rw [hg] at hblk hbel
  have hz : List.replicate 36 (z8 0) = enc (List.replicate 36 0) := by simp [enc, z8]
  rw [hz] at hblk
  -- the rows, step by step
  have hpre4 : (head4 b).length = 4 := rfl
  have hp1 : splice (pad36 (head4 b)) 4 (lay 2 b.val.size) = pad36 (head4 b ++ lay 2 b.val.size ++ [0, 0]) := by
    have := pad36_splice (head4 b) (lay 2 b.val.size)
    rw [hpre4] at this
    rw [this]
    simp [pad36, lay_len, hpre4]
  have hp2 : splice (pad36 (head4 b ++ lay 2 b.val.size ++ [0, 0])) 8 (lay 8 b.id) = pad36 (head4 b ++ lay 2 b.val.size ++ [0, 0] ++ lay 8 b.id) := by
    have := pad36_splice (head4 b ++ lay 2 b.val.size ++ [0, 0]) (lay 8 b.id)
    rw [show (head4 b ++ lay 2 b.val.size ++ [0, 0] : List UInt8).length = 8 by simp [lay_len, hpre4]] at this
    exact this
  have hp3 : splice (pad36 (head4 b ++ lay 2 b.val.size ++ [0, 0] ++ lay 8 b.id)) 16 (lay 8 b.ver) = pad36 (head4 b ++ lay 2 b.val.size ++ [0, 0] ++ lay 8 b.id ++ lay 8 b.ver) := by
    have := pad36_splice (head4 b ++ lay 2 b.val.size ++ [0, 0] ++ lay 8 b.id) (lay 8 b.ver)
    rw [show (head4 b ++ lay 2 b.val.size ++ [0, 0] ++ lay 8 b.id : List UInt8).length = 16 by simp [lay_len, hpre4]] at this
    exact this
  have hhd : head4 b ++ lay 2 b.val.size ++ [0, 0] ++ lay 8 b.id ++ lay 8 b.ver ++ lay 8 b.ep = headL b := by
    rw [headL, V_len]
    simp [head4]
  have hp4 : splice (pad36 (head4 b ++ lay 2 b.val.size ++ [0, 0] ++ lay 8 b.id ++ lay 8 b.ver)) 24 (lay 8 b.ep) = pad36 (headL b) := by
    have := pad36_splice (head4 b ++ lay 2 b.val.size ++ [0, 0] ++ lay 8 b.id ++ lay 8 b.ver) (lay 8 b.ep)
    rw [show (head4 b ++ lay 2 b.val.size ++ [0, 0] ++ lay 8 b.id ++ lay 8 b.ver : List UInt8).length = 24 by simp [lay_len, hpre4], hhd] at this
    exact this
  have hp5 : splice (pad36 (headL b)) 32 (lay 4 (addS 0 (headL b ++ roomL b))) = headL b ++ lay 4 (addS 0 (headL b ++ roomL b)) := by
    have := pad36_splice (headL b) (lay 4 (addS 0 (headL b ++ roomL b)))
    rw [headL_len] at this
    rw [this]
    simp [pad36, lay_len, headL_len]
  have l4 : (pad36 (head4 b)).length = 36 := by simp [pad36, hpre4]
  have l8 : (pad36 (head4 b ++ lay 2 b.val.size ++ [0, 0])).length = 36 := by simp [pad36, hpre4, lay_len]
  have l16 : (pad36 (head4 b ++ lay 2 b.val.size ++ [0, 0] ++ lay 8 b.id)).length = 36 := by simp [pad36, hpre4, lay_len]
  have l24 : (pad36 (head4 b ++ lay 2 b.val.size ++ [0, 0] ++ lay 8 b.id ++ lay 8 b.ver)).length = 36 := by simp [pad36, hpre4, lay_len]
  have l32 : (pad36 (headL b)).length = 36 := by simp [pad36, headL_len]
  have hsl : addS 0 (headL b ++ roomL b) < 4294967296 := addS_lt (by omega)
  have f8 : ∀ v, v < 18446744073709551616 → fit v 8 = true := fun v h => fit_of (by rw [pow8_eight]; exact h)
  have HP1 := Lib.hid (fun W k (h : Blk W k (enc (pad36 (head4 b)))) => bput_ok (some ⟨k, 0, none⟩) 36 36 _ l4 4 2 b.val.size (by omega) (by omega) (by omega) (by omega) (fit_of (by omega)) W (h.row (by omega)))
  have HP2 := Lib.hid (fun W k (h : Blk W k (enc (pad36 (head4 b ++ lay 2 b.val.size ++ [0, 0])))) => bput_ok (some ⟨k, 0, none⟩) 36 36 _ l8 8 8 b.id ho.id (by omega) (by omega) (by omega) (f8 _ ho.id) W (h.row (by omega)))
  have HP3 := Lib.hid (fun W k (h : Blk W k (enc (pad36 (head4 b ++ lay 2 b.val.size ++ [0, 0] ++ lay 8 b.id)))) => bput_ok (some ⟨k, 0, none⟩) 36 36 _ l16 16 8 b.ver ho.ver (by omega) (by omega) (by omega) (f8 _ ho.ver) W (h.row (by omega)))
  have HP4 := Lib.hid (fun W k (h : Blk W k (enc (pad36 (head4 b ++ lay 2 b.val.size ++ [0, 0] ++ lay 8 b.id ++ lay 8 b.ver)))) => bput_ok (some ⟨k, 0, none⟩) 36 36 _ l24 24 8 b.ep ho.ep (by omega) (by omega) (by omega) (f8 _ ho.ep) W (h.row (by omega)))
  have HP5 := Lib.hid (fun W k (h : Blk W k (enc (pad36 (headL b)))) => bput_ok (some ⟨k, 0, none⟩) 36 36 _ l32 32 4 (addS 0 (headL b ++ roomL b)) (by omega) (by omega) (by omega) (by omega) (fit_of (by simpa using hsl)) W (h.row (by omega)))
  rw [hp1] at HP1
  rw [hp2] at HP2
  rw [hp3] at HP3
  rw [hp4] at HP4
  rw [hp5] at HP5
  have hs32 : ∀ W k, Blk W k (enc (pad36 (headL b))) → Row W (some ⟨k, 0, none⟩) (headL b) := fun W k h => by
    have h1 := h.row (by omega)
    refine ⟨by rw [headL_len]; omega, fun _ => ?_⟩
    obtain ⟨b', off, e, hlt, hc⟩ := h1.2 (by omega)
    refine ⟨b', off, e, hlt, fun j hj => ?_⟩
    rw [hc j (by rw [headL_len] at hj; omega)]
    rw [pad36, List.getD, List.getElem?_append_left hj, List.getD]
  have HS1 := Lib.hid (fun W k (h : Blk W k (enc (pad36 (headL b)))) => sum_any (some ⟨k, 0, none⟩) 32 36 (headL b) (headL_len b) W (hs32 W k h))
  have HS2 := Lib.hid (fun W (h : Row W A (roomL b)) => add_any (addS 0 (headL b)) (addS_lt (by omega)) A (28 + 63 * restN b.cl) c (roomL b) hrl W h)
  rw [addS_append] at HS2
  -- the four stores
  have u1 : IntKind.u8.wrap b.cl = b.cl := by show b.cl % 256 = _; omega
  have u2 : IntKind.u8.wrap b.kd = b.kd := by show b.kd % 256 = _; omega
  have t1 : ((b.cl.toNat : Nat) : Int) = b.cl := by omega
  have t2 : ((b.kd.toNat : Nat) : Int) = b.kd := by omega
  have u3 : IntKind.u8.wrap (b.key.size : Int) = ((b.key.size : Nat) : Int) := by show (b.key.size : Int) % 256 = _; omega
  have u4 : IntKind.u64.wrap (b.val.size : Int) = ((b.val.size : Nat) : Int) := by show (b.val.size : Int) % 18446744073709551616 = _; omega
  have HST : Hid (∀ W, Blk W g (enc (List.replicate 36 0)) → Blk ((((W.setCell ⟨g, 0, none⟩ (.int .u8 1)).setCell ⟨g, 1, none⟩ (.int .u8 b.cl)).setCell ⟨g, 2, none⟩ (.int .u8 b.kd)).setCell ⟨g, 3, none⟩ (.int .u8 ((b.key.size : Nat) : Int))) g (enc (pad36 (head4 b)))) := by
    intro W h
    have h1 := (((h.set_ 0 (.int .u8 ((1 : Nat) : Int))).set_ 1 (.int .u8 ((b.cl.toNat : Nat) : Int))).set_ 2 (.int .u8 ((b.kd.toNat : Nat) : Int))).set_ 3 (.int .u8 ((b.key.size : Nat) : Int))
    rw [enc_set _ _ _ (by omega), enc_set _ _ _ (by omega), enc_set _ _ _ (by omega), enc_set _ _ _ (by omega)] at h1
    rw [t1, t2] at h1
    exact h1
  have hf0 : ∀ j v, #[Value.int .i64 b.cl, .int .i64 b.kd, .int .u64 (b.id : Nat), .int .u64 (b.ver : Nat), .int .u64 (b.ep : Nat), .string b.key, .string b.val][j]? = some v → w1.cell? ⟨p, j, none⟩ = some v := by
    intro j v hv
    refine (hbel.cell (p := ⟨p, j, none⟩) hpg).trans ?_
    rw [← hw0, ← hp]
    simpa using hv
  have hc0 : w1.cell? ⟨p, 0, none⟩ = some (.int .i64 b.cl) := hf0 0 _ rfl
  have hc1 : w1.cell? ⟨p, 1, none⟩ = some (.int .i64 b.kd) := hf0 1 _ rfl
  have hc5 : w1.cell? ⟨p, 5, none⟩ = some (.string b.key) := hf0 5 _ rfl
  have hc6 : w1.cell? ⟨p, 6, none⟩ = some (.string b.val) := hf0 6 _ rfl
  have HC2 := Lib.hid (hf0 2 _ rfl)
  have HC3 := Lib.hid (hf0 3 _ rfl)
  have HC4 := Lib.hid (hf0 4 _ rfl)
  have hg0 : w1.cell? ⟨g, 0, none⟩ = some (.int .u8 0) := by rw [hblk.cell]; rfl
  have hg1 : w1.cell? ⟨g, 1, none⟩ = some (.int .u8 0) := by rw [hblk.cell]; rfl
  have hg2 : w1.cell? ⟨g, 2, none⟩ = some (.int .u8 0) := by rw [hblk.cell]; rfl
  have hg3 : w1.cell? ⟨g, 3, none⟩ = some (.int .u8 0) := by rw [hblk.cell]; rfl
  have hr0 : w1.frozen? ⟨g, 0, none⟩ = false := hblk.frozen _
  have hr1 : w1.frozen? ⟨g, 1, none⟩ = false := hblk.frozen _
  have hr2 : w1.frozen? ⟨g, 2, none⟩ = false := hblk.frozen _
  have hr3 : w1.frozen? ⟨g, 3, none⟩ = false := hblk.frozen _
  have hne : ¬ p = g := by omega
  have hne2 : ¬ g = p := by omega
  have HST1 := Lib.hid (HST.out w1 hblk)
  have HBW1 : Hid (Below p w w1) := (by rw [← hp]; exact hbw0.trans (hbel.mono (by omega)))
  have HRW : Hid (Row w A (roomL b)) := hr
  have HP := Lib.hid hp
  have HPG := Lib.hid hpg
  have HGL := Lib.hid (Blk.lt hblk)
  clear HST t1 t2 hf0 hblk hbel hbw0 hz hg hp1 hp2 hp3 hp4 hp5 hhd l4 l8 l16 l24 l32 f8 hs32 hrl hr hpre4 hcl hkd hks hvs hm ho hrn
  rw [BV.agg]
  generalize headL b ++ lay 4 (addS 0 (headL b ++ roomL b)) = F at *
  generalize addS 0 (headL b ++ roomL b) = Z at *
  generalize pad36 (headL b) = r5 at *
  generalize pad36 (head4 b ++ lay 2 b.val.size ++ [0, 0] ++ lay 8 b.id ++ lay 8 b.ver) = r4 at *
  generalize pad36 (head4 b ++ lay 2 b.val.size ++ [0, 0] ++ lay 8 b.id) = r3 at *
  generalize pad36 (head4 b ++ lay 2 b.val.size ++ [0, 0]) = r2 at *
  generalize pad36 (head4 b) = r1 at *
  generalize addS 0 (headL b) = Y at *
  generalize roomL b = R at *
  generalize 28 + 63 * restN b.cl = n at *
  obtain ⟨cl, kd, id, ver, ep, key, val⟩ := b
  simp only at *
  go_enter Try.func35, Try.ntmps35
  have hb4 : Below g w1 ((((w1.setCell ⟨g, 0, none⟩ (.int .u8 1)).setCell ⟨g, 1, none⟩ (.int .u8 cl)).setCell ⟨g, 2, none⟩ (.int .u8 kd)).setCell ⟨g, 3, none⟩ (.int .u8 ((key.size : Nat) : Int))) := ((((Below.refl g w1).setCell (Nat.le_refl _) _).setCell (Nat.le_refl _) _).setCell (Nat.le_refl _) _).setCell (Nat.le_refl _) _
  have HB1 := Lib.hid hb4
  have HK1 := HST1
  clear hb4 HST1
  go_wp2_with fail
  refine (HP1.out _ g HK1.out).mono ?_
  rintro e v1 ⟨g2, rfl, hgg, hbb, hbe⟩
  have HG2 : Hid (g ≤ g2) := Nat.le_trans (Nat.le_trans (Nat.le_of_lt HGL.out) HB1.out.size) hgg
  have HK2 := Lib.hid hbb
  have HB2 : Hid (Below g w1 v1) := HB1.out.trans (hbe.mono (Nat.le_trans (Nat.le_of_lt HGL.out) HB1.out.size))
  clear hgg hbb hbe
  have hfl1 := (HB2.out.cell (p := ⟨p, 2, none⟩) HPG.out).trans HC2.out
  go_wp2_with fail
  refine (HP2.out _ g2 HK2.out).mono ?_
  rintro e v2 ⟨g3, rfl, hgg, hbb, hbe⟩
  have HG3 : Hid (g ≤ g3) := Nat.le_trans (Nat.le_trans (Nat.le_of_lt HGL.out) HB2.out.size) hgg
  have HK3 := Lib.hid hbb
  have HB3 : Hid (Below g w1 v2) := HB2.out.trans (hbe.mono (Nat.le_trans (Nat.le_of_lt HGL.out) HB2.out.size))
  clear hgg hbb hbe
  clear hfl1
  have hfl2 := (HB3.out.cell (p := ⟨p, 3, none⟩) HPG.out).trans HC3.out
  go_wp2_with fail
  refine (HP3.out _ g3 HK3.out).mono ?_
  rintro e v3 ⟨g4, rfl, hgg, hbb, hbe⟩
  have HG4 : Hid (g ≤ g4) := Nat.le_trans (Nat.le_trans (Nat.le_of_lt HGL.out) HB3.out.size) hgg
  have HK4 := Lib.hid hbb
  have HB4 : Hid (Below g w1 v3) := HB3.out.trans (hbe.mono (Nat.le_trans (Nat.le_of_lt HGL.out) HB3.out.size))
  clear hgg hbb hbe
  clear hfl2
  have hfl3 := (HB4.out.cell (p := ⟨p, 4, none⟩) HPG.out).trans HC4.out
  go_wp2_with fail
  refine (HP4.out _ g4 HK4.out).mono ?_
  rintro e v4 ⟨g5, rfl, hgg, hbb, hbe⟩
  have HG5 : Hid (g ≤ g5) := Nat.le_trans (Nat.le_trans (Nat.le_of_lt HGL.out) HB4.out.size) hgg
  have HK5 := Lib.hid hbb
  have HB5 : Hid (Below g w1 v4) := HB4.out.trans (hbe.mono (Nat.le_trans (Nat.le_of_lt HGL.out) HB4.out.size))
  clear hgg hbb hbe
  clear hfl3
  have HRO := Lib.hid (HRW.out.below (HP.out.symm ▸ (HBW1.out.trans (HB5.out.mono (Nat.le_of_lt HPG.out)))))
  go_wp2_with fail
  refine (HS1.out _ g5 HK5.out).mono ?_
  rintro e w' ⟨rfl, rfl⟩
  go_wp2_with fail
  refine (HS2.out _ HRO.out).mono ?_
  rintro e w' ⟨rfl, rfl⟩
  go_wp2_with fail
  refine (HP5.out _ g5 HK5.out).mono ?_
  rintro e v5 ⟨g6, rfl, hgg, hbb, hbe⟩
  have HG6 : Hid (g ≤ g6) := Nat.le_trans (Nat.le_trans (Nat.le_of_lt HGL.out) HB5.out.size) hgg
  have HK6 := Lib.hid hbb
  have HB6 : Hid (Below g w1 v5) := HB5.out.trans (hbe.mono (Nat.le_trans (Nat.le_of_lt HGL.out) HB5.out.size))
  clear hgg hbb hbe
  go_wp2
  go_ret
  refine ⟨g6, rfl, ?_, HK6.out, ?_⟩
  · have h1 := HP.out; have h2 := HPG.out; have h3 := HG6.out; omega
  · rw [HP.out]; exact HBW1.out.trans (HB6.out.mono (Nat.le_of_lt HPG.out))

end Go.Proofs.Ytokobelmoanneaa
