/-
  Proved here, joined: BlockE, BlockF
  Conditions: as each part says.
-/
import Derived.Test.YtlghphccmgmomaaGreatJN8
import Derived.Deep.RegionHeld3

/-
    Proved here: what package block's head answers.
  Conditions: a block that may be.
-/
namespace Go.Proofs.YtlghphccmgmomaaGreat
open Go Go.RowKit
set_option maxRecDepth 100000

def pad36 (pre : List UInt8) : List UInt8 := pre ++ List.replicate (36 - pre.length) 0
theorem pad36_splice (pre ys : List UInt8) : splice (pad36 pre) pre.length ys = pad36 (pre ++ ys) := by
  rw [pad36, splice_pre, pad36, List.drop_replicate, List.length_append, Nat.sub_sub]
def head4 (b : BV) : List UInt8 := [1, UInt8.ofNat b.cl.toNat, UInt8.ofNat b.kd.toNat, UInt8.ofNat b.K.length]
set_option maxHeartbeats 1600000 in
set_option maxRecDepth 100000 in
theorem bhead_any (b : BV) (ho : b.ok) (hm : mayB b = true) (A : Option Addr) (c : Nat) (w : World) (hr : Row w A (roomL b)) :
    Calls Tryz.prog 162 #[b.agg, .slice A (28 + 63 * restN b.cl) c] w (BlkTo w 36 (headL b ++ lay 4 (addS 0 (headL b ++ roomL b)))) := by
  obtain ⟨hks, hvs, _⟩ := mayB_sizes hm
  have hcl := mayB_cl hm
  have hkd := mayB_kd hm
  have hrl := roomL_len hm
  have hrn := restN_le b.cl
  obtain ⟨w0, hw0⟩ : ∃ w0, w.alloc (.cells #[.int .i64 b.cl, .int .i64 b.kd, .int .u64 (b.id : Nat), .int .u64 (b.ver : Nat), .int .u64 (b.ep : Nat), .string b.key, .string b.val] 95) = w0 := ⟨_, rfl⟩
  have hbw0 : Below w.heap.size w w0 := by rw [← hw0]; exact (Below.refl _ _).alloc (Nat.le_refl _) _
  obtain ⟨w1, hmk, hblk, hbel⟩ := made w0 36 (by omega)
  obtain ⟨p, hp⟩ : ∃ p, w.heap.size = p := ⟨_, rfl⟩
  obtain ⟨g, hg⟩ : ∃ g, w0.heap.size = g := ⟨_, rfl⟩
  have hpg : p < g := by rw [← hp, ← hg, ← hw0]; simp
  rw [hg, show ((36 : Nat) : Int) = 36 from rfl] at hmk
  rw [hg] at hblk hbel
  have hz : List.replicate 36 (z8 0) = enc (List.replicate 36 0) := by simp [enc, z8]
  rw [hz] at hblk
  -- the rows, step by step
  have hpre4 : (head4 b).length = 4 := rfl
  have hp1 : splice (pad36 (head4 b)) 4 (lay 2 b.val.size) = pad36 (head4 b ++ lay 2 b.val.size ++ [0, 0]) := by
    have := pad36_splice (head4 b) (lay 2 b.val.size)
    rw [hpre4] at this
    rw [this]
    simp [pad36, lay_len, hpre4]
  have hp2 : splice (pad36 (head4 b ++ lay 2 b.val.size ++ [0, 0])) 8 (lay 8 b.id) = pad36 (head4 b ++ lay 2 b.val.size ++ [0, 0] ++ lay 8 b.id) := by
    have := pad36_splice (head4 b ++ lay 2 b.val.size ++ [0, 0]) (lay 8 b.id)
    rw [show (head4 b ++ lay 2 b.val.size ++ [0, 0] : List UInt8).length = 8 by simp [lay_len, hpre4]] at this
    exact this
  have hp3 : splice (pad36 (head4 b ++ lay 2 b.val.size ++ [0, 0] ++ lay 8 b.id)) 16 (lay 8 b.ver) = pad36 (head4 b ++ lay 2 b.val.size ++ [0, 0] ++ lay 8 b.id ++ lay 8 b.ver) := by
    have := pad36_splice (head4 b ++ lay 2 b.val.size ++ [0, 0] ++ lay 8 b.id) (lay 8 b.ver)
    rw [show (head4 b ++ lay 2 b.val.size ++ [0, 0] ++ lay 8 b.id : List UInt8).length = 16 by simp [lay_len, hpre4]] at this
    exact this
  have hhd : head4 b ++ lay 2 b.val.size ++ [0, 0] ++ lay 8 b.id ++ lay 8 b.ver ++ lay 8 b.ep = headL b := by
    rw [headL, V_len]
    simp [head4]
  have hp4 : splice (pad36 (head4 b ++ lay 2 b.val.size ++ [0, 0] ++ lay 8 b.id ++ lay 8 b.ver)) 24 (lay 8 b.ep) = pad36 (headL b) := by
    have := pad36_splice (head4 b ++ lay 2 b.val.size ++ [0, 0] ++ lay 8 b.id ++ lay 8 b.ver) (lay 8 b.ep)
    rw [show (head4 b ++ lay 2 b.val.size ++ [0, 0] ++ lay 8 b.id ++ lay 8 b.ver : List UInt8).length = 24 by simp [lay_len, hpre4], hhd] at this
    exact this
  have hp5 : splice (pad36 (headL b)) 32 (lay 4 (addS 0 (headL b ++ roomL b))) = headL b ++ lay 4 (addS 0 (headL b ++ roomL b)) := by
    have := pad36_splice (headL b) (lay 4 (addS 0 (headL b ++ roomL b)))
    rw [headL_len] at this
    rw [this]
    simp [pad36, lay_len, headL_len]
  have l4 : (pad36 (head4 b)).length = 36 := by simp [pad36, hpre4]
  have l8 : (pad36 (head4 b ++ lay 2 b.val.size ++ [0, 0])).length = 36 := by simp [pad36, hpre4, lay_len]
  have l16 : (pad36 (head4 b ++ lay 2 b.val.size ++ [0, 0] ++ lay 8 b.id)).length = 36 := by simp [pad36, hpre4, lay_len]
  have l24 : (pad36 (head4 b ++ lay 2 b.val.size ++ [0, 0] ++ lay 8 b.id ++ lay 8 b.ver)).length = 36 := by simp [pad36, hpre4, lay_len]
  have l32 : (pad36 (headL b)).length = 36 := by simp [pad36, headL_len]
  have hsl : addS 0 (headL b ++ roomL b) < 4294967296 := addS_lt (by omega)
  have f8 : ∀ v, v < 18446744073709551616 → fit v 8 = true := fun v h => fit_of (by rw [pow8_eight]; exact h)
  have HP1 := Lib.hid (fun W k (h : Blk W k (enc (pad36 (head4 b)))) => bput_ok (some ⟨k, 0, none⟩) 36 36 _ l4 4 2 b.val.size (by omega) (by omega) (by omega) (by omega) (fit_of (by omega)) W (h.row (by omega)))
  have HP2 := Lib.hid (fun W k (h : Blk W k (enc (pad36 (head4 b ++ lay 2 b.val.size ++ [0, 0])))) => bput_ok (some ⟨k, 0, none⟩) 36 36 _ l8 8 8 b.id ho.id (by omega) (by omega) (by omega) (f8 _ ho.id) W (h.row (by omega)))
  have HP3 := Lib.hid (fun W k (h : Blk W k (enc (pad36 (head4 b ++ lay 2 b.val.size ++ [0, 0] ++ lay 8 b.id)))) => bput_ok (some ⟨k, 0, none⟩) 36 36 _ l16 16 8 b.ver ho.ver (by omega) (by omega) (by omega) (f8 _ ho.ver) W (h.row (by omega)))
  have HP4 := Lib.hid (fun W k (h : Blk W k (enc (pad36 (head4 b ++ lay 2 b.val.size ++ [0, 0] ++ lay 8 b.id ++ lay 8 b.ver)))) => bput_ok (some ⟨k, 0, none⟩) 36 36 _ l24 24 8 b.ep ho.ep (by omega) (by omega) (by omega) (f8 _ ho.ep) W (h.row (by omega)))
  have HP5 := Lib.hid (fun W k (h : Blk W k (enc (pad36 (headL b)))) => bput_ok (some ⟨k, 0, none⟩) 36 36 _ l32 32 4 (addS 0 (headL b ++ roomL b)) (by omega) (by omega) (by omega) (by omega) (fit_of (by simpa using hsl)) W (h.row (by omega)))
  rw [hp1] at HP1
  rw [hp2] at HP2
  rw [hp3] at HP3
  rw [hp4] at HP4
  rw [hp5] at HP5
  have hs32 : ∀ W k, Blk W k (enc (pad36 (headL b))) → Row W (some ⟨k, 0, none⟩) (headL b) := fun W k h => by
    have h1 := h.row (by omega)
    refine ⟨by rw [headL_len]; omega, fun _ => ?_⟩
    obtain ⟨b', off, e, hlt, hc⟩ := h1.2 (by omega)
    refine ⟨b', off, e, hlt, fun j hj => ?_⟩
    rw [hc j (by rw [headL_len] at hj; omega)]
    rw [pad36, List.getD, List.getElem?_append_left hj, List.getD]
  have HS1 := Lib.hid (fun W k (h : Blk W k (enc (pad36 (headL b)))) => sum_any (some ⟨k, 0, none⟩) 32 36 (headL b) (headL_len b) W (hs32 W k h))
  have HS2 := Lib.hid (fun W (h : Row W A (roomL b)) => add_any (addS 0 (headL b)) (addS_lt (by omega)) A (28 + 63 * restN b.cl) c (roomL b) hrl W h)
  rw [addS_append] at HS2
  -- the four stores
  have u1 : IntKind.u8.wrap b.cl = b.cl := by show b.cl % 256 = _; omega
  have u2 : IntKind.u8.wrap b.kd = b.kd := by show b.kd % 256 = _; omega
  have t1 : ((b.cl.toNat : Nat) : Int) = b.cl := by omega
  have t2 : ((b.kd.toNat : Nat) : Int) = b.kd := by omega
  have u3 : IntKind.u8.wrap (b.key.size : Int) = ((b.key.size : Nat) : Int) := by show (b.key.size : Int) % 256 = _; omega
  have u4 : IntKind.u64.wrap (b.val.size : Int) = ((b.val.size : Nat) : Int) := by show (b.val.size : Int) % 18446744073709551616 = _; omega
  have HST : Hid (∀ W, Blk W g (enc (List.replicate 36 0)) → Blk ((((W.setCell ⟨g, 0, none⟩ (.int .u8 1)).setCell ⟨g, 1, none⟩ (.int .u8 b.cl)).setCell ⟨g, 2, none⟩ (.int .u8 b.kd)).setCell ⟨g, 3, none⟩ (.int .u8 ((b.key.size : Nat) : Int))) g (enc (pad36 (head4 b)))) := by
    intro W h
    have h1 := (((h.set_ 0 (.int .u8 ((1 : Nat) : Int))).set_ 1 (.int .u8 ((b.cl.toNat : Nat) : Int))).set_ 2 (.int .u8 ((b.kd.toNat : Nat) : Int))).set_ 3 (.int .u8 ((b.key.size : Nat) : Int))
    rw [enc_set _ _ _ (by omega), enc_set _ _ _ (by omega), enc_set _ _ _ (by omega), enc_set _ _ _ (by omega)] at h1
    rw [t1, t2] at h1
    exact h1
  have hf0 : ∀ j v, #[Value.int .i64 b.cl, .int .i64 b.kd, .int .u64 (b.id : Nat), .int .u64 (b.ver : Nat), .int .u64 (b.ep : Nat), .string b.key, .string b.val][j]? = some v → w1.cell? ⟨p, j, none⟩ = some v := by
    intro j v hv
    refine (hbel.cell (p := ⟨p, j, none⟩) hpg).trans ?_
    rw [← hw0, ← hp]
    simpa using hv
  have hc0 : w1.cell? ⟨p, 0, none⟩ = some (.int .i64 b.cl) := hf0 0 _ rfl
  have hc1 : w1.cell? ⟨p, 1, none⟩ = some (.int .i64 b.kd) := hf0 1 _ rfl
  have hc5 : w1.cell? ⟨p, 5, none⟩ = some (.string b.key) := hf0 5 _ rfl
  have hc6 : w1.cell? ⟨p, 6, none⟩ = some (.string b.val) := hf0 6 _ rfl
  have HC2 := Lib.hid (hf0 2 _ rfl)
  have HC3 := Lib.hid (hf0 3 _ rfl)
  have HC4 := Lib.hid (hf0 4 _ rfl)
  have hg0 : w1.cell? ⟨g, 0, none⟩ = some (.int .u8 0) := by rw [hblk.cell]; rfl
  have hg1 : w1.cell? ⟨g, 1, none⟩ = some (.int .u8 0) := by rw [hblk.cell]; rfl
  have hg2 : w1.cell? ⟨g, 2, none⟩ = some (.int .u8 0) := by rw [hblk.cell]; rfl
  have hg3 : w1.cell? ⟨g, 3, none⟩ = some (.int .u8 0) := by rw [hblk.cell]; rfl
  have hr0 : w1.frozen? ⟨g, 0, none⟩ = false := hblk.frozen _
  have hr1 : w1.frozen? ⟨g, 1, none⟩ = false := hblk.frozen _
  have hr2 : w1.frozen? ⟨g, 2, none⟩ = false := hblk.frozen _
  have hr3 : w1.frozen? ⟨g, 3, none⟩ = false := hblk.frozen _
  have hne : ¬ p = g := by omega
  have hne2 : ¬ g = p := by omega
  have HST1 := Lib.hid (HST.out w1 hblk)
  have HBW1 : Hid (Below p w w1) := (by rw [← hp]; exact hbw0.trans (hbel.mono (by omega)))
  have HRW : Hid (Row w A (roomL b)) := hr
  have HP := Lib.hid hp
  have HPG := Lib.hid hpg
  have HGL := Lib.hid (Blk.lt hblk)
  clear HST t1 t2 hf0 hblk hbel hbw0 hz hg hp1 hp2 hp3 hp4 hp5 hhd l4 l8 l16 l24 l32 f8 hs32 hrl hr hpre4 hcl hkd hks hvs hm ho hrn
  rw [BV.agg]
  generalize headL b ++ lay 4 (addS 0 (headL b ++ roomL b)) = F at *
  generalize addS 0 (headL b ++ roomL b) = Z at *
  generalize pad36 (headL b) = r5 at *
  generalize pad36 (head4 b ++ lay 2 b.val.size ++ [0, 0] ++ lay 8 b.id ++ lay 8 b.ver) = r4 at *
  generalize pad36 (head4 b ++ lay 2 b.val.size ++ [0, 0] ++ lay 8 b.id) = r3 at *
  generalize pad36 (head4 b ++ lay 2 b.val.size ++ [0, 0]) = r2 at *
  generalize pad36 (head4 b) = r1 at *
  generalize addS 0 (headL b) = Y at *
  generalize roomL b = R at *
  generalize 28 + 63 * restN b.cl = n at *
  obtain ⟨cl, kd, id, ver, ep, key, val⟩ := b
  simp only at *
  go_enter Tryz.func162, Tryz.ntmps162
  have hb4 : Below g w1 ((((w1.setCell ⟨g, 0, none⟩ (.int .u8 1)).setCell ⟨g, 1, none⟩ (.int .u8 cl)).setCell ⟨g, 2, none⟩ (.int .u8 kd)).setCell ⟨g, 3, none⟩ (.int .u8 ((key.size : Nat) : Int))) := ((((Below.refl g w1).setCell (Nat.le_refl _) _).setCell (Nat.le_refl _) _).setCell (Nat.le_refl _) _).setCell (Nat.le_refl _) _
  have HB1 := Lib.hid hb4
  have HK1 := HST1
  clear hb4 HST1
  go_wp2_with fail
  refine (HP1.out _ g HK1.out).mono ?_
  rintro e v1 ⟨g2, rfl, hgg, hbb, hbe⟩
  have HG2 : Hid (g ≤ g2) := Nat.le_trans (Nat.le_trans (Nat.le_of_lt HGL.out) HB1.out.size) hgg
  have HK2 := Lib.hid hbb
  have HB2 : Hid (Below g w1 v1) := HB1.out.trans (hbe.mono (Nat.le_trans (Nat.le_of_lt HGL.out) HB1.out.size))
  clear hgg hbb hbe
  have hfl1 := (HB2.out.cell (p := ⟨p, 2, none⟩) HPG.out).trans HC2.out
  go_wp2_with fail
  refine (HP2.out _ g2 HK2.out).mono ?_
  rintro e v2 ⟨g3, rfl, hgg, hbb, hbe⟩
  have HG3 : Hid (g ≤ g3) := Nat.le_trans (Nat.le_trans (Nat.le_of_lt HGL.out) HB2.out.size) hgg
  have HK3 := Lib.hid hbb
  have HB3 : Hid (Below g w1 v2) := HB2.out.trans (hbe.mono (Nat.le_trans (Nat.le_of_lt HGL.out) HB2.out.size))
  clear hgg hbb hbe
  clear hfl1
  have hfl2 := (HB3.out.cell (p := ⟨p, 3, none⟩) HPG.out).trans HC3.out
  go_wp2_with fail
  refine (HP3.out _ g3 HK3.out).mono ?_
  rintro e v3 ⟨g4, rfl, hgg, hbb, hbe⟩
  have HG4 : Hid (g ≤ g4) := Nat.le_trans (Nat.le_trans (Nat.le_of_lt HGL.out) HB3.out.size) hgg
  have HK4 := Lib.hid hbb
  have HB4 : Hid (Below g w1 v3) := HB3.out.trans (hbe.mono (Nat.le_trans (Nat.le_of_lt HGL.out) HB3.out.size))
  clear hgg hbb hbe
  clear hfl2
  have hfl3 := (HB4.out.cell (p := ⟨p, 4, none⟩) HPG.out).trans HC4.out
  go_wp2_with fail
  refine (HP4.out _ g4 HK4.out).mono ?_
  rintro e v4 ⟨g5, rfl, hgg, hbb, hbe⟩
  have HG5 : Hid (g ≤ g5) := Nat.le_trans (Nat.le_trans (Nat.le_of_lt HGL.out) HB4.out.size) hgg
  have HK5 := Lib.hid hbb
  have HB5 : Hid (Below g w1 v4) := HB4.out.trans (hbe.mono (Nat.le_trans (Nat.le_of_lt HGL.out) HB4.out.size))
  clear hgg hbb hbe
  clear hfl3
  have HRO := Lib.hid (HRW.out.below (HP.out.symm ▸ (HBW1.out.trans (HB5.out.mono (Nat.le_of_lt HPG.out)))))
  go_wp2_with fail
  refine (HS1.out _ g5 HK5.out).mono ?_
  rintro e w' ⟨rfl, rfl⟩
  go_wp2_with fail
  refine (HS2.out _ HRO.out).mono ?_
  rintro e w' ⟨rfl, rfl⟩
  go_wp2_with fail
  refine (HP5.out _ g5 HK5.out).mono ?_
  rintro e v5 ⟨g6, rfl, hgg, hbb, hbe⟩
  have HG6 : Hid (g ≤ g6) := Nat.le_trans (Nat.le_trans (Nat.le_of_lt HGL.out) HB5.out.size) hgg
  have HK6 := Lib.hid hbb
  have HB6 : Hid (Below g w1 v5) := HB5.out.trans (hbe.mono (Nat.le_trans (Nat.le_of_lt HGL.out) HB5.out.size))
  clear hgg hbb hbe
  go_wp2
  go_ret
  refine ⟨g6, rfl, ?_, HK6.out, ?_⟩
  · have h1 := HP.out; have h2 := HPG.out; have h3 := HG6.out; omega
  · rw [HP.out]; exact HBW1.out.trans (HB6.out.mono (Nat.le_of_lt HPG.out))

end Go.Proofs.YtlghphccmgmomaaGreat

/-
    Proved here: what package block's Encode answers.
  Conditions: texts of at most 2,000 bytes.
-/
namespace Go.Proofs.YtlghphccmgmomaaGreat
open Go Go.RowKit
set_option maxRecDepth 100000

/-- A block in a variable of its own. -/
def Box (w : World) (p : Nat) (b : BV) : Prop := w.heap[p]? = some (.cells #[.int .i64 b.cl, .int .i64 b.kd, .int .u64 (b.id : Nat), .int .u64 (b.ver : Nat), .int .u64 (b.ep : Nat), .string b.key, .string b.val] 95 (0, 0))
theorem box_new (w : World) (b : BV) : Box (w.alloc (.cells #[.int .i64 b.cl, .int .i64 b.kd, .int .u64 (b.id : Nat), .int .u64 (b.ver : Nat), .int .u64 (b.ep : Nat), .string b.key, .string b.val] 95)) w.heap.size b := by
  show (w.heap.push _)[w.heap.size]? = _
  simp
theorem Box.below {w w' : World} {p B : Nat} {b : BV} (h : Box w p b) (hb : Below B w w') (hp : p < B) : Box w' p b := (hb.block p hp).trans h
theorem Box.lt {w : World} {p : Nat} {b : BV} (h : Box w p b) : p < w.heap.size := lt_of_heap h
theorem Box.cell {w : World} {p : Nat} {b : BV} (h : Box w p b) (j : Nat) : w.cell? ⟨p, j, none⟩ = #[Value.int .i64 b.cl, .int .i64 b.kd, .int .u64 (b.id : Nat), .int .u64 (b.ver : Nat), .int .u64 (b.ep : Nat), .string b.key, .string b.val][j]? := by
  unfold Box at h
  simp [World.cell?, h]
theorem Box.cells {w : World} {p : Nat} {cl kd : Int} {id ver ep : Nat} {key val : ByteArray} (h : Box w p ⟨cl, kd, id, ver, ep, key, val⟩) : w.cell? ⟨p, 0, none⟩ = some (.int .i64 cl) ∧ w.cell? ⟨p, 1, none⟩ = some (.int .i64 kd) ∧ w.cell? ⟨p, 2, none⟩ = some (.int .u64 (id : Nat)) ∧ w.cell? ⟨p, 3, none⟩ = some (.int .u64 (ver : Nat)) ∧ w.cell? ⟨p, 4, none⟩ = some (.int .u64 (ep : Nat)) ∧ w.cell? ⟨p, 5, none⟩ = some (.string key) ∧ w.cell? ⟨p, 6, none⟩ = some (.string val) :=
  ⟨h.cell 0, h.cell 1, h.cell 2, h.cell 3, h.cell 4, h.cell 5, h.cell 6⟩
set_option maxHeartbeats 400000 in
set_option maxRecDepth 100000 in
theorem enc_no (b : BV) (h1 : b.key.size ≤ 2000) (h2 : b.val.size ≤ 2000) (hm : mayB b = false) (w : World) : Calls Tryz.prog 116 #[b.agg] w fun e w' => e = .returned (.tuple #[.slice none 0 0, .int .i64 3]) ∧ Below w.heap.size w w' := by
  have HM := Lib.hid (fun W => may_any b h1 h2 W)
  rw [hm] at HM
  rw [BV.agg] at HM ⊢
  obtain ⟨cl, kd, id, ver, ep, key, val⟩ := b
  simp only at *
  clear hm
  go_enter Tryz.func116, Tryz.ntmps116
  go_wp2_with fail
  refine (HM.out _).mono ?_
  rintro e w2 ⟨rfl, hb⟩
  have HB := Lib.hid hb
  clear hb
  go_wp2
  go_ret2
  exact ⟨rfl, below_box HB.out⟩
/-- What Encode leaves of a block that may be. -/
def LinesTo (w : World) (l : List UInt8) (e : Ending) (w' : World) : Prop :=
  ∃ V, e = .returned (.tuple #[V, .int .i64 0]) ∧ w'.ownsRow w.heap.size 5 1 V l.length (enc l) ∧ Below w.heap.size w w'
/-- A part of a block, read as a row. -/
theorem Blk.rowAt {w : World} {g : Nat} {l : List UInt8} (h : Blk w g (enc l)) (a k : Nat) (hk : a + k ≤ l.length) (hl : l.length ≤ 1073741824) : Row w (some ⟨g, a, none⟩) ((l.drop a).take k) := by
  have hlen : ((l.drop a).take k).length = k := by simp; omega
  refine ⟨by omega, fun _ => ⟨g, a, rfl, Blk.lt h, fun j hj => ?_⟩⟩
  rw [hlen] at hj
  rw [Blk.cell h, enc_at l (a + j) (by omega)]
  simp [List.getD, List.getElem?_take_of_lt hj, List.getElem?_drop]
/-- Bytes put behind a row that the call made. -/
theorem run_app_below (w : World) (base n : Nat) (v : Value) (xs : List Value) (hown : w.ownsRow base 5 1 v n xs) (A : Option Addr) (m c : Nat) (l : List UInt8) (hm : l.length = m) (hr : Row w A l) (hc : A = none → c = 0) (hn : n + m ≤ 1073741824) (hbase : base ≤ w.heap.size) :
    ∃ v' w', (Builtin.append_ #[148, 148] 148 #[v, .slice A m c]).run Tryz.prog w = .ok v' w' ∧ w'.ownsRow base 5 1 v' (n + m) (xs ++ enc l) ∧ Below base w w' := by
  obtain ⟨v', w', h1, h2, h3, _⟩ := run_app w base n v xs hown A m c l hm hr hc hn hbase
  exact ⟨v', w', h1, h2, (Below.refl _ _).grown h3 hbase (own_ge hown)⟩
theorem app_first {w4 : World} {q g g4 m : Nat} {R F : List UInt8} (hR : R.length = m) (h28 : 28 ≤ m) (hm : m ≤ 469) (hF : F.length = 36) (hq : q ≤ g4) (h4 : Blk w4 g4 (enc F)) (hd : Blk w4 g (enc R)) :
    ∃ V w5, (Builtin.append_ #[148, 148] 148 #[.slice (some ⟨g4, 0, none⟩) 36 36, .slice (some ⟨g, 0, none⟩) 28 m]).run Tryz.prog w4 = .ok V w5 ∧ w5.ownsRow q 5 1 V 64 (enc (F ++ R.take 28)) ∧ Below q w4 w5 := by
  have hr := hd.rowAt 0 28 (by omega) (by omega)
  rw [List.drop_zero] at hr
  obtain ⟨V, w5, h1, h2, h3⟩ := run_app_below w4 q 36 _ _ (own_mono (blk_own h4 hF (by omega)) hq) (some ⟨g, 0, none⟩) 28 m (R.take 28) (by simp; omega) hr (by intro h; cases h) (by omega) (by have := Blk.lt h4; omega)
  exact ⟨V, w5, h1, by rw [← enc_append]; exact h2, h3⟩
/-- A tag and 63 bytes put behind lines. -/
theorem app_line {w : World} {q g a k : Nat} {V : Value} {R l : List UInt8} (hR : R.length ≤ 1000) (ha : a + 63 ≤ R.length) (hl : l.length ≤ 1000) (hg : g < q) (hq : q ≤ w.heap.size) (ho : w.ownsRow q 5 1 V l.length (enc l)) (hd : Blk w g (enc R)) :
    ∃ V1 w1 V2 w2, (Builtin.append_ #[148, 148] 148 #[V, .slice (some ⟨w.heap.size, 0, none⟩) 1 1]).run Tryz.prog (w.alloc (.cells #[.int .u8 2] 5)) = .ok V1 w1 ∧
      (Builtin.append_ #[148, 148] 148 #[V1, .slice (some ⟨g, a, none⟩) 63 k]).run Tryz.prog w1 = .ok V2 w2 ∧ w2.ownsRow q 5 1 V2 (l.length + 64) (enc (l ++ 2 :: (R.drop a).take 63)) ∧ Below q w w2 := by
  obtain ⟨V1, w1, h1, h2, h3⟩ := run_app_one w q V l 2 ho (by omega) hq
  have hd1 := hd.below h3 hg
  obtain ⟨V2, w2, h4, h5, h6⟩ := run_app_below w1 q (l.length + 1) V1 _ h2 (some ⟨g, a, none⟩) 63 k ((R.drop a).take 63) (by simp; omega) (hd1.rowAt a 63 ha (by omega)) (by intro h; cases h) (by omega) (Nat.le_trans hq h3.size)
  refine ⟨V1, w1, V2, w2, h1, h4, ?_, h3.trans h6⟩
  rw [enc_append, List.append_assoc] at h5
  exact h5
/-- At a step of a region that draws its order: an append whose run is known. -/
theorem step_app {P : Program} {ops : Array Oper} {o : Oper} {a : Act} {K : Act → World → Prop} {Q : Exit → Act → World → Prop} {E : Prop} (hgd : o.guard = none) (s x : Operand) (t : TypeId)
    (ho : o.op = .call { callee := .builtin .append, args := #[s, x], argTypes := #[t, t] }) {w w' : World} {v V v' : Value} (hs : a.eval s = v) (hx : a.eval x = V)
    (hrun : (Builtin.append_ #[t, t] o.type #[v, V]).run P w = .ok v' w') (h : K (a.put o.dst v') w') : if Region.wanted o (yielded ops a.tmps) = true then Oper.wp P o a w K Q else E := by
  have hw : Region.wanted o (yielded ops a.tmps) = true := by simp [Region.wanted, hgd]
  rw [if_pos hw]
  unfold Oper.wp execOp
  simp only [ho, resolve, invoke, builtin, Sem.run_bind, Sem.run_pure, Result.andThen_ok, List.map_toArray, List.map_cons, List.map_nil, hs, hx, hrun]
  exact h
theorem tags_lenLe (n : Nat) (r : List UInt8) (h : 63 * n ≤ r.length) : (tags n r).length = 64 * n := by
  induction n generalizing r with
  | zero => rfl
  | succ n ih =>
    have := ih (r.drop 63) (by rw [List.length_drop]; omega)
    simp only [tags, List.length_cons, List.length_append, List.length_take, this]
    omega
/-- Where there is a rest, it lies at g from a on. -/
def RestAt (m : Nat) (A : Option Addr) (g a : Nat) : Prop := 0 < m → A = some ⟨g, a, none⟩
/-- The lines so far, i lines behind the first one. -/
def soFar (F R : List UInt8) (i : Nat) : List UInt8 := F ++ R.take 28 ++ tags i (R.drop 28)
theorem soFar_len {F R : List UInt8} {i : Nat} (hF : F.length = 36) (hR : 28 + 63 * i ≤ R.length) : (soFar F R i).length = 64 + 64 * i := by
  have := tags_lenLe i (R.drop 28) (by rw [List.length_drop]; omega)
  simp only [soFar, List.length_append, List.length_take, this]
  omega
theorem soFar_next {F R : List UInt8} {i : Nat} (hR : 28 + 63 * i ≤ R.length) : soFar F R i ++ 2 :: (R.drop (28 + 63 * i)).take 63 = soFar F R (i + 1) := by
  rw [soFar, soFar, tags_snoc i (R.drop 28) (by rw [List.length_drop]; omega), List.drop_drop]
  simp
set_option maxHeartbeats 1600000 in
set_option maxRecDepth 100000 in
theorem enc_ok (b : BV) (ho : b.ok) (hm : mayB b = true) (w : World) : Calls Tryz.prog 116 #[b.agg] w (LinesTo w (linesL b)) := by
  obtain ⟨hks, hvs, _⟩ := mayB_sizes hm
  have HM := Lib.hid (fun W => may_any b (by omega) (by omega) W)
  rw [hm] at HM
  have HPD := Lib.hid (fun W => padded_any b hm W)
  have HHD := Lib.hid (fun W A c (h : Row W A (roomL b)) => bhead_any b ho hm A c W h)
  have HRL := Lib.hid (roomL_len hm)
  have HN := Lib.hid (box_new w b)
  have hrn := restN_le b.cl
  have hlt := linesL_eq b
  rw [← List.append_assoc, ← List.append_assoc] at hlt
  have HLE := Lib.hid hlt
  have HFL := Lib.hid (show (headL b ++ lay 4 (addS 0 (headL b ++ roomL b))).length = 36 by simp [headL_len, lay_len])
  have HHL := Lib.hid (headL_len b)
  obtain ⟨p, hp⟩ : ∃ p, w.heap.size = p := ⟨_, rfl⟩
  rw [BV.agg] at HM HPD HHD ⊢
  obtain ⟨w0, hw0⟩ : ∃ w0, w.alloc (.cells #[.int .i64 b.cl, .int .i64 b.kd, .int .u64 (b.id : Nat), .int .u64 (b.ver : Nat), .int .u64 (b.ep : Nat), .string b.key, .string b.val] 95) = w0 := ⟨_, rfl⟩
  rw [hw0, hp] at HN
  have HB0 : Hid (Below p w w0) := (by rw [← hp, ← hw0]; exact (Below.refl _ _).alloc (Nat.le_refl _) _)
  clear hm ho hlt
  generalize headL b ++ lay 4 (addS 0 (headL b ++ roomL b)) = F at *
  generalize roomL b = R at *
  generalize linesL b = L at *
  generalize restN b.cl = m at *
  obtain ⟨N, hN⟩ : ∃ N, 28 + 63 * m = N := ⟨_, rfl⟩
  rw [hN] at HPD HHD HRL
  have h28 : 28 ≤ N := by omega
  have h469 : N ≤ 469 := by omega
  have h28' : (28 : Int) ≤ (N : Int) := by omega
  have HNM := Lib.hid hN
  clear hN
  obtain ⟨cl, kd, id, ver, ep, key, val⟩ := b
  simp only at *
  obtain ⟨c0, c1, c2, c3, c4, c5, c6⟩ := HN.out.cells
  go_enter Tryz.func116, Tryz.ntmps116
  go_wp2_with fail
  refine (HM.out _).mono ?_
  rintro e w2 ⟨rfl, hb⟩
  have HB2 : Hid (Below p w w2) := HB0.out.trans (hb.mono (Nat.le_of_lt HN.out.lt))
  have HN2 := Lib.hid (HN.out.below hb HN.out.lt)
  clear hb c0 c1 c2 c3 c4 c5 c6
  obtain ⟨c0, c1, c2, c3, c4, c5, c6⟩ := HN2.out.cells
  go_wp2_with fail
  refine (HPD.out _).mono ?_
  rintro e w3 ⟨g, rfl, hg, hblk, hb⟩
  have HB3 : Hid (Below p w w3) := HB2.out.trans (hb.mono (Nat.le_of_lt HN2.out.lt))
  have HN3 := Lib.hid (HN2.out.below hb HN2.out.lt)
  have HK3 := Lib.hid hblk
  have HPG : Hid (p < g) := Nat.lt_of_lt_of_le HN2.out.lt hg
  clear hb c0 c1 c2 c3 c4 c5 c6 hblk hg
  obtain ⟨c0, c1, c2, c3, c4, c5, c6⟩ := HN3.out.cells
  go_wp2_with fail
  obtain ⟨q, hq⟩ : ∃ q, w3.heap.size = q := ⟨_, rfl⟩
  have HQ := Lib.hid hq
  clear hq
  have HGQ : Hid (g < q) := HQ.out ▸ Blk.lt HK3.out
  have HR3 := Lib.hid (row_drew (HK3.out.row (by rw [HRL.out]; omega)))
  go_region_held3 (fun w' => w'.cell? ⟨p, 0, none⟩ = some (.int .i64 cl) ∧ w'.cell? ⟨p, 1, none⟩ = some (.int .i64 kd) ∧ w'.cell? ⟨p, 2, none⟩ = some (.int .u64 (id : Nat)) ∧ w'.cell? ⟨p, 3, none⟩ = some (.int .u64 (ver : Nat)) ∧ w'.cell? ⟨p, 4, none⟩ = some (.int .u64 (ep : Nat)) ∧ w'.cell? ⟨p, 5, none⟩ = some (.string key) ∧ w'.cell? ⟨p, 6, none⟩ = some (.string val)) (go_keep)
    (first
      | (go_at_call 162; refine (HHD.out _ (some ⟨g, 0, none⟩) _ HR3.out).mono ?_; rintro e w4 ⟨g4, rfl, hg4, hblk4, hb4⟩; obtain ⟨V, w5, hrun, hown, hb5⟩ := app_first HRL.out h28 h469 HFL.out (HQ.out ▸ hg4) hblk4 (Blk.below (w := w3.drew) HK3.out hb4 (show g < w3.heap.size from HQ.out.symm ▸ HGQ.out)); have HRUN := Lib.hid hrun; have HO5 := Lib.hid hown; have HB5 : Hid (Below q w3 w5) := (Below.refl _ _).drew.trans ((show Below q w3.drew w4 from HQ.out ▸ hb4).trans hb5); obtain ⟨d0, d1, d2, d3, d4, d5, d6⟩ := (Box.below (w := w3.drew) HN3.out hb4 HN3.out.lt).cells; obtain ⟨e0, e1, e2, e3, e4, e5, e6⟩ := (HN3.out.below HB5.out (HQ.out ▸ HN3.out.lt)).cells; clear hg4 hblk4 hb4 hrun hown hb5)
      | (refine step_app rfl (.tmp 14) (.tmp 16) 148 rfl rfl rfl HRUN.out ?_))
  clear d0 d1 d2 d3 d4 d5 d6 e0 e1 e2 e3 e4 e5 e6 c0 c1 c2 c3 c4 c5 c6 HHD HRUN
  have HSF : Hid (w5.ownsRow q 5 1 V (64 + 64 * 0) (enc (soFar F R 0))) := (by have := HO5.out; show World.ownsRow _ _ _ _ _ _ _; simpa [soFar, tags] using this)
  have HLE2 : Hid (L = soFar F R m) := HLE.out
  have HPQ : Hid (p < q) := HQ.out ▸ HN3.out.lt
  clear HO5 HLE
  have HLOOP : Hid (m = 0 ∧ N = 28 ∨ ¬ N = 28 ∧ 0 < m) := by
    have := HNM.out
    show _ ∨ _
    omega
  have HA0 : Hid (∃ A0 : Option Addr, RestAt m A0 g (28 + 63 * 0) ∧ (N = 28 ∧ A0 = some ⟨g, 0, none⟩ ∨ ¬ N = 28 ∧ A0 = some ⟨g, 28, none⟩)) := by
    rcases HLOOP.out with ⟨h1, h2⟩ | ⟨h1, h2⟩
    · exact ⟨some ⟨g, 0, none⟩, fun h => (by omega), .inl ⟨h2, rfl⟩⟩
    · exact ⟨some ⟨g, 28, none⟩, fun _ => rfl, .inr ⟨h1, rfl⟩⟩
  obtain ⟨A0, hA1, hA2⟩ := HA0.out
  have HA1 := Lib.hid hA1
  obtain ⟨M, hM⟩ : ∃ M, N - 28 = M := ⟨_, rfl⟩
  have HM1 : Hid (M = 63 * m) := by have := HNM.out; show _ = _; omega
  have HM2 := Lib.hid hM
  clear hA1 HA0 HLOOP
  rcases hA2 with ⟨hN, hA2⟩ | ⟨hN, hA2⟩
  all_goals
    first
      | (subst hN; subst hA2; obtain rfl : M = 0 := by omega)
      | subst hA2
    go_wp2
    try rw [HM2.out]
    clear hM
    go_loopg [5, 6] m (fun gk s5 s6 wx => ∃ (i K : Nat) (V' : Value) (A' : Option Addr), i + gk = m ∧ V' = s5 ∧ s6 = .slice A' K K ∧ Hid (K = 63 * gk) ∧ Hid (RestAt gk A' g (28 + 63 * i)) ∧ Hid (wx.ownsRow q 5 1 V' (64 + 64 * i) (enc (soFar F R i))) ∧ Hid (Below q w3 wx))
    case atStart => exact ⟨0, _, V, _, by omega, rfl, rfl, HM1, HA1, HSF, HB5⟩
    case round =>
      obtain ⟨i, K, V', A', hik, rfl, rfl, HK, HA, HO, HW⟩ := hrel
      cases gk with
      | zero =>
        obtain rfl : i = m := by omega
        obtain rfl : K = 0 := HK.out
        go_wp2
        go_ret2
        refine ⟨V', rfl, ?_, ?_⟩
        · rw [HLE2.out, soFar_len HFL.out (by rw [HRL.out]; have := HNM.out; omega)]
          exact own_mono HO.out (by have h1 := HPQ.out; omega)
        · have h1 := HPQ.out
          rw [hp]
          exact HB3.out.trans (HW.out.mono (by omega))
      | succ gk =>
        obtain rfl := HA.out (by omega)
        have hKe : K = 63 * (gk + 1) := HK.out
        have hRi : 28 + 63 * i + 63 ≤ R.length := by rw [HRL.out]; have := HNM.out; omega
        have hsl : (soFar F R i).length = 64 + 64 * i := soFar_len HFL.out (by omega)
        obtain ⟨V1, x1, V2, x2, hr1, hr2, hown, hbel⟩ := app_line (w := wr) (q := q) (g := g) (a := 28 + 63 * i) (k := K) (V := V') (R := R) (l := soFar F R i) (by rw [HRL.out]; omega) hRi (by omega) HGQ.out (Nat.le_trans (Nat.le_of_eq HQ.out.symm) HW.out.size) (by rw [hsl]; exact HO.out) (Blk.below HK3.out HW.out HGQ.out)
        rw [soFar_next (by omega), hsl] at hown
        have HR1 := Lib.hid hr1
        have HR2 := Lib.hid hr2
        have HO2 : Hid (x2.ownsRow q 5 1 V2 (64 + 64 * (i + 1)) (enc (soFar F R (i + 1)))) := hown
        have HW2 : Hid (Below q w3 x2) := HW.out.trans hbel
        have hK1 : 0 < K := by omega
        have hK2 : 63 ≤ K := by omega
        have hK3 : K ≤ 469 := by omega
        have hK4 : (63 : Int) ≤ (K : Int) := by omega
        obtain ⟨K2, hK5⟩ : ∃ K2, K - 63 = K2 := ⟨_, rfl⟩
        have HK5 := Lib.hid hK5
        have HKN : Hid (K2 = 63 * gk) := by show _ = _; omega
        rcases Classical.em (K = 63) with hKK | hKK
        · obtain rfl : gk = 0 := by omega
          obtain rfl : K2 = 0 := by omega
          subst hKK
          clear hKe hRi hsl hr1 hr2 hown hbel hK5 hK1 hK2 hK3 hK4
          go_wp2_with (first | (at_builtin; refine wpList_app rfl (.tmp 25) (.tmp 26) 148 rfl rfl rfl HR1.out ?_) | (at_builtin; refine wpList_app rfl (.tmp 28) (.tmp 30) 148 rfl rfl rfl HR2.out ?_))
          go_roundg 0
          case measure => omega
          case rel => exact ⟨i + 1, 0, V2, _, by omega, rfl, rfl, rfl, fun h => absurd h (by omega), HO2, HW2⟩
        · have hgk : 0 < gk := by omega
          clear hKe hRi hsl hr1 hr2 hown hbel hK5
          go_wp2_with (first | (at_builtin; refine wpList_app rfl (.tmp 25) (.tmp 26) 148 rfl rfl rfl HR1.out ?_) | (at_builtin; refine wpList_app rfl (.tmp 28) (.tmp 30) 148 rfl rfl rfl HR2.out ?_))
          rw [HK5.out]
          go_roundg gk
          case measure => omega
          case rel => exact ⟨i + 1, K2, V2, _, by omega, rfl, rfl, HKN, fun _ => (by rw [show 28 + 63 * i + 63 = 28 + 63 * (i + 1) by omega]), HO2, HW2⟩

end Go.Proofs.YtlghphccmgmomaaGreat
