/-
    Proved here: what package block's put, get and paddedData answer.
  Conditions: a block that may be.
-/
import Derived.Test.YtokobelmoanneaaBlockC
import Derived.Test.YtokobelmoanneaaArrs
import Derived.Test.YtokobelmoanneaaSum
import Derived.Lib.BufferWrite
import Derived.StillTailTactics
namespace Go.Proofs.Ytokobelmoanneaa
open Go Go.RowKit

/-- What put leaves: a row of its own. -/
def BlkTo (w : World) (n : Nat) (r : List UInt8) (e : Ending) (w' : World) : Prop :=
  ∃ g, e = .returned (.slice (some ⟨g, 0, none⟩) n n) ∧ w.heap.size ≤ g ∧ Blk w' g (enc r) ∧ Below w.heap.size w w'
set_option maxHeartbeats 400000 in
theorem bput_ok (A : Option Addr) (n c : Nat) (l : List UInt8) (hl : l.length = n) (a k v : Nat) (hv : v < 18446744073709551616) (h1 : 1 ≤ k) (h8 : k ≤ 8) (ha : a + k ≤ n) (hf : fit v k = true) (w : World) (hr : Row w A l) :
    Calls Try.prog 48 #[.slice A n c, .int .i64 a, .int .i64 k, .int .u64 v] w (BlkTo w n (splice l a (lay k v))) := by
  have H := Lib.hid (put_ok A n c l hl a k v hv h1 h8 ha hf w hr)
  generalize splice l a (lay k v) = r at *
  clear hl hv h1 h8 ha hf hr
  go_enter Try.func48, Try.ntmps48
  go_wp2_with fail
  refine H.out.mono ?_
  rintro e w' ⟨g, rfl, hg, hb, hw⟩
  have HG := Lib.hid hg
  have HB := Lib.hid hb
  have HW := Lib.hid hw
  clear hg hb hw
  go_wp2
  go_ret
  exact ⟨g, rfl, HG.out, HB.out, HW.out⟩
set_option maxHeartbeats 400000 in
theorem bget_ok (A : Option Addr) (n c : Nat) (l : List UInt8) (hl : l.length = n) (a k : Nat) (h1 : 1 ≤ k) (h8 : k ≤ 8) (ha : a + k ≤ n) (w : World) (hr : Row w A l) :
    Calls Try.prog 54 #[.slice A n c, .int .i64 a, .int .i64 k] w fun e w' => e = .returned (.int .u64 (le (cut l a k) : Nat)) ∧ w = w' := by
  have H := Lib.hid (get_ok A n c l hl a k h1 h8 ha w hr)
  generalize le (cut l a k) = r at *
  clear hl h1 h8 ha hr
  go_enter Try.func54, Try.ntmps54
  go_wp2_with fail
  refine H.out.mono ?_
  rintro e w' ⟨rfl, rfl⟩
  go_wp2
  go_ret
  exact ⟨rfl, rfl⟩
theorem splice_enc (x y : List UInt8) (o : Nat) : splice (enc x) o (enc y) = enc (splice x o y) := by simp [splice, enc]
theorem copy_str {w : World} {g o : Nat} {x : List UInt8} (h : Blk w g (enc x)) (s : ByteArray) (d c : Nat) (hd : s.size ≤ d) (hx : o + s.size ≤ x.length) :
    ∃ w', (Builtin.copy_ #[27, 9] 3 #[.slice (some ⟨g, o, none⟩) d c, .string s]).run Try.prog w = .ok (goInt s.size) w' ∧ Blk w' g (enc (splice x o s.data.toList)) ∧ Below g w w' := by
  have hr := Lib.run_copy_row_string (P := Try.prog) w 27 9 3 5 g o d c s (enc x).toArray 5 Try.underlying27 byte_size h hd (by simp [enc_len]; omega)
  refine ⟨_, hr, ?_, ⟨rfl, rfl, rfl, by simp, fun k hk => setRow_other _ _ k _ (by omega)⟩⟩
  unfold Blk
  rw [setRow_heap w g _ _ _ _ h, ← splice_enc, splice, enc_len, show s.data.toList.length = s.size from rfl, List.append_assoc]
  rfl
theorem splice_pre (p r ys : List UInt8) : splice (p ++ r) p.length ys = (p ++ ys) ++ r.drop ys.length := by
  simp [splice, List.drop_append]
theorem spliceLen (x ys : List UInt8) (o : Nat) (h : o + ys.length ≤ x.length) : (splice x o ys).length = x.length := by
  simp [splice]
  omega
set_option maxHeartbeats 800000 in
set_option maxRecDepth 100000 in
theorem padded_any (b : BV) (hm : mayB b = true) (w : World) : Calls Try.prog 34 #[b.agg] w (BlkTo w (28 + 63 * restN b.cl) (roomL b)) := by
  have HCAP := Lib.hid (fun W => cap_any b.cl W)
  rw [capN_rest (mayB_cl hm)] at HCAP
  obtain ⟨hks, hvs, _⟩ := mayB_sizes hm
  have hdl := data_le hm
  rw [dataL_len] at hdl
  have hlen := restN_le b.cl
  have e2 : splice (splice (List.replicate (28 + 63 * restN b.cl) 0) 0 b.K) b.key.size b.V = roomL b := by
    have h1 := splice_pre [] (List.replicate (28 + 63 * restN b.cl) 0) b.K
    simp only [List.nil_append, List.length_nil, List.drop_replicate] at h1
    have h2 := splice_pre b.K (List.replicate (28 + 63 * restN b.cl - b.K.length) 0) b.V
    rw [h1, ← K_len, h2, roomL, dataL, List.drop_replicate, List.length_append, Nat.sub_sub]
  obtain ⟨w1, hmk, hblk, hbel⟩ := made (w.alloc (.cells #[.int .i64 b.cl, .int .i64 b.kd, .int .u64 (b.id : Nat), .int .u64 (b.ver : Nat), .int .u64 (b.ep : Nat), .string b.key, .string b.val] 24)) (28 + 63 * restN b.cl) (by omega)
  obtain ⟨g, hg⟩ : ∃ g, (w.alloc (.cells #[.int .i64 b.cl, .int .i64 b.kd, .int .u64 (b.id : Nat), .int .u64 (b.ver : Nat), .int .u64 (b.ep : Nat), .string b.key, .string b.val] 24)).heap.size = g := ⟨_, rfl⟩
  have hwg : w.heap.size + 1 = g := by rw [← hg]; simp
  rw [hg] at hmk hblk hbel
  have hz : List.replicate (28 + 63 * restN b.cl) (z8 0) = enc (List.replicate (28 + 63 * restN b.cl) 0) := by simp [enc, z8]
  rw [hz] at hblk
  obtain ⟨w2, hc1, hb2, hbe2⟩ := copy_str (o := 0) hblk b.key (28 + 63 * restN b.cl) (28 + 63 * restN b.cl) (by omega) (by rw [List.length_replicate]; omega)
  obtain ⟨w3, hc2, hb3, hbe3⟩ := copy_str (w := w2.drew) (o := b.key.size) hb2 b.val (28 + 63 * restN b.cl - b.key.size) (28 + 63 * restN b.cl - b.key.size) (by omega) (by rw [spliceLen _ _ _ (by rw [List.length_replicate, show b.key.data.toList.length = b.key.size from rfl]; omega), List.length_replicate]; omega)
  have e3 : splice (splice (List.replicate (28 + 63 * restN b.cl) 0) 0 b.key.data.toList) b.key.size b.val.data.toList = roomL b := e2
  rw [e3] at hb3
  have hkey1 : w1.cell? ⟨w.heap.size, 5, none⟩ = some (.string b.key) := (hbel.cell (p := ⟨w.heap.size, 5, none⟩) (by show w.heap.size < g; omega)).trans (by simp)
  have hval2 : w2.drew.cell? ⟨w.heap.size, 6, none⟩ = some (.string b.val) := (hbe2.cell (p := ⟨w.heap.size, 6, none⟩) (by show w.heap.size < g; omega)).trans ((hbel.cell (p := ⟨w.heap.size, 6, none⟩) (by show w.heap.size < g; omega)).trans (by simp))
  have HBW : Hid (Below w.heap.size w w3) := (((Below.refl _ _).alloc (Nat.le_refl _) _).trans (hbel.mono (by omega))).trans ((hbe2.drew.mono (by omega)).trans (hbe3.mono (by omega)))
  have HB3 := Lib.hid hb3
  have HC1 := Lib.hid hc1
  have HC2 := Lib.hid hc2
  have HWG := Lib.hid hwg
  have hn0 : ¬ 28 + 63 * restN b.cl = b.key.size := by omega
  have hle : b.key.size ≤ 28 + 63 * restN b.cl := by omega
  clear hc1 hc2 hb2 hb3 hbe2 hbe3 hblk hbel e2 e3 hz hwg hg hdl hm
  rw [BV.agg]
  generalize 28 + 63 * restN b.cl = n at *
  generalize roomL b = R at *
  obtain ⟨cl, kd, id, ver, ep, key, val⟩ := b
  simp only at *
  go_enter Try.func34, Try.ntmps34
  go_wp2_with fail
  refine (HCAP.out _).mono ?_
  rintro e w' ⟨rfl, rfl⟩
  go_wp2_with (refine wpList_copy (o := ⟨some 12, _, _, _, _, _⟩) rfl (.tmp 9) (.tmp 11) 27 9 rfl rfl rfl HC1.out ?_)
  refine wp_region_still_tail 5 (by kernel_rfl) (by kernel_rfl) ?_
  change wpStill _ _ w2.drew _ _ _
  simp only [List.take_succ_cons, List.take_zero, List.drop_succ_cons, List.drop_zero]
  iterate 5 still_step
  refine wpStill_nil ?_
  go_wp2_with (refine wpList_copy (o := ⟨some 18, _, _, _, _, _⟩) rfl (.tmp 15) (.tmp 17) 27 9 rfl rfl rfl HC2.out ?_)
  go_ret
  exact ⟨g, rfl, by have := HWG.out; omega, HB3.out, HBW.out⟩

end Go.Proofs.Ytokobelmoanneaa
