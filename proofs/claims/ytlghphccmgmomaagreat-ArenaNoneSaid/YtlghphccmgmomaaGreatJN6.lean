/-
  Proved here, joined: GeomA, GeomB, GeomS, GeomE
  Conditions: as each part says.
-/
import Derived.Test.YtlghphccmgmomaaGreatJN5
import Derived.Test.YtlghphccmgmomaaGreatJN1
import Derived.Laws.Cover3
import Derived.Lib.BufferWrite
import Derived.IntWalk
import Derived.WalkSmall
import Derived.Test.YtlghphccmgmomaaGreatJN4
import Derived.Deep.RegionHeld3
import Derived.Deep.RegionWith

/-
  Proved here: what package geom's put, get, seal and clockContent answer and leave.
  Conditions: none but that the places lie in the line.
-/
namespace Go.Proofs.YtlghphccmgmomaaGreat
open Go Go.RowKit
set_option maxRecDepth 100000

abbrev ArrG (w : World) (g : Nat) (x : List UInt8) : Prop := Arr 305 w g x
theorem size_gcontent : (Tryz.prog.info? 305).map (·.size) = some 64 := by kernel_rfl
theorem splice_enc (x y : List UInt8) (a : Nat) : splice (enc x) a (enc y) = enc (splice x a y) := by simp [splice, enc]

set_option maxHeartbeats 800000 in
set_option maxRecDepth 100000 in
theorem gput_ok {w : World} {g : Nat} {x : List UInt8} (h : ArrG w g x) (hx : x.length = 64) (a k v : Nat) (hv : v < 18446744073709551616) (h1 : 1 ≤ k) (h8 : k ≤ 8) (ha : a + k ≤ 64) (hf : fit v k = true) :
    Calls Tryz.prog 233 #[.pointer (some ⟨g, 0, none⟩), .int .i64 a, .int .i64 k, .int .u64 v] w fun e w' => e = .returned (.tuple #[]) ∧ ArrG w' g (splice x a (lay k v)) ∧ Below g w w' := by
  have HP := Lib.hid (put_ok (some ⟨g, 0, none⟩) 64 64 x hx a k v hv h1 h8 ha hf w (h.row (by omega)))
  have HS := Lib.hid (splice_len x a k v (by omega))
  generalize splice x a (lay k v) = r at *
  have HX := Lib.hid hx
  have HA := Lib.hid h
  clear h hx hf
  go_enter Tryz.func233, Tryz.ntmps233
  go_wp2_with fail
  refine HP.out.mono ?_
  rintro e w1 ⟨g2, rfl, hg2, hblk, hb1⟩
  have HG : Hid (w1.heap[g]? = some (.cells (enc x).toArray 305 (0, 0))) := HA.out.below hb1 HA.out.lt
  have HF : Hid (∀ j u, (enc r)[j]? = some u → w1.cell? ((⟨g2, 0, none⟩ : Addr).add j) = some u) := by
    intro j u hu
    rw [add_plain, Nat.zero_add, Blk.cell hblk]
    exact hu
  have HB1 : Hid (Below g w w1) := hb1.mono (Nat.le_of_lt HA.out.lt)
  clear hblk hb1
  go_wp2_with (refine wpList_copy_splice (o := ⟨some 26, _, _, _, _, _⟩) rfl (.tmp 24) (.tmp 25) 148 148 rfl 5 Tryz.underlying148 byte_size (some ⟨g, 0, none⟩) (some ⟨g2, 0, none⟩) 64 64 64 64 rfl rfl g 0 (enc x) 305 HG.out (enc r) (by rw [enc_len, HS.out, HX.out]; rfl) (fun h => ⟨rfl, _, rfl, HF.out⟩) (by rw [enc_len, enc_len, HS.out]; omega) enc_one g w HB1.out (Nat.le_refl _) ?_; intro w2 HG2 hB2; have HB2 := Lib.hid hB2; clear hB2)
  refine bodyPost_end (results_none rfl _ _ _) rfl ?_
  refine ⟨rfl, ?_, HB2.out⟩
  have := HG2.out
  rw [splice_enc, splice, List.take_zero, List.nil_append, List.drop_of_length_le (by have := HS.out; omega), List.append_nil] at this
  exact this
set_option maxHeartbeats 400000 in
theorem gseal_ok {w : World} {g : Nat} {x : List UInt8} (h : ArrG w g (padded x)) (hx : x.length = 9) :
    Calls Tryz.prog 234 #[.pointer (some ⟨g, 0, none⟩)] w fun e w' => e = .returned (.tuple #[]) ∧ ArrG w' g (sealed x) ∧ Below g w w' := by
  have hl := padded_len (pre := x) (by omega)
  have hrow := h.row (by omega)
  have hr9 : Row w (some ⟨g, 0, none⟩) x := by
    refine ⟨by omega, fun _ => ?_⟩
    obtain ⟨b, off, e, hlt, hc⟩ := hrow.2 (by omega)
    refine ⟨b, off, e, hlt, fun k hk => ?_⟩
    rw [hc k (by omega)]
    simp [padded, List.getD, List.getElem?_append_left hk]
  have HS := Lib.hid (sum_any (some ⟨g, 0, none⟩) 9 64 x hx w hr9)
  have hlt := addS_lt (c := 0) (l := x) (by omega)
  have hp := gput_ok h hl 9 4 (addS 0 x) (by omega) (by omega) (by omega) (by omega) (fit_of (by simpa using hlt))
  have e := padded_splice x (lay 4 (addS 0 x)) (by rw [lay_len]; omega)
  rw [hx] at e
  rw [e] at hp
  have HP := Lib.hid hp
  have HE : Hid (sealed x = padded (x ++ lay 4 (addS 0 x))) := rfl
  rw [← HE.out] at HP
  generalize sealed x = y at *
  generalize addS 0 x = s at *
  clear h hx hl hrow hr9 hp e
  go_enter Tryz.func234, Tryz.ntmps234
  go_wp2_with fail
  refine HS.out.mono ?_
  rintro e w1 ⟨rfl, rfl⟩
  go_wp2_with fail
  refine HP.out.mono ?_
  rintro e w1 ⟨rfl, hA, hB⟩
  go_wp2
  refine bodyPost_end (results_none rfl _ _ _) rfl ?_
  exact ⟨rfl, hA, hB⟩

theorem zero_gcontent : (Tryz.prog.info? 305).bind (·.zero) = some (.agg (enc zeros64).toArray) := by kernel_rfl
theorem arr_range {T : TypeId} {w : World} {g : Nat} {x : List UInt8} (h : Arr T w g x) : w.rangeAt g 0 (enc x) := fun j u hu => by
  have hj := (List.getElem?_eq_some_iff.1 hu).1
  unfold Arr at h
  simp [World.cell?, h, hu]
/-- A result that is an array in a block of its own. -/
theorem results_arr {fn : Func} {t : Tmp} {T : TypeId} (hf : fn.results = #[.cell t T]) (hu : Tryz.prog.underlying T = some (.array 64 5)) (hs : (Tryz.prog.info? T).map (·.size) = some 64) {tmps : Array Value} {g : Nat} (ht : tmps.getD t undef = .pointer (some ⟨g, 0, none⟩)) {w : World} {x : List UInt8} (h : Arr T w g x) (hx : x.length = 64) :
    (results fn tmps).run Tryz.prog w = .ok (.agg (enc x).toArray) w := by
  have hr := arr_range h
  have hl := run_loadVar_mid (P := Tryz.prog) w g 0 T (enc x) _ hr hu rfl (by rw [enc_len, hx]; exact hs)
  have ht' : tmps[t]?.getD undef = .pointer (some ⟨g, 0, none⟩) := by simpa using ht
  simp [results, hf, ht', hl, asAddr]
/-- What an array of a call's own leaves. -/
def ArrTo (w : World) (x : List UInt8) (e : Ending) (w' : World) : Prop := e = .returned (.agg (enc x).toArray) ∧ Below w.heap.size w w'

set_option maxHeartbeats 800000 in
set_option maxRecDepth 100000 in
theorem gclock_ok (v : Nat) (hv : v < 18446744073709551616) (w : World) : Calls Tryz.prog 218 #[.int .u64 v] w (ArrTo w (clockL v)) := by
  obtain ⟨g, hg⟩ : ∃ g, w.heap.size = g := ⟨_, rfl⟩
  have HG := Lib.hid hg
  have HZ := Lib.hid zero_gcontent
  have HP1 := Lib.hid (fun W k (h : ArrG W k zeros64) => gput_ok h (by rfl) 0 1 3 (by omega) (by omega) (by omega) (by omega) (by decide))
  have HP2 := Lib.hid (fun W k (h : ArrG W k (padded (lay 1 3))) => gput_ok h (by rfl) 1 8 v hv (by omega) (by omega) (by omega) (fit_of (by rw [pow8_eight]; exact hv)))
  have HP3 := Lib.hid (fun W k (h : ArrG W k (padded (clockNine v))) => gseal_ok h (clockNine_len v))
  have e1 : splice zeros64 0 (lay 1 3) = padded (lay 1 3) := padded_splice [] (lay 1 3) (by simp [lay_len])
  have e2 : splice (padded (lay 1 3)) 1 (lay 8 v) = padded (clockNine v) := padded_splice (lay 1 3) (lay 8 v) (by simp [lay_len])
  rw [e1] at HP1
  rw [e2] at HP2
  have HZL := Lib.hid zeros64_len
  have HL := Lib.hid (clockL_len v)
  rw [show sealed (clockNine v) = clockL v from rfl] at HP3
  generalize clockL v = x at *
  generalize zeros64 = Z at *
  generalize padded (lay 1 3) = y1 at *
  generalize padded (clockNine v) = y2 at *
  clear e1 e2 hg
  go_enter Tryz.func218, Tryz.ntmps218
  go_wp2_with (first
    | ((with_reducible show wpList _ _ _ (⟨some 2, .alloc _, _, _, _, _⟩ :: _) _ _); refine wpList_alloc_var (o := ⟨some 2, _, _, _, _, _⟩) rfl 305 rfl g HG.out _ HZ.out ?_; intro w1 HA1 HB1; obtain ⟨q, hq⟩ : ∃ q, w1.heap.size = q := ⟨_, rfl⟩; have HQ := Lib.hid hq; clear hq)
    | ((with_reducible show wpList _ _ _ (⟨some 3, .alloc _, _, _, _, _⟩ :: _) _ _); refine wpList_alloc_var (o := ⟨some 3, _, _, _, _, _⟩) rfl 305 rfl q HQ.out _ HZ.out ?_; intro w2 HA2 HB2)
    | ((with_reducible show Calls _ 233 #[_, .int .i64 0, _, _] _ _); refine (HP1.out w2 q HA2.out).mono ?_; rintro e w3 ⟨rfl, ha, hb⟩; have HA3 := Lib.hid ha; have HB3 := Lib.hid hb; clear ha hb)
    | ((with_reducible show Calls _ 233 #[_, .int .i64 1, _, _] _ _); refine (HP2.out w3 q HA3.out).mono ?_; rintro e w4 ⟨rfl, ha, hb⟩; have HA4 := Lib.hid ha; have HB4 := Lib.hid hb; clear ha hb)
    | ((with_reducible show Calls _ 234 _ _ _); refine (HP3.out w4 q HA4.out).mono ?_; rintro e w5 ⟨rfl, ha, hb⟩; have HR5 := Lib.hid (arr_range ha); have HA5 : Hid (w5.heap[g]? = some (.cells (enc Z).toArray 305 (0, 0))) := ((((HB2.out.trans HB3.out).trans HB4.out).trans hb).block g (HQ.out ▸ lt_of_heap HA1.out)).trans HA1.out; have HB5 := Lib.hid hb; clear ha hb)
    | ((with_reducible show wpList _ _ _ (⟨some 8, _, _, _, _, _⟩ :: _) _ _); refine wpList_load_agg (o := ⟨some 8, _, _, _, _, _⟩) rfl 305 (.tmp 3) rfl q 0 rfl (enc x) _ HR5.out Tryz.underlying305 rfl (by rw [enc_len, HL.out]; exact size_gcontent) ?_)
    | ((with_reducible show wpList _ _ _ (⟨none, .store _ _ _, _, _, _, _⟩ :: _) _ _); refine wpList_store_whole (o := ⟨none, .store 305 (.tmp 2) (.tmp 8), _, _, _, _⟩) rfl _ _ _ rfl rfl g (enc x).toArray rfl rfl 305 (enc Z).toArray HA5.out (by rw [List.size_toArray, enc_len, HL.out]; exact size_gcontent) (by rw [List.size_toArray, List.size_toArray, enc_len, enc_len, HL.out, HZL.out]) (all_enc x) ?_; intro w6 HA6 HB6))
  refine bodyPost_ret (results_arr rfl Tryz.underlying305 size_gcontent rfl HA6.out HL.out) rfl ⟨rfl, ?_⟩
  rw [HG.out]
  have hgq : g ≤ q := Nat.le_of_lt (HQ.out ▸ lt_of_heap HA1.out)
  exact HB1.out.trans ((((HB2.out.trans HB3.out).trans HB4.out).trans HB5.out).mono hgq |>.trans HB6.out)

end Go.Proofs.YtlghphccmgmomaaGreat

/-
  Proved here: what package geom's superContent, contentOf, holdsSlabs, Super and Clock answer and leave.
  Conditions: none.
-/
namespace Go.Proofs.YtlghphccmgmomaaGreat
open Go Go.RowKit
set_option maxRecDepth 100000

theorem copy_fuse {w : World} {g : Nat} {x : List UInt8} (h : ArrG w g x) (hx : x.length = 64) :
    ∃ w', (Builtin.copy_ #[148, 9] 3 #[.slice (some ⟨g, 1, none⟩) 63 63, .string ⟨#[70, 85, 83, 69]⟩]).run Tryz.prog w = .ok (goInt 4) w' ∧ ArrG w' g (splice x 1 [70, 85, 83, 69]) ∧ Below g w w' := by
  have hr := Lib.run_copy_row_string (P := Tryz.prog) w 148 9 3 5 g 1 63 63 ⟨#[70, 85, 83, 69]⟩ (enc x).toArray 305 Tryz.underlying148 byte_size h (by decide) (by simp [enc_len, hx, ByteArray.size])
  refine ⟨_, hr, ?_, ⟨rfl, rfl, rfl, by simp, fun k hk => setRow_other _ _ k _ (by omega)⟩⟩
  unfold ArrG Arr
  rw [setRow_heap w g _ _ _ _ h, ← splice_enc]
  simp [splice, enc, Lib.byteCells, ByteArray.size]

set_option maxHeartbeats 800000 in
set_option maxRecDepth 100000 in
theorem gsuper_ok (v : Nat) (hv : v < 4294967296) (w : World) : Calls Tryz.prog 217 #[.int .i64 v] w (ArrTo w (superL v)) := by
  obtain ⟨g, hg⟩ : ∃ g, w.heap.size = g := ⟨_, rfl⟩
  have HG := Lib.hid hg
  have HZ := Lib.hid zero_gcontent
  have HP1 := Lib.hid (fun W k (h : ArrG W k zeros64) => gput_ok h (by rfl) 0 1 4 (by omega) (by omega) (by omega) (by omega) (by decide))
  have HPC := Lib.hid (fun W k (h : ArrG W k (padded (lay 1 4))) => copy_fuse h (by rfl))
  have HP2 := Lib.hid (fun W k (h : ArrG W k (padded (lay 1 4 ++ [70, 85, 83, 69]))) => gput_ok h (by rfl) 5 4 v (by omega) (by omega) (by omega) (by omega) (fit_of (by simpa using hv)))
  have HP3 := Lib.hid (fun W k (h : ArrG W k (padded (superNine v))) => gseal_ok h (superNine_len v))
  have e1 : splice zeros64 0 (lay 1 4) = padded (lay 1 4) := padded_splice [] (lay 1 4) (by simp [lay_len])
  have ec : splice (padded (lay 1 4)) 1 [70, 85, 83, 69] = padded (lay 1 4 ++ [70, 85, 83, 69]) := padded_splice (lay 1 4) [70, 85, 83, 69] (by simp [lay_len])
  have e2 : splice (padded (lay 1 4 ++ [70, 85, 83, 69])) 5 (lay 4 v) = padded (superNine v) := padded_splice (lay 1 4 ++ [70, 85, 83, 69]) (lay 4 v) (by simp [lay_len])
  rw [e1] at HP1
  rw [ec] at HPC
  rw [e2] at HP2
  have HZL := Lib.hid zeros64_len
  have HL := Lib.hid (superL_len v)
  rw [show sealed (superNine v) = superL v from rfl] at HP3
  generalize superL v = x at *
  generalize zeros64 = Z at *
  generalize padded (lay 1 4 ++ [70, 85, 83, 69]) = yc at *
  generalize padded (lay 1 4) = y1 at *
  generalize padded (superNine v) = y2 at *
  clear e1 e2 ec hg
  have hwr : IntKind.u64.wrap (v : Int) = (v : Int) := by show (v : Int) % 18446744073709551616 = _; omega
  go_enter Tryz.func217, Tryz.ntmps217
  go_wp2_with (first
    | ((with_reducible show wpList _ _ _ (⟨some 2, .alloc _, _, _, _, _⟩ :: _) _ _); refine wpList_alloc_var (o := ⟨some 2, _, _, _, _, _⟩) rfl 305 rfl g HG.out _ HZ.out ?_; intro w1 HA1 HB1; obtain ⟨q, hq⟩ : ∃ q, w1.heap.size = q := ⟨_, rfl⟩; have HQ := Lib.hid hq; clear hq)
    | ((with_reducible show wpList _ _ _ (⟨some 3, .alloc _, _, _, _, _⟩ :: _) _ _); refine wpList_alloc_var (o := ⟨some 3, _, _, _, _, _⟩) rfl 305 rfl q HQ.out _ HZ.out ?_; intro w2 HA2 HB2)
    | ((with_reducible show Calls _ 233 #[_, .int .i64 0, _, _] _ _); refine (HP1.out w2 q HA2.out).mono ?_; rintro e w3 ⟨rfl, ha, hb⟩; obtain ⟨w3c, hrun, hac, hbc⟩ := HPC.out w3 q ha; have HRC := Lib.hid hrun; have HAC := Lib.hid hac; have HB3 := Lib.hid (hb.trans hbc); clear ha hb hrun hac hbc)
    | ((with_reducible show wpList _ _ _ (⟨some 6, _, _, _, _, _⟩ :: _) _ _); refine wpList_copy (o := ⟨some 6, _, _, _, _, _⟩) rfl (.tmp 5) (.const (.string ⟨#[70, 85, 83, 69]⟩)) 148 9 rfl rfl rfl HRC.out ?_)
    | ((with_reducible show Calls _ 233 #[_, .int .i64 5, _, _] _ _); refine (HP2.out w3c q HAC.out).mono ?_; rintro e w4 ⟨rfl, ha, hb⟩; have HA4 := Lib.hid ha; have HB4 := Lib.hid hb; clear ha hb)
    | ((with_reducible show Calls _ 234 _ _ _); refine (HP3.out w4 q HA4.out).mono ?_; rintro e w5 ⟨rfl, ha, hb⟩; have HR5 := Lib.hid (arr_range ha); have HA5 : Hid (w5.heap[g]? = some (.cells (enc Z).toArray 305 (0, 0))) := ((((HB2.out.trans HB3.out).trans HB4.out).trans hb).block g (HQ.out ▸ lt_of_heap HA1.out)).trans HA1.out; have HB5 := Lib.hid hb; clear ha hb)
    | ((with_reducible show wpList _ _ _ (⟨some 11, _, _, _, _, _⟩ :: _) _ _); refine wpList_load_agg (o := ⟨some 11, _, _, _, _, _⟩) rfl 305 (.tmp 3) rfl q 0 rfl (enc x) _ HR5.out Tryz.underlying305 rfl (by rw [enc_len, HL.out]; exact size_gcontent) ?_)
    | ((with_reducible show wpList _ _ _ (⟨none, .store _ _ _, _, _, _, _⟩ :: _) _ _); refine wpList_store_whole (o := ⟨none, .store 305 (.tmp 2) (.tmp 11), _, _, _, _⟩) rfl _ _ _ rfl rfl g (enc x).toArray rfl rfl 305 (enc Z).toArray HA5.out (by rw [List.size_toArray, enc_len, HL.out]; exact size_gcontent) (by rw [List.size_toArray, List.size_toArray, enc_len, enc_len, HL.out, HZL.out]) (all_enc x) ?_; intro w6 HA6 HB6))
  refine bodyPost_ret (results_arr rfl Tryz.underlying305 size_gcontent rfl HA6.out HL.out) rfl ⟨rfl, ?_⟩
  rw [HG.out]
  have hgq : g ≤ q := Nat.le_of_lt (HQ.out ▸ lt_of_heap HA1.out)
  exact HB1.out.trans ((((HB2.out.trans HB3.out).trans HB4.out).trans HB5.out).mono hgq |>.trans HB6.out)
/-- May a device have so many lines, and hold a slab? -/
def holds (x : Int) : Bool := decide (10 ≤ x) && decide (x ≤ 258)
theorem holds_of {n : Nat} (h : 10 ≤ n) (h2 : n ≤ 258) : holds (n : Int) = true := by simp [holds]; omega
set_option maxHeartbeats 400000 in
theorem gholds_any (x : Int) (w : World) : Calls Tryz.prog 216 #[.int .i64 x] w fun e w' => e = .returned (.bool (holds x)) ∧ w = w' := by
  rcases Classical.em (10 ≤ x) with h1 | h1 <;> rcases Classical.em (x ≤ 258) with h2 | h2
  all_goals
    have H : Hid (holds x = (decide (10 ≤ x) && decide (x ≤ 258))) := rfl
    go_enter Tryz.func216, Tryz.ntmps216
    go_wp2
    go_ret
    refine ⟨bool_eq ?_, rfl⟩
    rw [H.out]
    simp [h1, h2]

/-- What Super and Clock leave: 64 bytes of their own. -/
def BytesTo (w : World) (x : List UInt8) (g : Nat) (w' : World) : Prop := w.heap.size ≤ g ∧ ArrG w' g x ∧ Below w.heap.size w w'
def ClockTo (w : World) (x : List UInt8) (e : Ending) (w' : World) : Prop := ∃ g, e = .returned (.slice (some ⟨g, 0, none⟩) 64 64) ∧ BytesTo w x g w'
def SuperTo (w : World) (x : List UInt8) (e : Ending) (w' : World) : Prop := ∃ g, e = .returned (.tuple #[.slice (some ⟨g, 0, none⟩) 64 64, .int .i64 0]) ∧ BytesTo w x g w'
set_option maxHeartbeats 400000 in
set_option maxRecDepth 100000 in
theorem clock_ok (v : Nat) (hv : v < 18446744073709551616) (w : World) : Calls Tryz.prog 182 #[.int .u64 v] w (ClockTo w (clockL v)) := by
  have HC := Lib.hid (gclock_ok v hv w)
  have HZ := Lib.hid zero_gcontent
  have HZL := Lib.hid zeros64_len
  have HX := Lib.hid (clockL_len v)
  generalize clockL v = x at *
  generalize zeros64 = Z at *
  go_enter Tryz.func182, Tryz.ntmps182
  go_wp2_with fail
  refine HC.out.mono ?_
  rintro e w1 ⟨rfl, hb⟩
  obtain ⟨g, hg⟩ : ∃ g, w1.heap.size = g := ⟨_, rfl⟩
  have HG := Lib.hid hg
  have HB := Lib.hid hb
  clear hg hb
  go_wp2_with (first
    | ((with_reducible show wpList _ _ _ (⟨some 3, .alloc _, _, _, _, _⟩ :: _) _ _); refine wpList_alloc_var (o := ⟨some 3, _, _, _, _, _⟩) rfl 305 rfl g HG.out _ HZ.out ?_; intro w2 HA1 HB1)
    | ((with_reducible show wpList _ _ _ (⟨none, .store _ _ _, _, _, _, _⟩ :: _) _ _); refine wpList_store_whole (o := ⟨none, .store 305 (.tmp 3) (.tmp 5), _, _, _, _⟩) rfl _ _ _ rfl rfl g (enc x).toArray rfl rfl 305 (enc Z).toArray HA1.out (by rw [List.size_toArray, enc_len, HX.out]; exact size_gcontent) (by rw [List.size_toArray, List.size_toArray, enc_len, enc_len, HX.out, HZL.out]) (all_enc x) ?_; intro w6 HA6 HB6))
  go_ret
  have hs := HB.out.size
  exact ⟨g, rfl, by rw [← HG.out]; exact hs, HA6.out, HB.out.trans ((HB1.out.trans HB6.out).mono (by rw [← HG.out]; exact hs))⟩
set_option maxHeartbeats 400000 in
set_option maxRecDepth 100000 in
theorem super_ok (n : Nat) (h1 : 10 ≤ n) (h2 : n ≤ 258) (w : World) : Calls Tryz.prog 181 #[.int .i64 n] w (SuperTo w (superL n)) := by
  have hh := gholds_any n w
  rw [holds_of h1 h2] at hh
  have HH := Lib.hid hh
  have HC := Lib.hid (gsuper_ok n (by omega) w)
  have HZ := Lib.hid zero_gcontent
  have HZL := Lib.hid zeros64_len
  have HX := Lib.hid (superL_len n)
  generalize superL n = x at *
  generalize zeros64 = Z at *
  clear hh
  go_enter Tryz.func181, Tryz.ntmps181
  go_wp2_with fail
  refine HH.out.mono ?_
  rintro e w1 ⟨rfl, rfl⟩
  go_wp2_with fail
  refine HC.out.mono ?_
  rintro e w1 ⟨rfl, hb⟩
  obtain ⟨g, hg⟩ : ∃ g, w1.heap.size = g := ⟨_, rfl⟩
  have HG := Lib.hid hg
  have HB := Lib.hid hb
  clear hg hb
  go_wp2_with (first
    | ((with_reducible show wpList _ _ _ (⟨some 4, .alloc _, _, _, _, _⟩ :: _) _ _); refine wpList_alloc_var (o := ⟨some 4, _, _, _, _, _⟩) rfl 305 rfl g HG.out _ HZ.out ?_; intro w2 HA1 HB1)
    | ((with_reducible show wpList _ _ _ (⟨none, .store _ _ _, _, _, _, _⟩ :: _) _ _); refine wpList_store_whole (o := ⟨none, .store 305 (.tmp 4) (.tmp 9), _, _, _, _⟩) rfl _ _ _ rfl rfl g (enc x).toArray rfl rfl 305 (enc Z).toArray HA1.out (by rw [List.size_toArray, enc_len, HX.out]; exact size_gcontent) (by rw [List.size_toArray, List.size_toArray, enc_len, enc_len, HX.out, HZL.out]) (all_enc x) ?_; intro w6 HA6 HB6))
  go_ret2
  have hs := HB.out.size
  exact ⟨g, rfl, by rw [← HG.out]; exact hs, HA6.out, HB.out.trans ((HB1.out.trans HB6.out).mono (by rw [← HG.out]; exact hs))⟩

end Go.Proofs.YtlghphccmgmomaaGreat

/-
  Proved here: where package geom says that slabs lie.
  Conditions: none.
-/
namespace Go.Proofs.YtlghphccmgmomaaGreat
open Go Go.RowKit
set_option maxRecDepth 100000

/-! ### Slabs -/
def slabsN (x : Int) : Int := if x < 10 then 0 else (min x 258 - 2) / 8
def slabN (x : Int) : Int := if 0 ≤ x ∧ x ≤ 31 then 2 + 8 * x else -1
def slabOfN (x : Int) : Int := if 2 ≤ x ∧ x < 258 then (x - 2) / 8 else -1
set_option maxHeartbeats 400000 in
theorem slabs_any (x : Int) (hx : (Lit.int .i64 x).wf = true) (w : World) : Calls Tryz.prog 133 #[.int .i64 x] w fun e w' => e = .returned (.int .i64 (slabsN x)) ∧ w = w' := by
  have hb := bounds_i64 hx
  have H : Hid (slabsN x = if x < 10 then 0 else (min x 258 - 2) / 8) := rfl
  generalize slabsN x = r at *
  rcases Classical.em (x < 10) with h | h
  · go_enter Tryz.func133, Tryz.ntmps133
    go_wp2
    go_ret
    exact ⟨int_eq (by rw [H.out, if_pos h]), rfl⟩
  · rcases Classical.em (x ≤ 258) with h2 | h2
    · have hm : min x 258 = x := by omega
      go_enter Tryz.func133, Tryz.ntmps133
      go_wp2
      go_ret
      exact ⟨int_eq (by rw [H.out, if_neg (by omega), hm]), rfl⟩
    · have hm : min x 258 = 258 := by omega
      go_enter Tryz.func133, Tryz.ntmps133
      go_wp2
      go_ret
      exact ⟨int_eq (by rw [H.out, if_neg (by omega), hm]; rfl), rfl⟩
set_option maxHeartbeats 400000 in
theorem slab_any (x : Int) (w : World) : Calls Tryz.prog 83 #[.int .i64 x] w fun e w' => e = .returned (.int .i64 (slabN x)) ∧ w = w' := by
  have H : Hid (slabN x = if 0 ≤ x ∧ x ≤ 31 then 2 + 8 * x else -1) := rfl
  generalize slabN x = r at *
  rcases Classical.em (x < 0) with h | h
  · go_enter Tryz.func83, Tryz.ntmps83
    go_wp2
    go_ret
    exact ⟨int_eq (by rw [H.out, if_neg (by omega)]), rfl⟩
  · rcases Classical.em (32 ≤ x) with h2 | h2
    · go_enter Tryz.func83, Tryz.ntmps83
      go_wp2
      go_ret
      exact ⟨int_eq (by rw [H.out, if_neg (by omega)]), rfl⟩
    · go_enter Tryz.func83, Tryz.ntmps83
      go_wp2
      go_ret
      exact ⟨int_eq (by rw [H.out, if_pos (by omega)]; omega), rfl⟩
set_option maxHeartbeats 400000 in
theorem slabof_any (x : Int) (w : World) : Calls Tryz.prog 118 #[.int .i64 x] w fun e w' => e = .returned (.int .i64 (slabOfN x)) ∧ w = w' := by
  have H : Hid (slabOfN x = if 2 ≤ x ∧ x < 258 then (x - 2) / 8 else -1) := rfl
  generalize slabOfN x = r at *
  rcases Classical.em (x < 2) with h | h
  · go_enter Tryz.func118, Tryz.ntmps118
    go_wp2
    go_ret
    exact ⟨int_eq (by rw [H.out, if_neg (by omega)]), rfl⟩
  · rcases Classical.em (258 ≤ x) with h2 | h2
    · go_enter Tryz.func118, Tryz.ntmps118
      go_wp2
      go_ret
      exact ⟨int_eq (by rw [H.out, if_neg (by omega)]), rfl⟩
    · go_enter Tryz.func118, Tryz.ntmps118
      go_wp2
      go_ret
      exact ⟨int_eq (by rw [H.out, if_pos (by omega)]), rfl⟩

end Go.Proofs.YtlghphccmgmomaaGreat

/-
  Proved here: what package geom's Open and Format, and chapter 4's own Open, answer and leave of a device.
  Conditions: a device of at most 258 lines.
-/
namespace Go.Proofs.YtlghphccmgmomaaGreat
open Go Go.RowKit
set_option maxRecDepth 100000

/-- The device behind a formatting. -/
def St.format (s : St) : St := ((((s.store 0 0 (superL s.1.length)).store 1 0 (clockL 0)).flush 0).flush 1).fence
def St.rformat (s : St) : St := ((((s.store 0 0 (superL s.1.length)).store 1 0 (clockL 0)).flush 0).flush 1).rfence
theorem Sim.format {s r : St} (h : Sim s r) : Sim s.format r.rformat := by
  unfold St.format St.rformat
  rw [← h.len]
  exact ((((h.store _ _ _).store _ _ _).flush _).flush _).fence
set_option maxHeartbeats 1600000 in
theorem format_ok {w : World} {p q : Nat} {s : St} (h : DvS w p q s) (hn : 10 ≤ s.1.length) :
    Calls Tryz.prog 142 #[.pointer (some ⟨p, 0, none⟩)] w fun e w' => e = .returned (.int .i64 0) ∧ DvS w' p q s.format ∧ Turns p q w w' := by
  have HL := Lib.hid (lin_ok h)
  have HS := Lib.hid (super_ok s.1.length hn h.len w)
  have HC := Lib.hid (fun W => clock_ok 0 (by omega) W)
  have HLs := Lib.hid (superL_len s.1.length)
  have HLc := Lib.hid (clockL_len 0)
  have HF : Hid (s.format = ((((s.store 0 0 (superL s.1.length)).store 1 0 (clockL 0)).flush 0).flush 1).fence) := rfl
  have HD := Lib.hid h
  generalize s.format = t at *
  generalize superL s.1.length = xs at *
  generalize clockL 0 = xc at *
  obtain ⟨n, hn'⟩ : ∃ n, s.1.length = n := ⟨_, rfl⟩
  rw [hn'] at HL HS
  clear h hn hn'
  go_enter Tryz.func142, Tryz.ntmps142
  go_wp2_with fail
  refine HL.out.mono ?_
  rintro e w' ⟨rfl, rfl⟩
  go_wp2_with fail
  refine HS.out.mono ?_
  rintro e w1 ⟨g1, rfl, _, ha, hb⟩
  have D1 := Lib.hid (HD.out.below hb)
  have T1 := Lib.hid (Turns.of_below hb p q)
  have R1 := Lib.hid (ha.row (by have := HLs.out; omega))
  clear ha hb
  go_wp2_with fail
  refine (store_any D1.out 0 0 (some ⟨g1, 0, none⟩) 64 64 xs HLs.out R1.out (fun h => by cases h)).mono ?_
  rintro e w2 ⟨rfl, hd, ht⟩
  have D2 := Lib.hid hd
  have T2 := Lib.hid (T1.out.trans ht)
  clear hd ht
  go_wp2_with fail
  refine (HC.out w2).mono ?_
  rintro e w3 ⟨g3, rfl, _, ha, hb⟩
  have D3 := Lib.hid (D2.out.below hb)
  have T3 := Lib.hid (T2.out.trans (Turns.of_below hb p q))
  have R3 := Lib.hid (ha.row (by have := HLc.out; omega))
  clear ha hb
  go_wp2_with fail
  refine (store_any D3.out 1 0 (some ⟨g3, 0, none⟩) 64 64 xc HLc.out R3.out (fun h => by cases h)).mono ?_
  rintro e w4 ⟨rfl, hd, ht⟩
  have D4 := Lib.hid hd
  have T4 := Lib.hid (T3.out.trans ht)
  clear hd ht
  go_wp2_with fail
  refine (flush_any D4.out 0).mono ?_
  rintro e w5 ⟨rfl, hd, ht⟩
  have D5 := Lib.hid hd
  have T5 := Lib.hid (T4.out.trans ht)
  clear hd ht
  go_wp2_with fail
  refine (flush_any D5.out 1).mono ?_
  rintro e w6 ⟨rfl, hd, ht⟩
  have D6 := Lib.hid hd
  have T6 := Lib.hid (T5.out.trans ht)
  clear hd ht
  go_wp2_with fail
  refine (fence_any D6.out).mono ?_
  rintro e w7 ⟨rfl, hd, ht⟩
  have D7 := Lib.hid hd
  have T7 := Lib.hid (T6.out.trans ht)
  clear hd ht
  go_wp2
  go_ret
  exact ⟨rfl, by rw [HF.out]; exact D7.out, T7.out⟩

end Go.Proofs.YtlghphccmgmomaaGreat
