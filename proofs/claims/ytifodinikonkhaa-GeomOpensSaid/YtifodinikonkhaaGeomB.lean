/-
  Proved here: what package geom's superContent, contentOf, holdsSlabs, Super and Clock answer and leave.
  Conditions: none.
-/
import Derived.Test.YtifodinikonkhaaGeomA
namespace Go.Proofs.Ytifodinikonkhaa
open Go Go.RowKit

theorem copy_fuse {w : World} {g : Nat} {x : List UInt8} (h : ArrG w g x) (hx : x.length = 64) :
    ∃ w', (Builtin.copy_ #[23, 9] 3 #[.slice (some ⟨g, 1, none⟩) 63 63, .string ⟨#[70, 85, 83, 69]⟩]).run Try.prog w = .ok (goInt 4) w' ∧ ArrG w' g (splice x 1 [70, 85, 83, 69]) ∧ Below g w w' := by
  have hr := Lib.run_copy_row_string (P := Try.prog) w 23 9 3 5 g 1 63 63 ⟨#[70, 85, 83, 69]⟩ (enc x).toArray 65 Try.underlying23 byte_size h (by decide) (by simp [enc_len, hx, ByteArray.size])
  refine ⟨_, hr, ?_, ⟨rfl, rfl, rfl, by simp, fun k hk => setRow_other _ _ k _ (by omega)⟩⟩
  unfold ArrG Arr
  rw [setRow_heap w g _ _ _ _ h, ← splice_enc]
  simp [splice, enc, Lib.byteCells, ByteArray.size]

set_option maxHeartbeats 800000 in
set_option maxRecDepth 100000 in
theorem gsuper_ok (v : Nat) (hv : v < 4294967296) (w : World) : Calls Try.prog 40 #[.int .i64 v] w (ArrTo w (superL v)) := by
  obtain ⟨g, hg⟩ : ∃ g, w.heap.size = g := ⟨_, rfl⟩
  have HG := Lib.hid hg
  have HZ := Lib.hid zero_gcontent
  have HP1 := Lib.hid (fun W k (h : ArrG W k zeros64) => gput_ok h (by rfl) 0 1 4 (by omega) (by omega) (by omega) (by omega) (by decide))
  have HPC := Lib.hid (fun W k (h : ArrG W k (padded (lay 1 4))) => copy_fuse h (by rfl))
  have HP2 := Lib.hid (fun W k (h : ArrG W k (padded (lay 1 4 ++ [70, 85, 83, 69]))) => gput_ok h (by rfl) 5 4 v (by omega) (by omega) (by omega) (by omega) (fit_of (by simpa using hv)))
  have HP3 := Lib.hid (fun W k (h : ArrG W k (padded (superNine v))) => gseal_ok h (superNine_len v))
  have e1 : splice zeros64 0 (lay 1 4) = padded (lay 1 4) := padded_splice [] (lay 1 4) (by simp [lay_len])
  have ec : splice (padded (lay 1 4)) 1 [70, 85, 83, 69] = padded (lay 1 4 ++ [70, 85, 83, 69]) := padded_splice (lay 1 4) [70, 85, 83, 69] (by simp [lay_len])
  have e2 : splice (padded (lay 1 4 ++ [70, 85, 83, 69])) 5 (lay 4 v) = padded (superNine v) := padded_splice (lay 1 4 ++ [70, 85, 83, 69]) (lay 4 v) (by simp [lay_len])
  rw [e1] at HP1
  rw [ec] at HPC
  rw [e2] at HP2
  have HZL := Lib.hid zeros64_len
  have HL := Lib.hid (superL_len v)
  rw [show sealed (superNine v) = superL v from rfl] at HP3
  generalize superL v = x at *
  generalize zeros64 = Z at *
  generalize padded (lay 1 4 ++ [70, 85, 83, 69]) = yc at *
  generalize padded (lay 1 4) = y1 at *
  generalize padded (superNine v) = y2 at *
  clear e1 e2 ec hg
  have hwr : IntKind.u64.wrap (v : Int) = (v : Int) := by show (v : Int) % 18446744073709551616 = _; omega
  go_enter Try.func40, Try.ntmps40
  go_wp2_with (first
    | ((with_reducible show wpList _ _ _ (⟨some 2, .alloc _, _, _, _, _⟩ :: _) _ _); refine wpList_alloc_var (o := ⟨some 2, _, _, _, _, _⟩) rfl 65 rfl g HG.out _ HZ.out ?_; intro w1 HA1 HB1; obtain ⟨q, hq⟩ : ∃ q, w1.heap.size = q := ⟨_, rfl⟩; have HQ := Lib.hid hq; clear hq)
    | ((with_reducible show wpList _ _ _ (⟨some 3, .alloc _, _, _, _, _⟩ :: _) _ _); refine wpList_alloc_var (o := ⟨some 3, _, _, _, _, _⟩) rfl 65 rfl q HQ.out _ HZ.out ?_; intro w2 HA2 HB2)
    | ((with_reducible show Calls _ 60 #[_, .int .i64 0, _, _] _ _); refine (HP1.out w2 q HA2.out).mono ?_; rintro e w3 ⟨rfl, ha, hb⟩; obtain ⟨w3c, hrun, hac, hbc⟩ := HPC.out w3 q ha; have HRC := Lib.hid hrun; have HAC := Lib.hid hac; have HB3 := Lib.hid (hb.trans hbc); clear ha hb hrun hac hbc)
    | ((with_reducible show wpList _ _ _ (⟨some 6, _, _, _, _, _⟩ :: _) _ _); refine wpList_copy (o := ⟨some 6, _, _, _, _, _⟩) rfl (.tmp 5) (.const (.string ⟨#[70, 85, 83, 69]⟩)) 23 9 rfl rfl rfl HRC.out ?_)
    | ((with_reducible show Calls _ 60 #[_, .int .i64 5, _, _] _ _); refine (HP2.out w3c q HAC.out).mono ?_; rintro e w4 ⟨rfl, ha, hb⟩; have HA4 := Lib.hid ha; have HB4 := Lib.hid hb; clear ha hb)
    | ((with_reducible show Calls _ 61 _ _ _); refine (HP3.out w4 q HA4.out).mono ?_; rintro e w5 ⟨rfl, ha, hb⟩; have HR5 := Lib.hid (arr_range ha); have HA5 : Hid (w5.heap[g]? = some (.cells (enc Z).toArray 65 (0, 0))) := ((((HB2.out.trans HB3.out).trans HB4.out).trans hb).block g (HQ.out ▸ lt_of_heap HA1.out)).trans HA1.out; have HB5 := Lib.hid hb; clear ha hb)
    | ((with_reducible show wpList _ _ _ (⟨some 11, _, _, _, _, _⟩ :: _) _ _); refine wpList_load_agg (o := ⟨some 11, _, _, _, _, _⟩) rfl 65 (.tmp 3) rfl q 0 rfl (enc x) _ HR5.out Try.underlying65 rfl (by rw [enc_len, HL.out]; exact size_gcontent) ?_)
    | ((with_reducible show wpList _ _ _ (⟨none, .store _ _ _, _, _, _, _⟩ :: _) _ _); refine wpList_store_whole (o := ⟨none, .store 65 (.tmp 2) (.tmp 11), _, _, _, _⟩) rfl _ _ _ rfl rfl g (enc x).toArray rfl rfl 65 (enc Z).toArray HA5.out (by rw [List.size_toArray, enc_len, HL.out]; exact size_gcontent) (by rw [List.size_toArray, List.size_toArray, enc_len, enc_len, HL.out, HZL.out]) (all_enc x) ?_; intro w6 HA6 HB6))
  refine bodyPost_ret (results_arr rfl Try.underlying65 size_gcontent rfl HA6.out HL.out) rfl ⟨rfl, ?_⟩
  rw [HG.out]
  have hgq : g ≤ q := Nat.le_of_lt (HQ.out ▸ lt_of_heap HA1.out)
  exact HB1.out.trans ((((HB2.out.trans HB3.out).trans HB4.out).trans HB5.out).mono hgq |>.trans HB6.out)
/-- May a device have so many lines, and hold a slab? -/
def holds (x : Int) : Bool := decide (10 ≤ x) && decide (x ≤ 258)
theorem holds_true {x : Int} (h : holds x = true) : ∃ n : Nat, x = (n : Int) ∧ 10 ≤ n ∧ n ≤ 258 := by
  simp only [holds, Bool.and_eq_true, decide_eq_true_eq] at h
  exact ⟨x.toNat, by omega, by omega, by omega⟩
theorem holds_false {x : Int} (h : holds x = false) : x < 10 ∨ 258 < x := by
  simp only [holds, Bool.and_eq_false_iff, decide_eq_false_iff_not] at h
  omega
theorem holds_of {n : Nat} (h : 10 ≤ n) (h2 : n ≤ 258) : holds (n : Int) = true := by simp [holds]; omega
set_option maxHeartbeats 400000 in
theorem gholds_any (x : Int) (w : World) : Calls Try.prog 39 #[.int .i64 x] w fun e w' => e = .returned (.bool (holds x)) ∧ w = w' := by
  rcases Classical.em (10 ≤ x) with h1 | h1 <;> rcases Classical.em (x ≤ 258) with h2 | h2
  all_goals
    have H : Hid (holds x = (decide (10 ≤ x) && decide (x ≤ 258))) := rfl
    go_enter Try.func39, Try.ntmps39
    go_wp2
    go_ret
    refine ⟨bool_eq ?_, rfl⟩
    rw [H.out]
    simp [h1, h2]

/-- Two results, the first an array in a block of its own. -/
theorem results_arr2 {fn : Func} {t u : Tmp} {T : TypeId} (hf : fn.results = #[.cell t T, .tmp u]) (hu : Try.prog.underlying T = some (.array 64 5)) (hs : (Try.prog.info? T).map (·.size) = some 64) {tmps : Array Value} {g : Nat} (ht : tmps.getD t undef = .pointer (some ⟨g, 0, none⟩)) {v : Value} (hv : tmps.getD u undef = v) {w : World} {x : List UInt8} (h : Arr T w g x) (hx : x.length = 64) :
    (results fn tmps).run Try.prog w = .ok (.tuple #[.agg (enc x).toArray, v]) w := by
  have hl := run_loadVar_mid (P := Try.prog) w g 0 T (enc x) _ (arr_range h) hu rfl (by rw [enc_len, hx]; exact hs)
  have ht' : tmps[t]?.getD undef = .pointer (some ⟨g, 0, none⟩) := by simpa using ht
  have hv' : tmps[u]?.getD undef = v := by simpa using hv
  simp [results, hf, ht', hv', hl, asAddr]

set_option maxHeartbeats 400000 in
set_option maxRecDepth 100000 in
theorem gof_bad (A : Option Addr) (n c : Nat) (hn : n ≠ 64) (w : World) : Calls Try.prog 44 #[.slice A n c] w fun e w' => e = .returned (.tuple #[.agg (enc zeros64).toArray, .bool false]) ∧ Below w.heap.size w w' := by
  obtain ⟨g, hg⟩ : ∃ g, w.heap.size = g := ⟨_, rfl⟩
  have HG := Lib.hid hg
  have HZ := Lib.hid zero_gcontent
  have HBZ := Lib.hid built_gzero
  have HZL := Lib.hid zeros64_len
  have hne : ((n : Int) != 64) = true := by simp; omega
  generalize zeros64 = Z at *
  clear hg hn
  go_enter Try.func44, Try.ntmps44
  go_wp2_with (first
    | ((with_reducible show wpList _ _ _ (⟨some 2, .alloc _, _, _, _, _⟩ :: _) _ _); refine wpList_alloc_var (o := ⟨some 2, _, _, _, _, _⟩) rfl 65 rfl g HG.out _ HZ.out ?_; intro w1 HA1 HB1)
    | ((with_reducible show wpList _ _ _ (⟨some 7, _, _, _, _, _⟩ :: _) _ _); refine wpList_build_cells (o := ⟨some 7, _, _, _, _, _⟩) rfl 65 #[] rfl (enc Z).toArray [] (by simp) HBZ.out ?_)
    | ((with_reducible show wpList _ _ _ (⟨none, .store _ _ _, _, _, _, _⟩ :: _) _ _); refine wpList_store_whole (o := ⟨none, .store 65 (.tmp 2) (.tmp 7), _, _, _, _⟩) rfl _ _ _ rfl rfl g (enc Z).toArray rfl rfl 65 (enc Z).toArray HA1.out (by rw [List.size_toArray, enc_len, HZL.out]; exact size_gcontent) rfl (all_enc Z) ?_; intro w6 HA6 HB6))
  refine bodyPost_ret (results_arr2 rfl Try.underlying65 size_gcontent rfl rfl HA6.out HZL.out) rfl ⟨rfl, ?_⟩
  rw [HG.out]
  exact HB1.out.trans HB6.out

set_option maxHeartbeats 400000 in
set_option maxRecDepth 100000 in
theorem gof_ok (A : Option Addr) (c : Nat) (x : List UInt8) (hx : x.length = 64) (w : World) (hr : Row w A x) : Calls Try.prog 44 #[.slice A 64 c] w fun e w' => e = .returned (.tuple #[.agg (enc x).toArray, .bool true]) ∧ Below w.heap.size w w' := by
  obtain ⟨g, hg⟩ : ∃ g, w.heap.size = g := ⟨_, rfl⟩
  have HG := Lib.hid hg
  have HZ := Lib.hid zero_gcontent
  have HZL := Lib.hid zeros64_len
  obtain ⟨b, off, rfl, hlt, hc⟩ := hr.2 (by omega)
  have HAT := Lib.hid (fun w => run_arrayAt (P := Try.prog) w 65 5 64 (some ⟨b, off, none⟩) 64 c Try.underlying65 (by omega))
  have HC := Lib.hid hc
  have HX := Lib.hid hx
  have HLT : Hid (b < g) := by show b < g; omega
  have hat := HAT.out
  generalize zeros64 = Z at *
  clear hg hc hr hx hlt
  go_enter Try.func44, Try.ntmps44
  go_wp2_with (first
    | ((with_reducible show wpList _ _ _ (⟨some 2, .alloc _, _, _, _, _⟩ :: _) _ _); refine wpList_alloc_var (o := ⟨some 2, _, _, _, _, _⟩) rfl 65 rfl g HG.out _ HZ.out ?_; intro w1 HA1 HB1; have HR : Hid (w1.rangeAt b off (enc x)) := (fun j u hu => by obtain ⟨hj, rfl⟩ := enc_at' x hu; exact (HB1.out.cell (p := ⟨b, off + j, none⟩) HLT.out).trans (HC.out j hj)))
    | ((with_reducible show wpList _ _ _ (⟨some 10, _, _, _, _, _⟩ :: _) _ _); refine wpList_load_agg (o := ⟨some 10, _, _, _, _, _⟩) rfl 65 (.tmp 9) rfl b off rfl (enc x) _ HR.out Try.underlying65 rfl (by rw [enc_len, HX.out]; exact size_gcontent) ?_)
    | ((with_reducible show wpList _ _ _ (⟨none, .store _ _ _, _, _, _, _⟩ :: _) _ _); refine wpList_store_whole (o := ⟨none, .store 65 (.tmp 2) (.tmp 10), _, _, _, _⟩) rfl _ _ _ rfl rfl g (enc x).toArray rfl rfl 65 (enc Z).toArray HA1.out (by rw [List.size_toArray, enc_len, HX.out]; exact size_gcontent) (by rw [List.size_toArray, List.size_toArray, enc_len, enc_len, HX.out, HZL.out]) (all_enc x) ?_; intro w6 HA6 HB6))
  refine bodyPost_ret (results_arr2 rfl Try.underlying65 size_gcontent rfl rfl HA6.out HX.out) rfl ⟨rfl, ?_⟩
  rw [HG.out]
  exact HB1.out.trans HB6.out
/-- What Super and Clock leave: 64 bytes of their own. -/
def BytesTo (w : World) (x : List UInt8) (g : Nat) (w' : World) : Prop := w.heap.size ≤ g ∧ ArrG w' g x ∧ Below w.heap.size w w'
def ClockTo (w : World) (x : List UInt8) (e : Ending) (w' : World) : Prop := ∃ g, e = .returned (.slice (some ⟨g, 0, none⟩) 64 64) ∧ BytesTo w x g w'
def SuperTo (w : World) (x : List UInt8) (e : Ending) (w' : World) : Prop := ∃ g, e = .returned (.tuple #[.slice (some ⟨g, 0, none⟩) 64 64, .int .i64 0]) ∧ BytesTo w x g w'
set_option maxHeartbeats 400000 in
set_option maxRecDepth 100000 in
theorem clock_ok (v : Nat) (hv : v < 18446744073709551616) (w : World) : Calls Try.prog 11 #[.int .u64 v] w (ClockTo w (clockL v)) := by
  have HC := Lib.hid (gclock_ok v hv w)
  have HZ := Lib.hid zero_gcontent
  have HZL := Lib.hid zeros64_len
  have HX := Lib.hid (clockL_len v)
  generalize clockL v = x at *
  generalize zeros64 = Z at *
  go_enter Try.func11, Try.ntmps11
  go_wp2_with fail
  refine HC.out.mono ?_
  rintro e w1 ⟨rfl, hb⟩
  obtain ⟨g, hg⟩ : ∃ g, w1.heap.size = g := ⟨_, rfl⟩
  have HG := Lib.hid hg
  have HB := Lib.hid hb
  clear hg hb
  go_wp2_with (first
    | ((with_reducible show wpList _ _ _ (⟨some 3, .alloc _, _, _, _, _⟩ :: _) _ _); refine wpList_alloc_var (o := ⟨some 3, _, _, _, _, _⟩) rfl 65 rfl g HG.out _ HZ.out ?_; intro w2 HA1 HB1)
    | ((with_reducible show wpList _ _ _ (⟨none, .store _ _ _, _, _, _, _⟩ :: _) _ _); refine wpList_store_whole (o := ⟨none, .store 65 (.tmp 3) (.tmp 5), _, _, _, _⟩) rfl _ _ _ rfl rfl g (enc x).toArray rfl rfl 65 (enc Z).toArray HA1.out (by rw [List.size_toArray, enc_len, HX.out]; exact size_gcontent) (by rw [List.size_toArray, List.size_toArray, enc_len, enc_len, HX.out, HZL.out]) (all_enc x) ?_; intro w6 HA6 HB6))
  go_ret
  have hs := HB.out.size
  exact ⟨g, rfl, by rw [← HG.out]; exact hs, HA6.out, HB.out.trans ((HB1.out.trans HB6.out).mono (by rw [← HG.out]; exact hs))⟩
set_option maxHeartbeats 400000 in
theorem super_bad (x : Int) (h : holds x = false) (w : World) : Calls Try.prog 9 #[.int .i64 x] w fun e w' => e = .returned (.tuple #[.slice none 0 0, .int .i64 2]) ∧ w = w' := by
  have hh := gholds_any x w
  rw [h] at hh
  have HH := Lib.hid hh
  clear hh h
  go_enter Try.func9, Try.ntmps9
  go_wp2_with fail
  refine HH.out.mono ?_
  rintro e w1 ⟨rfl, rfl⟩
  go_wp2
  go_ret2
  exact ⟨rfl, rfl⟩
set_option maxHeartbeats 400000 in
set_option maxRecDepth 100000 in
theorem super_ok (n : Nat) (h1 : 10 ≤ n) (h2 : n ≤ 258) (w : World) : Calls Try.prog 9 #[.int .i64 n] w (SuperTo w (superL n)) := by
  have hh := gholds_any n w
  rw [holds_of h1 h2] at hh
  have HH := Lib.hid hh
  have HC := Lib.hid (gsuper_ok n (by omega) w)
  have HZ := Lib.hid zero_gcontent
  have HZL := Lib.hid zeros64_len
  have HX := Lib.hid (superL_len n)
  generalize superL n = x at *
  generalize zeros64 = Z at *
  clear hh
  go_enter Try.func9, Try.ntmps9
  go_wp2_with fail
  refine HH.out.mono ?_
  rintro e w1 ⟨rfl, rfl⟩
  go_wp2_with fail
  refine HC.out.mono ?_
  rintro e w1 ⟨rfl, hb⟩
  obtain ⟨g, hg⟩ : ∃ g, w1.heap.size = g := ⟨_, rfl⟩
  have HG := Lib.hid hg
  have HB := Lib.hid hb
  clear hg hb
  go_wp2_with (first
    | ((with_reducible show wpList _ _ _ (⟨some 4, .alloc _, _, _, _, _⟩ :: _) _ _); refine wpList_alloc_var (o := ⟨some 4, _, _, _, _, _⟩) rfl 65 rfl g HG.out _ HZ.out ?_; intro w2 HA1 HB1)
    | ((with_reducible show wpList _ _ _ (⟨none, .store _ _ _, _, _, _, _⟩ :: _) _ _); refine wpList_store_whole (o := ⟨none, .store 65 (.tmp 4) (.tmp 9), _, _, _, _⟩) rfl _ _ _ rfl rfl g (enc x).toArray rfl rfl 65 (enc Z).toArray HA1.out (by rw [List.size_toArray, enc_len, HX.out]; exact size_gcontent) (by rw [List.size_toArray, List.size_toArray, enc_len, enc_len, HX.out, HZL.out]) (all_enc x) ?_; intro w6 HA6 HB6))
  go_ret2
  have hs := HB.out.size
  exact ⟨g, rfl, by rw [← HG.out]; exact hs, HA6.out, HB.out.trans ((HB1.out.trans HB6.out).mono (by rw [← HG.out]; exact hs))⟩

end Go.Proofs.Ytifodinikonkhaa
