/-
  Proved here: what package geom's superContent, contentOf, holdsSlabs, Super and Clock answer and leave.
  Conditions: none.
-/
import Derived.Test.YtkcjamjjaallhaaGeomA
namespace Go.Proofs.Ytkcjamjjaallhaa
open Go Go.RowKit

theorem copy_fuse {w : World} {g : Nat} {x : List UInt8} (h : ArrG w g x) (hx : x.length = 64) :
    ∃ w', (Builtin.copy_ #[50, 9] 3 #[.slice (some ⟨g, 1, none⟩) 63 63, .string ⟨#[70, 85, 83, 69]⟩]).run Try.prog w = .ok (goInt 4) w' ∧ ArrG w' g (splice x 1 [70, 85, 83, 69]) ∧ Below g w w' := by
  have hr := Lib.run_copy_row_string (P := Try.prog) w 50 9 3 5 g 1 63 63 ⟨#[70, 85, 83, 69]⟩ (enc x).toArray 116 Try.underlying50 byte_size h (by decide) (by simp [enc_len, hx, ByteArray.size])
  refine ⟨_, hr, ?_, ⟨rfl, rfl, rfl, by simp, fun k hk => setRow_other _ _ k _ (by omega)⟩⟩
  unfold ArrG Arr
  rw [setRow_heap w g _ _ _ _ h, ← splice_enc]
  simp [splice, enc, Lib.byteCells, ByteArray.size]

/-- May a device have so many lines, and hold a slab? -/
def holds (x : Int) : Bool := decide (10 ≤ x) && decide (x ≤ 258)
theorem holds_true {x : Int} (h : holds x = true) : ∃ n : Nat, x = (n : Int) ∧ 10 ≤ n ∧ n ≤ 258 := by
  simp only [holds, Bool.and_eq_true, decide_eq_true_eq] at h
  exact ⟨x.toNat, by omega, by omega, by omega⟩
theorem holds_false {x : Int} (h : holds x = false) : x < 10 ∨ 258 < x := by
  simp only [holds, Bool.and_eq_false_iff, decide_eq_false_iff_not] at h
  omega
theorem holds_of {n : Nat} (h : 10 ≤ n) (h2 : n ≤ 258) : holds (n : Int) = true := by simp [holds]; omega
/-- Two results, the first an array in a block of its own. -/
theorem results_arr2 {fn : Func} {t u : Tmp} {T : TypeId} (hf : fn.results = #[.cell t T, .tmp u]) (hu : Try.prog.underlying T = some (.array 64 5)) (hs : (Try.prog.info? T).map (·.size) = some 64) {tmps : Array Value} {g : Nat} (ht : tmps.getD t undef = .pointer (some ⟨g, 0, none⟩)) {v : Value} (hv : tmps.getD u undef = v) {w : World} {x : List UInt8} (h : Arr T w g x) (hx : x.length = 64) :
    (results fn tmps).run Try.prog w = .ok (.tuple #[.agg (enc x).toArray, v]) w := by
  have hl := run_loadVar_mid (P := Try.prog) w g 0 T (enc x) _ (arr_range h) hu rfl (by rw [enc_len, hx]; exact hs)
  have ht' : tmps[t]?.getD undef = .pointer (some ⟨g, 0, none⟩) := by simpa using ht
  have hv' : tmps[u]?.getD undef = v := by simpa using hv
  simp [results, hf, ht', hv', hl, asAddr]

set_option maxHeartbeats 400000 in
set_option maxRecDepth 100000 in
theorem gof_bad (A : Option Addr) (n c : Nat) (hn : n ≠ 64) (w : World) : Calls Try.prog 58 #[.slice A n c] w fun e w' => e = .returned (.tuple #[.agg (enc zeros64).toArray, .bool false]) ∧ Below w.heap.size w w' := by
  obtain ⟨g, hg⟩ : ∃ g, w.heap.size = g := ⟨_, rfl⟩
  have HG := Lib.hid hg
  have HZ := Lib.hid zero_gcontent
  have HBZ := Lib.hid built_gzero
  have HZL := Lib.hid zeros64_len
  have hne : ((n : Int) != 64) = true := by simp; omega
  generalize zeros64 = Z at *
  clear hg hn
  go_enter Try.func58, Try.ntmps58
  go_wp2_with (first
    | ((with_reducible show wpList _ _ _ (⟨some 2, .alloc _, _, _, _, _⟩ :: _) _ _); refine wpList_alloc_var (o := ⟨some 2, _, _, _, _, _⟩) rfl 116 rfl g HG.out _ HZ.out ?_; intro w1 HA1 HB1)
    | ((with_reducible show wpList _ _ _ (⟨some 7, _, _, _, _, _⟩ :: _) _ _); refine wpList_build_cells (o := ⟨some 7, _, _, _, _, _⟩) rfl 116 #[] rfl (enc Z).toArray [] (by simp) HBZ.out ?_)
    | ((with_reducible show wpList _ _ _ (⟨none, .store _ _ _, _, _, _, _⟩ :: _) _ _); refine wpList_store_whole (o := ⟨none, .store 116 (.tmp 2) (.tmp 7), _, _, _, _⟩) rfl _ _ _ rfl rfl g (enc Z).toArray rfl rfl 116 (enc Z).toArray HA1.out (by rw [List.size_toArray, enc_len, HZL.out]; exact size_gcontent) rfl (all_enc Z) ?_; intro w6 HA6 HB6))
  refine bodyPost_ret (results_arr2 rfl Try.underlying116 size_gcontent rfl rfl HA6.out HZL.out) rfl ⟨rfl, ?_⟩
  rw [HG.out]
  exact HB1.out.trans HB6.out

set_option maxHeartbeats 400000 in
set_option maxRecDepth 100000 in
theorem gof_ok (A : Option Addr) (c : Nat) (x : List UInt8) (hx : x.length = 64) (w : World) (hr : Row w A x) : Calls Try.prog 58 #[.slice A 64 c] w fun e w' => e = .returned (.tuple #[.agg (enc x).toArray, .bool true]) ∧ Below w.heap.size w w' := by
  obtain ⟨g, hg⟩ : ∃ g, w.heap.size = g := ⟨_, rfl⟩
  have HG := Lib.hid hg
  have HZ := Lib.hid zero_gcontent
  have HZL := Lib.hid zeros64_len
  obtain ⟨b, off, rfl, hlt, hc⟩ := hr.2 (by omega)
  have HAT := Lib.hid (fun w => run_arrayAt (P := Try.prog) w 116 5 64 (some ⟨b, off, none⟩) 64 c Try.underlying116 (by omega))
  have HC := Lib.hid hc
  have HX := Lib.hid hx
  have HLT : Hid (b < g) := by show b < g; omega
  have hat := HAT.out
  generalize zeros64 = Z at *
  clear hg hc hr hx hlt
  go_enter Try.func58, Try.ntmps58
  go_wp2_with (first
    | ((with_reducible show wpList _ _ _ (⟨some 2, .alloc _, _, _, _, _⟩ :: _) _ _); refine wpList_alloc_var (o := ⟨some 2, _, _, _, _, _⟩) rfl 116 rfl g HG.out _ HZ.out ?_; intro w1 HA1 HB1; have HR : Hid (w1.rangeAt b off (enc x)) := (fun j u hu => by obtain ⟨hj, rfl⟩ := enc_at' x hu; exact (HB1.out.cell (p := ⟨b, off + j, none⟩) HLT.out).trans (HC.out j hj)))
    | ((with_reducible show wpList _ _ _ (⟨some 10, _, _, _, _, _⟩ :: _) _ _); refine wpList_load_agg (o := ⟨some 10, _, _, _, _, _⟩) rfl 116 (.tmp 9) rfl b off rfl (enc x) _ HR.out Try.underlying116 rfl (by rw [enc_len, HX.out]; exact size_gcontent) ?_)
    | ((with_reducible show wpList _ _ _ (⟨none, .store _ _ _, _, _, _, _⟩ :: _) _ _); refine wpList_store_whole (o := ⟨none, .store 116 (.tmp 2) (.tmp 10), _, _, _, _⟩) rfl _ _ _ rfl rfl g (enc x).toArray rfl rfl 116 (enc Z).toArray HA1.out (by rw [List.size_toArray, enc_len, HX.out]; exact size_gcontent) (by rw [List.size_toArray, List.size_toArray, enc_len, enc_len, HX.out, HZL.out]) (all_enc x) ?_; intro w6 HA6 HB6))
  refine bodyPost_ret (results_arr2 rfl Try.underlying116 size_gcontent rfl rfl HA6.out HX.out) rfl ⟨rfl, ?_⟩
  rw [HG.out]
  exact HB1.out.trans HB6.out
/-- What Super and Clock leave: 64 bytes of their own. -/
def BytesTo (w : World) (x : List UInt8) (g : Nat) (w' : World) : Prop := w.heap.size ≤ g ∧ ArrG w' g x ∧ Below w.heap.size w w'
def ClockTo (w : World) (x : List UInt8) (e : Ending) (w' : World) : Prop := ∃ g, e = .returned (.slice (some ⟨g, 0, none⟩) 64 64) ∧ BytesTo w x g w'
def SuperTo (w : World) (x : List UInt8) (e : Ending) (w' : World) : Prop := ∃ g, e = .returned (.tuple #[.slice (some ⟨g, 0, none⟩) 64 64, .int .i64 0]) ∧ BytesTo w x g w'
set_option maxHeartbeats 400000 in
set_option maxRecDepth 100000 in
theorem clock_ok (v : Nat) (hv : v < 18446744073709551616) (w : World) : Calls Try.prog 83 #[.int .u64 v] w (ClockTo w (clockL v)) := by
  have HC := Lib.hid (gclock_ok v hv w)
  have HZ := Lib.hid zero_gcontent
  have HZL := Lib.hid zeros64_len
  have HX := Lib.hid (clockL_len v)
  generalize clockL v = x at *
  generalize zeros64 = Z at *
  go_enter Try.func83, Try.ntmps83
  go_wp2_with fail
  refine HC.out.mono ?_
  rintro e w1 ⟨rfl, hb⟩
  obtain ⟨g, hg⟩ : ∃ g, w1.heap.size = g := ⟨_, rfl⟩
  have HG := Lib.hid hg
  have HB := Lib.hid hb
  clear hg hb
  go_wp2_with (first
    | ((with_reducible show wpList _ _ _ (⟨some 3, .alloc _, _, _, _, _⟩ :: _) _ _); refine wpList_alloc_var (o := ⟨some 3, _, _, _, _, _⟩) rfl 116 rfl g HG.out _ HZ.out ?_; intro w2 HA1 HB1)
    | ((with_reducible show wpList _ _ _ (⟨none, .store _ _ _, _, _, _, _⟩ :: _) _ _); refine wpList_store_whole (o := ⟨none, .store 116 (.tmp 3) (.tmp 5), _, _, _, _⟩) rfl _ _ _ rfl rfl g (enc x).toArray rfl rfl 116 (enc Z).toArray HA1.out (by rw [List.size_toArray, enc_len, HX.out]; exact size_gcontent) (by rw [List.size_toArray, List.size_toArray, enc_len, enc_len, HX.out, HZL.out]) (all_enc x) ?_; intro w6 HA6 HB6))
  go_ret
  have hs := HB.out.size
  exact ⟨g, rfl, by rw [← HG.out]; exact hs, HA6.out, HB.out.trans ((HB1.out.trans HB6.out).mono (by rw [← HG.out]; exact hs))⟩
end Go.Proofs.Ytkcjamjjaallhaa
