/-
  Proved here: what package geom's put, get, seal and clockContent answer and leave.
  Conditions: none but that the places lie in the line.
-/
import Derived.Test.YtkcjamjjaallhaaCode
import Derived.Test.YtkcjamjjaallhaaSum
import Derived.Test.YtkcjamjjaallhaaGeomMath
import Derived.Test.YtkcjamjjaallhaaArrs
import Derived.Laws.Cover3
import Derived.Lib.BufferWrite
namespace Go.Proofs.Ytkcjamjjaallhaa
open Go Go.RowKit

abbrev ArrG (w : World) (g : Nat) (x : List UInt8) : Prop := Arr 116 w g x
theorem size_gcontent : (Try.prog.info? 116).map (·.size) = some 64 := by kernel_rfl
theorem splice_enc (x y : List UInt8) (a : Nat) : splice (enc x) a (enc y) = enc (splice x a y) := by simp [splice, enc]

set_option maxHeartbeats 800000 in
set_option maxRecDepth 100000 in
theorem gput_ok {w : World} {g : Nat} {x : List UInt8} (h : ArrG w g x) (hx : x.length = 64) (a k v : Nat) (hv : v < 18446744073709551616) (h1 : 1 ≤ k) (h8 : k ≤ 8) (ha : a + k ≤ 64) (hf : fit v k = true) :
    Calls Try.prog 72 #[.pointer (some ⟨g, 0, none⟩), .int .i64 a, .int .i64 k, .int .u64 v] w fun e w' => e = .returned (.tuple #[]) ∧ ArrG w' g (splice x a (lay k v)) ∧ Below g w w' := by
  have HP := Lib.hid (put_ok (some ⟨g, 0, none⟩) 64 64 x hx a k v hv h1 h8 ha hf w (h.row (by omega)))
  have HS := Lib.hid (splice_len x a k v (by omega))
  generalize splice x a (lay k v) = r at *
  have HX := Lib.hid hx
  have HA := Lib.hid h
  clear h hx hf
  go_enter Try.func72, Try.ntmps72
  go_wp2_with fail
  refine HP.out.mono ?_
  rintro e w1 ⟨g2, rfl, hg2, hblk, hb1⟩
  have HG : Hid (w1.heap[g]? = some (.cells (enc x).toArray 116 (0, 0))) := HA.out.below hb1 HA.out.lt
  have HF : Hid (∀ j u, (enc r)[j]? = some u → w1.cell? ((⟨g2, 0, none⟩ : Addr).add j) = some u) := by
    intro j u hu
    rw [add_plain, Nat.zero_add, Blk.cell hblk]
    exact hu
  have HB1 : Hid (Below g w w1) := hb1.mono (Nat.le_of_lt HA.out.lt)
  clear hblk hb1
  go_wp2_with (refine wpList_copy_splice (o := ⟨some 26, _, _, _, _, _⟩) rfl (.tmp 24) (.tmp 25) 50 50 rfl 5 Try.underlying50 byte_size (some ⟨g, 0, none⟩) (some ⟨g2, 0, none⟩) 64 64 64 64 rfl rfl g 0 (enc x) 116 HG.out (enc r) (by rw [enc_len, HS.out, HX.out]; rfl) (fun h => ⟨rfl, _, rfl, HF.out⟩) (by rw [enc_len, enc_len, HS.out]; omega) enc_one g w HB1.out (Nat.le_refl _) ?_; intro w2 HG2 hB2; have HB2 := Lib.hid hB2; clear hB2)
  refine bodyPost_end (results_none rfl _ _ _) rfl ?_
  refine ⟨rfl, ?_, HB2.out⟩
  have := HG2.out
  rw [splice_enc, splice, List.take_zero, List.nil_append, List.drop_of_length_le (by have := HS.out; omega), List.append_nil] at this
  exact this
set_option maxHeartbeats 400000 in
theorem gget_ok {w : World} {g : Nat} {x : List UInt8} (h : ArrG w g x) (hx : x.length = 64) (a k : Nat) (h1 : 1 ≤ k) (h8 : k ≤ 8) (ha : a + k ≤ 64) :
    Calls Try.prog 59 #[.pointer (some ⟨g, 0, none⟩), .int .i64 a, .int .i64 k] w fun e w' => e = .returned (.int .u64 (le (cut x a k) : Nat)) ∧ w = w' := by
  have HP := Lib.hid (get_ok (some ⟨g, 0, none⟩) 64 64 x hx a k h1 h8 ha w (h.row (by omega)))
  generalize le (cut x a k) = r at *
  clear h hx
  go_enter Try.func59, Try.ntmps59
  go_wp2_with fail
  refine HP.out.mono ?_
  rintro e w1 ⟨rfl, rfl⟩
  go_wp2
  go_ret
  exact ⟨rfl, rfl⟩

set_option maxHeartbeats 400000 in
theorem gseal_ok {w : World} {g : Nat} {x : List UInt8} (h : ArrG w g (padded x)) (hx : x.length = 9) :
    Calls Try.prog 73 #[.pointer (some ⟨g, 0, none⟩)] w fun e w' => e = .returned (.tuple #[]) ∧ ArrG w' g (sealed x) ∧ Below g w w' := by
  have hl := padded_len (pre := x) (by omega)
  have hrow := h.row (by omega)
  have hr9 : Row w (some ⟨g, 0, none⟩) x := by
    refine ⟨by omega, fun _ => ?_⟩
    obtain ⟨b, off, e, hlt, hc⟩ := hrow.2 (by omega)
    refine ⟨b, off, e, hlt, fun k hk => ?_⟩
    rw [hc k (by omega)]
    simp [padded, List.getD, List.getElem?_append_left hk]
  have HS := Lib.hid (sum_any (some ⟨g, 0, none⟩) 9 64 x hx w hr9)
  have hlt := addS_lt (c := 0) (l := x) (by omega)
  have hp := gput_ok h hl 9 4 (addS 0 x) (by omega) (by omega) (by omega) (by omega) (fit_of (by simpa using hlt))
  have e := padded_splice x (lay 4 (addS 0 x)) (by rw [lay_len]; omega)
  rw [hx] at e
  rw [e] at hp
  have HP := Lib.hid hp
  have HE : Hid (sealed x = padded (x ++ lay 4 (addS 0 x))) := rfl
  rw [← HE.out] at HP
  generalize sealed x = y at *
  generalize addS 0 x = s at *
  clear h hx hl hrow hr9 hp e
  go_enter Try.func73, Try.ntmps73
  go_wp2_with fail
  refine HS.out.mono ?_
  rintro e w1 ⟨rfl, rfl⟩
  go_wp2_with fail
  refine HP.out.mono ?_
  rintro e w1 ⟨rfl, hA, hB⟩
  go_wp2
  refine bodyPost_end (results_none rfl _ _ _) rfl ?_
  exact ⟨rfl, hA, hB⟩

theorem zero_gcontent : (Try.prog.info? 116).bind (·.zero) = some (.agg (enc zeros64).toArray) := by kernel_rfl
theorem built_gzero : Try.prog.built 116 [] = some (enc zeros64).toArray := by kernel_rfl
theorem arr_range {T : TypeId} {w : World} {g : Nat} {x : List UInt8} (h : Arr T w g x) : w.rangeAt g 0 (enc x) := fun j u hu => by
  have hj := (List.getElem?_eq_some_iff.1 hu).1
  unfold Arr at h
  simp [World.cell?, h, hu]
/-- A result that is an array in a block of its own. -/
theorem results_arr {fn : Func} {t : Tmp} {T : TypeId} (hf : fn.results = #[.cell t T]) (hu : Try.prog.underlying T = some (.array 64 5)) (hs : (Try.prog.info? T).map (·.size) = some 64) {tmps : Array Value} {g : Nat} (ht : tmps.getD t undef = .pointer (some ⟨g, 0, none⟩)) {w : World} {x : List UInt8} (h : Arr T w g x) (hx : x.length = 64) :
    (results fn tmps).run Try.prog w = .ok (.agg (enc x).toArray) w := by
  have hr := arr_range h
  have hl := run_loadVar_mid (P := Try.prog) w g 0 T (enc x) _ hr hu rfl (by rw [enc_len, hx]; exact hs)
  have ht' : tmps[t]?.getD undef = .pointer (some ⟨g, 0, none⟩) := by simpa using ht
  simp [results, hf, ht', hl, asAddr]
/-- What an array of a call's own leaves. -/
def ArrTo (w : World) (x : List UInt8) (e : Ending) (w' : World) : Prop := e = .returned (.agg (enc x).toArray) ∧ Below w.heap.size w w'

set_option maxHeartbeats 800000 in
set_option maxRecDepth 100000 in
theorem gclock_ok (v : Nat) (hv : v < 18446744073709551616) (w : World) : Calls Try.prog 60 #[.int .u64 v] w (ArrTo w (clockL v)) := by
  obtain ⟨g, hg⟩ : ∃ g, w.heap.size = g := ⟨_, rfl⟩
  have HG := Lib.hid hg
  have HZ := Lib.hid zero_gcontent
  have HP1 := Lib.hid (fun W k (h : ArrG W k zeros64) => gput_ok h (by rfl) 0 1 3 (by omega) (by omega) (by omega) (by omega) (by decide))
  have HP2 := Lib.hid (fun W k (h : ArrG W k (padded (lay 1 3))) => gput_ok h (by rfl) 1 8 v hv (by omega) (by omega) (by omega) (fit_of (by rw [pow8_eight]; exact hv)))
  have HP3 := Lib.hid (fun W k (h : ArrG W k (padded (clockNine v))) => gseal_ok h (clockNine_len v))
  have e1 : splice zeros64 0 (lay 1 3) = padded (lay 1 3) := padded_splice [] (lay 1 3) (by simp [lay_len])
  have e2 : splice (padded (lay 1 3)) 1 (lay 8 v) = padded (clockNine v) := padded_splice (lay 1 3) (lay 8 v) (by simp [lay_len])
  rw [e1] at HP1
  rw [e2] at HP2
  have HZL := Lib.hid zeros64_len
  have HL := Lib.hid (clockL_len v)
  rw [show sealed (clockNine v) = clockL v from rfl] at HP3
  generalize clockL v = x at *
  generalize zeros64 = Z at *
  generalize padded (lay 1 3) = y1 at *
  generalize padded (clockNine v) = y2 at *
  clear e1 e2 hg
  go_enter Try.func60, Try.ntmps60
  go_wp2_with (first
    | ((with_reducible show wpList _ _ _ (⟨some 2, .alloc _, _, _, _, _⟩ :: _) _ _); refine wpList_alloc_var (o := ⟨some 2, _, _, _, _, _⟩) rfl 116 rfl g HG.out _ HZ.out ?_; intro w1 HA1 HB1; obtain ⟨q, hq⟩ : ∃ q, w1.heap.size = q := ⟨_, rfl⟩; have HQ := Lib.hid hq; clear hq)
    | ((with_reducible show wpList _ _ _ (⟨some 3, .alloc _, _, _, _, _⟩ :: _) _ _); refine wpList_alloc_var (o := ⟨some 3, _, _, _, _, _⟩) rfl 116 rfl q HQ.out _ HZ.out ?_; intro w2 HA2 HB2)
    | ((with_reducible show Calls _ 72 #[_, .int .i64 0, _, _] _ _); refine (HP1.out w2 q HA2.out).mono ?_; rintro e w3 ⟨rfl, ha, hb⟩; have HA3 := Lib.hid ha; have HB3 := Lib.hid hb; clear ha hb)
    | ((with_reducible show Calls _ 72 #[_, .int .i64 1, _, _] _ _); refine (HP2.out w3 q HA3.out).mono ?_; rintro e w4 ⟨rfl, ha, hb⟩; have HA4 := Lib.hid ha; have HB4 := Lib.hid hb; clear ha hb)
    | ((with_reducible show Calls _ 73 _ _ _); refine (HP3.out w4 q HA4.out).mono ?_; rintro e w5 ⟨rfl, ha, hb⟩; have HR5 := Lib.hid (arr_range ha); have HA5 : Hid (w5.heap[g]? = some (.cells (enc Z).toArray 116 (0, 0))) := ((((HB2.out.trans HB3.out).trans HB4.out).trans hb).block g (HQ.out ▸ lt_of_heap HA1.out)).trans HA1.out; have HB5 := Lib.hid hb; clear ha hb)
    | ((with_reducible show wpList _ _ _ (⟨some 8, _, _, _, _, _⟩ :: _) _ _); refine wpList_load_agg (o := ⟨some 8, _, _, _, _, _⟩) rfl 116 (.tmp 3) rfl q 0 rfl (enc x) _ HR5.out Try.underlying116 rfl (by rw [enc_len, HL.out]; exact size_gcontent) ?_)
    | ((with_reducible show wpList _ _ _ (⟨none, .store _ _ _, _, _, _, _⟩ :: _) _ _); refine wpList_store_whole (o := ⟨none, .store 116 (.tmp 2) (.tmp 8), _, _, _, _⟩) rfl _ _ _ rfl rfl g (enc x).toArray rfl rfl 116 (enc Z).toArray HA5.out (by rw [List.size_toArray, enc_len, HL.out]; exact size_gcontent) (by rw [List.size_toArray, List.size_toArray, enc_len, enc_len, HL.out, HZL.out]) (all_enc x) ?_; intro w6 HA6 HB6))
  refine bodyPost_ret (results_arr rfl Try.underlying116 size_gcontent rfl HA6.out HL.out) rfl ⟨rfl, ?_⟩
  rw [HG.out]
  have hgq : g ≤ q := Nat.le_of_lt (HQ.out ▸ lt_of_heap HA1.out)
  exact HB1.out.trans ((((HB2.out.trans HB3.out).trans HB4.out).trans HB5.out).mono hgq |>.trans HB6.out)

end Go.Proofs.Ytkcjamjjaallhaa
