/-
  Proved here: what package geom's IsSuper and IsClock answer for each row of bytes.
  Conditions: rows of at most 2^30 bytes.
-/
import Derived.Test.YtkcjamjjaallhaaGeomB
import Derived.Deep.RegionHeld3
namespace Go.Proofs.Ytkcjamjjaallhaa
open Go Go.RowKit

theorem guard_gcontent : Try.prog.eqGuardType Try.prog.depth 116 = false := by kernel_rfl
def pick (b : Bool) (v : Nat) : Nat := if b then v else 0

set_option maxHeartbeats 800000 in
set_option maxRecDepth 100000 in
theorem isclock_bad (A : Option Addr) (n c : Nat) (hn : n ≠ 64) (w : World) : Calls Try.prog 31 #[.slice A n c] w fun e w' => e = .returned (.tuple #[.int .u64 0, .bool false]) ∧ Below w.heap.size w w' := by
  have HC := Lib.hid (gof_bad A n c hn w)
  have HZ := Lib.hid zero_gcontent
  have HZL := Lib.hid zeros64_len
  generalize zeros64 = Z at *
  clear hn
  go_enter Try.func31, Try.ntmps31
  go_wp2_with fail
  refine HC.out.mono ?_
  rintro e w1 ⟨rfl, hb⟩
  obtain ⟨g, hg⟩ : ∃ g, w1.heap.size = g := ⟨_, rfl⟩
  have HG := Lib.hid hg
  have HB := Lib.hid hb
  clear hg hb
  go_wp2_with (first
    | ((with_reducible show wpList _ _ _ (⟨some 4, .alloc _, _, _, _, _⟩ :: _) _ _); refine wpList_alloc_var (o := ⟨some 4, _, _, _, _, _⟩) rfl 116 rfl g HG.out _ HZ.out ?_; intro w2 HA1 HB1)
    | ((with_reducible show wpList _ _ _ (⟨none, .store _ _ _, _, _, _, _⟩ :: _) _ _); refine wpList_store_whole (o := ⟨none, .store 116 (.tmp 4) (.tmp 10), _, _, _, _⟩) rfl _ _ _ rfl rfl g (enc Z).toArray rfl rfl 116 (enc Z).toArray HA1.out (by rw [List.size_toArray, enc_len, HZL.out]; exact size_gcontent) rfl (all_enc Z) ?_; intro w6 HA6 HB6))
  go_ret2
  exact ⟨rfl, HB.out.trans ((HB1.out.trans HB6.out).mono (by rw [← HG.out]; exact HB.out.size))⟩

set_option maxHeartbeats 1600000 in
set_option maxRecDepth 100000 in
theorem isclock_64 (A : Option Addr) (c : Nat) (x : List UInt8) (hx : x.length = 64) (w : World) (hr : Row w A x) (v : Nat) (hv : le (cut x 1 8) = v) (b : Bool) (hb : (x == clockL v) = b) :
    Calls Try.prog 31 #[.slice A 64 c] w fun e w' => e = .returned (.tuple #[.int .u64 (pick b v : Nat), .bool b]) ∧ Below w.heap.size w w' := by
  have HC := Lib.hid (gof_ok A c x hx w hr)
  have hvl : v < 18446744073709551616 := by
    have := le_lt (cut x 1 8)
    rw [cut_len x 1 8 (by omega), pow8_eight, hv] at this
    exact this
  have HK := Lib.hid (fun W => gclock_ok v hvl W)
  have HY := Lib.hid (clockL_len v)
  have HZ := Lib.hid zero_gcontent
  have HZL := Lib.hid zeros64_len
  have HGET := Lib.hid (fun W g (h : ArrG W g x) => hv ▸ gget_ok h hx 1 8 (by omega) (by omega) (by omega))
  have heq : ∀ w', (Op.equalIn 10000 116 (.agg (enc x).toArray) (.agg (enc (clockL v)).toArray)).run Try.prog w' = .ok b w' := fun w' => by rw [← hb]; exact equal_arrT Try.underlying116 x (clockL v) hx (clockL_len v) w'
  have hgu := guard_gcontent
  have HX := Lib.hid hx
  generalize clockL v = y at *
  generalize zeros64 = Z at *
  have HE := Lib.hid heq
  clear hx hv hb hr heq
  go_enter Try.func31, Try.ntmps31
  go_wp2_with fail
  refine HC.out.mono ?_
  rintro e w1 ⟨rfl, hb⟩
  obtain ⟨g, hg⟩ : ∃ g, w1.heap.size = g := ⟨_, rfl⟩
  have HG := Lib.hid hg
  have HB := Lib.hid hb
  clear hg hb
  go_wp2_with (first
    | ((with_reducible show wpList _ _ _ (⟨some 4, .alloc _, _, _, _, _⟩ :: _) _ _); refine wpList_alloc_var (o := ⟨some 4, _, _, _, _, _⟩) rfl 116 rfl g HG.out _ HZ.out ?_; intro w2 HA1 HB1)
    | ((with_reducible show wpList _ _ _ (⟨none, .store _ _ _, _, _, _, _⟩ :: _) _ _); refine wpList_store_whole (o := ⟨none, .store 116 (.tmp 4) (.tmp 10), _, _, _, _⟩) rfl _ _ _ rfl rfl g (enc x).toArray rfl rfl 116 (enc Z).toArray HA1.out (by rw [List.size_toArray, enc_len, HX.out]; exact size_gcontent) (by rw [List.size_toArray, List.size_toArray, enc_len, enc_len, HX.out, HZL.out]) (all_enc x) ?_; intro w6 HA6 HB6)
    | ((with_reducible show Calls _ 59 _ _ _); refine (HGET.out w6 g HA6.out).mono ?_; rintro e w' ⟨rfl, rfl⟩))
  have hra : w6.rangeAt g 0 (enc x) := arr_range HA6.out
  have hu := Try.underlying116
  have hl : (enc x).length = 64 := by rw [enc_len, HX.out]
  have hi : (Try.prog.info? 116).map (·.size) = some (enc x).length := by rw [hl]; exact size_gcontent
  have hone : ∀ v ∈ enc x, v.oneCell' = true := enc_one
  have heq := HE.out
  go_region_held3 (fun w' => w'.rangeAt g 0 (enc x)) (go_keep_ranges)
    (first | (go_at_call 60; refine (HK.out _).mono ?_; rintro e w7 ⟨rfl, hb⟩; have hb7 : Below w6.heap.size w6 w7 := (Below.refl _ _).drew.trans hb; have hra7 := arr_range (Arr.below (T := 116) HA6.out hb7 (lt_of_heap HA6.out)); have HB7 := Lib.hid hb7; clear hb hb7))
  clear hra hra7 hu hl hi hone heq hgu
  have HF : Hid (Below w.heap.size w w7) := HB.out.trans (((HB1.out.trans HB6.out).mono (by rw [← HG.out]; exact HB.out.size)).trans (HB7.out.mono (Nat.le_trans HB.out.size (HB1.out.trans HB6.out).size)))
  cases b with
  | true =>
    go_wp2
    go_ret2
    exact ⟨rfl, HF.out⟩
  | false =>
    go_wp2
    go_ret2
    exact ⟨rfl, HF.out⟩
end Go.Proofs.Ytkcjamjjaallhaa
