/-
  Proved here: what package geom's Open and Format, and chapter 4's own Open, answer and leave of a device.
  Conditions: a device of at most 258 lines.
-/
import Derived.Test.YtifodinikonkhaaSim3
import Derived.Test.YtifodinikonkhaaRef4B
namespace Go.Proofs.Ytifodinikonkhaa
open Go Go.RowKit

def lineV (s : St) (i : Nat) : List UInt8 := if i < s.1.length then (clAt s.1 (i : Int)).v else []
/-- What a Load leaves, there or not. -/
def LoadTo (w : World) (x : List UInt8) (e : Ending) (w' : World) : Prop :=
  ∃ A c er, e = .returned (.tuple #[.slice A x.length c, .int .i64 er]) ∧ Row w' A x ∧ x.length ≤ c ∧ Below w.heap.size w w'
theorem load_line {w : World} {p q : Nat} {s : St} (h : DvS w p q s) (i : Nat) : Calls Try.prog 58 #[.pointer (some ⟨p, 0, none⟩), .int .i64 i] w (LoadTo w (lineV s i)) := by
  unfold lineV
  split
  · rename_i hi
    have hl := (clAt_ok h i hi).1
    refine (load_at h i hi).mono ?_
    rintro e w' ⟨g, rfl, _, ha, hb⟩
    exact ⟨some ⟨g, 0, none⟩, 64, 0, by rw [hl], ha.row (by omega), by omega, hb⟩
  · refine (load_bad h i (by omega)).mono ?_
    rintro e w' ⟨rfl, rfl⟩
    exact ⟨none, 0, 2, rfl, row_nil _ _, by simp, Below.refl _ _⟩
theorem rload_line {w : World} {p q : Nat} {s : St} (h : DvT w p q s) (i : Nat) : Calls Try.prog 59 #[.pointer (some ⟨p, 0, none⟩), .int .i64 i] w (LoadTo w (lineV s i)) := by
  unfold lineV
  split
  · rename_i hi
    have hl := (oks_at h.oks (clAt_some hi)).1
    refine (rload_ok h (clAt_some hi)).mono ?_
    rintro e w' ⟨g, rfl, _, ha, hb⟩
    exact ⟨some ⟨g, 0, none⟩, 64, 0, by rw [hl], ha.row (by omega), by omega, hb⟩
  · refine (rload_bad h i (by simp [has]; omega)).mono ?_
    rintro e w' ⟨rfl, rfl⟩
    exact ⟨none, 0, 2, rfl, row_nil _ _, by simp, Below.refl _ _⟩

/-- What Open answers, by what its two lines are told to be. -/
def openAns (ok : Bool) (N n : Nat) (fine : Bool) (v : Nat) : Nat × Int := if ok = true ∧ N = n ∧ fine = true then (if 1152921504606846976 < v then (0, 10) else (v, 0)) else (0, 3)
def IsS (F : FuncId) (x : List UInt8) (N : Nat) (ok : Bool) : Prop := ∀ (W : World) (A : Option Addr) (c : Nat), x.length ≤ c → Row W A x → Calls Try.prog F #[.slice A x.length c] W fun e w' => e = .returned (.tuple #[.int .i64 N, .bool ok]) ∧ Below W.heap.size W w'
def IsC (F : FuncId) (x : List UInt8) (v : Nat) (fine : Bool) : Prop := ∀ (W : World) (A : Option Addr) (c : Nat), x.length ≤ c → Row W A x → Calls Try.prog F #[.slice A x.length c] W fun e w' => e = .returned (.tuple #[.int .u64 v, .bool fine]) ∧ Below W.heap.size W w'

set_option maxHeartbeats 1600000 in
theorem open_any {w : World} {p q : Nat} {s : St} (h : DvS w p q s) {N v : Nat} {ok fine : Bool} (hS : IsS 15 (lineV s 0) N ok) (hC : IsC 16 (lineV s 1) v fine) {a : Nat} {b : Int} (hans : openAns ok N s.1.length fine v = (a, b)) :
    Calls Try.prog 37 #[.pointer (some ⟨p, 0, none⟩)] w fun e w' => e = .returned (.tuple #[.int .u64 a, .int .i64 b]) ∧ Below w.heap.size w w' := by
  have H0 : Hid (Calls Try.prog 58 #[.pointer (some ⟨p, 0, none⟩), .int .i64 0] w (LoadTo w (lineV s 0))) := load_line h 0
  have H1 : Hid (∀ W, Below w.heap.size w W → Calls Try.prog 58 #[.pointer (some ⟨p, 0, none⟩), .int .i64 1] W (LoadTo W (lineV s 1))) := fun W hW => load_line (h.below hW) 1
  have HL := Lib.hid (fun W (hW : Below w.heap.size w W) => lin_ok (h.below hW))
  have HS := Lib.hid hS
  have HC := Lib.hid hC
  generalize lineV s 0 = x0 at *
  generalize lineV s 1 = x1 at *
  generalize s.1.length = n at *
  have HA := Lib.hid hans
  clear h hS hC hans
  go_enter Try.func37, Try.ntmps37
  go_wp2_with fail
  refine H0.out.mono ?_
  rintro e w1 ⟨A0, c0, e0, rfl, hr0, hc0, hb1⟩
  have B1 := Lib.hid hb1
  have R0 := Lib.hid hr0
  clear hb1 hr0
  go_wp2_with fail
  refine (H1.out w1 B1.out).mono ?_
  rintro e w2 ⟨A1, c1, e1, rfl, hr1, hc1, hb⟩
  have B2 := Lib.hid (B1.out.trans (hb.mono B1.out.size))
  have R1 := Lib.hid hr1
  have R2 := Lib.hid (R0.out.below hb)
  clear hr1 hb
  go_wp2_with fail
  refine (HS.out w2 A0 c0 hc0 R2.out).mono ?_
  rintro e w3 ⟨rfl, hb⟩
  have B3 := Lib.hid (B2.out.trans (hb.mono B2.out.size))
  have R3 := Lib.hid (R1.out.below hb)
  clear hb
  go_wp2_with fail
  refine (HC.out w3 A1 c1 hc1 R3.out).mono ?_
  rintro e w4 ⟨rfl, hb⟩
  have B4 := Lib.hid (B3.out.trans (hb.mono B3.out.size))
  have HLL := Lib.hid (HL.out w4 B4.out)
  clear hb hc0 hc1
  have hA := HA.out
  clear HA
  unfold openAns at hA
  cases ok with
  | false =>
    simp only [Bool.false_eq_true, false_and, if_false, Prod.mk.injEq] at hA
    obtain ⟨rfl, rfl⟩ := hA
    go_wp2
    go_ret2
    exact ⟨rfl, B4.out⟩
  | true =>
    rcases Classical.em (N = n) with hN | hN
    · subst hN
      have hne : ((N : Int) != (N : Int)) = false := by simp
      cases fine with
      | false =>
        simp only [Bool.false_eq_true, and_false, if_false, Prod.mk.injEq] at hA
        obtain ⟨rfl, rfl⟩ := hA
        go_wp2_with fail
        refine HLL.out.mono ?_
        rintro e w' ⟨rfl, rfl⟩
        go_wp2
        go_ret2
        exact ⟨rfl, B4.out⟩
      | true =>
        simp only [and_self, if_true] at hA
        rcases Classical.em (1152921504606846976 < v) with hv | hv
        · rw [if_pos hv, Prod.mk.injEq] at hA
          obtain ⟨rfl, rfl⟩ := hA
          have hv' : (1152921504606846976 : Int) < (v : Int) := by omega
          go_wp2_with fail
          refine HLL.out.mono ?_
          rintro e w' ⟨rfl, rfl⟩
          go_wp2
          go_ret2
          exact ⟨rfl, B4.out⟩
        · rw [if_neg hv, Prod.mk.injEq] at hA
          obtain ⟨rfl, rfl⟩ := hA
          have hv' : ¬ (1152921504606846976 : Int) < (v : Int) := by omega
          go_wp2_with fail
          refine HLL.out.mono ?_
          rintro e w' ⟨rfl, rfl⟩
          go_wp2
          go_ret2
          exact ⟨rfl, B4.out⟩
    · rw [if_neg (fun h => hN h.2.1), Prod.mk.injEq] at hA
      obtain ⟨rfl, rfl⟩ := hA
      have hne : ((N : Int) != (n : Int)) = true := by simp; omega
      go_wp2_with fail
      refine HLL.out.mono ?_
      rintro e w' ⟨rfl, rfl⟩
      go_wp2
      go_ret2
      exact ⟨rfl, B4.out⟩
set_option maxHeartbeats 1600000 in
theorem ropen_any {w : World} {p q : Nat} {s : St} (h : DvT w p q s) {N v : Nat} {ok fine : Bool} (hS : IsS 19 (lineV s 0) N ok) (hC : IsC 20 (lineV s 1) v fine) {a : Nat} {b : Int} (hans : openAns ok N s.1.length fine v = (a, b)) :
    Calls Try.prog 38 #[.pointer (some ⟨p, 0, none⟩)] w fun e w' => e = .returned (.tuple #[.int .u64 a, .int .i64 b]) ∧ Below w.heap.size w w' := by
  have H0 : Hid (Calls Try.prog 59 #[.pointer (some ⟨p, 0, none⟩), .int .i64 0] w (LoadTo w (lineV s 0))) := rload_line h 0
  have H1 : Hid (∀ W, Below w.heap.size w W → Calls Try.prog 59 #[.pointer (some ⟨p, 0, none⟩), .int .i64 1] W (LoadTo W (lineV s 1))) := fun W hW => rload_line (h.below hW) 1
  have HL := Lib.hid (fun W (hW : Below w.heap.size w W) => (h.below hW).slice)
  have HS := Lib.hid hS
  have HC := Lib.hid hC
  generalize lineV s 0 = x0 at *
  generalize lineV s 1 = x1 at *
  generalize s.1.length = n at *
  have HA := Lib.hid hans
  clear h hS hC hans
  go_enter Try.func38, Try.ntmps38
  go_wp2_with fail
  refine H0.out.mono ?_
  rintro e w1 ⟨A0, c0, e0, rfl, hr0, hc0, hb1⟩
  have B1 := Lib.hid hb1
  have R0 := Lib.hid hr0
  clear hb1 hr0
  go_wp2_with fail
  refine (HS.out w1 A0 c0 hc0 R0.out).mono ?_
  rintro e w2 ⟨rfl, hb⟩
  have B2 := Lib.hid (B1.out.trans (hb.mono B1.out.size))
  clear hb
  go_wp2_with fail
  refine (H1.out w2 B2.out).mono ?_
  rintro e w3 ⟨A1, c1, e1, rfl, hr1, hc1, hb⟩
  have B3 := Lib.hid (B2.out.trans (hb.mono B2.out.size))
  have R3 := Lib.hid hr1
  clear hr1 hb
  go_wp2_with fail
  refine (HC.out w3 A1 c1 hc1 R3.out).mono ?_
  rintro e w4 ⟨rfl, hb⟩
  have B4 := Lib.hid (B3.out.trans (hb.mono B3.out.size))
  obtain ⟨cap, hsl, _⟩ := HL.out w4 B4.out
  clear hb hc0 hc1
  have hA := HA.out
  clear HA
  unfold openAns at hA
  cases ok with
  | false =>
    simp only [Bool.false_eq_true, false_and, if_false, Prod.mk.injEq] at hA
    obtain ⟨rfl, rfl⟩ := hA
    go_wp2
    go_ret2
    exact ⟨rfl, B4.out⟩
  | true =>
    rcases Classical.em (N = n) with hN | hN
    · subst hN
      have hne : ((N : Int) != (N : Int)) = false := by simp
      cases fine with
      | false =>
        simp only [Bool.false_eq_true, and_false, if_false, Prod.mk.injEq] at hA
        obtain ⟨rfl, rfl⟩ := hA
        go_wp2
        go_ret2
        exact ⟨rfl, B4.out⟩
      | true =>
        simp only [and_self, if_true] at hA
        rcases Classical.em (1152921504606846976 < v) with hv | hv
        · rw [if_pos hv, Prod.mk.injEq] at hA
          obtain ⟨rfl, rfl⟩ := hA
          have hv' : (1152921504606846976 : Int) < (v : Int) := by omega
          go_wp2
          go_ret2
          exact ⟨rfl, B4.out⟩
        · rw [if_neg hv, Prod.mk.injEq] at hA
          obtain ⟨rfl, rfl⟩ := hA
          have hv' : ¬ (1152921504606846976 : Int) < (v : Int) := by omega
          go_wp2
          go_ret2
          exact ⟨rfl, B4.out⟩
    · rw [if_neg (fun h => hN h.2.1), Prod.mk.injEq] at hA
      obtain ⟨rfl, rfl⟩ := hA
      have hne : ((N : Int) != (n : Int)) = true := by simp; omega
      go_wp2
      go_ret2
      exact ⟨rfl, B4.out⟩
/-- The device behind a formatting. -/
def St.format (s : St) : St := ((((s.store 0 0 (superL s.1.length)).store 1 0 (clockL 0)).flush 0).flush 1).fence
def St.rformat (s : St) : St := ((((s.store 0 0 (superL s.1.length)).store 1 0 (clockL 0)).flush 0).flush 1).rfence
theorem Sim.format {s r : St} (h : Sim s r) : Sim s.format r.rformat := by
  unfold St.format St.rformat
  rw [← h.len]
  exact ((((h.store _ _ _).store _ _ _).flush _).flush _).fence
set_option maxHeartbeats 400000 in
theorem format_nil (w : World) : Calls Try.prog 31 #[.pointer none] w fun e w' => e = .returned (.int .i64 1) ∧ w = w' := by
  go_enter Try.func31, Try.ntmps31
  go_wp2
  go_ret
  exact ⟨rfl, rfl⟩
set_option maxHeartbeats 800000 in
theorem format_few {w : World} {p q : Nat} {s : St} (h : DvS w p q s) (hn : s.1.length < 10) :
    Calls Try.prog 31 #[.pointer (some ⟨p, 0, none⟩)] w fun e w' => e = .returned (.int .i64 2) ∧ w = w' := by
  have HL := Lib.hid (lin_ok h)
  have HS := Lib.hid (super_bad s.1.length (by simp [holds]; omega) w)
  generalize s.1.length = n at *
  clear h
  go_enter Try.func31, Try.ntmps31
  go_wp2_with fail
  refine HL.out.mono ?_
  rintro e w' ⟨rfl, rfl⟩
  go_wp2_with fail
  refine HS.out.mono ?_
  rintro e w' ⟨rfl, rfl⟩
  go_wp2
  go_ret
  exact ⟨rfl, rfl⟩
theorem stored_err {s : St} {x y : Int} {m : Nat} (hx : has s.1 x = true) (hy : fitsAt y m = true) : err (has s.1 x && fitsAt y m) = 0 := by rw [hx, hy]; rfl
set_option maxHeartbeats 1600000 in
theorem format_ok {w : World} {p q : Nat} {s : St} (h : DvS w p q s) (hn : 10 ≤ s.1.length) :
    Calls Try.prog 31 #[.pointer (some ⟨p, 0, none⟩)] w fun e w' => e = .returned (.int .i64 0) ∧ DvS w' p q s.format ∧ Turns p q w w' := by
  have HL := Lib.hid (lin_ok h)
  have HS := Lib.hid (super_ok s.1.length hn h.len w)
  have HC := Lib.hid (fun W => clock_ok 0 (by omega) W)
  have HLs := Lib.hid (superL_len s.1.length)
  have HLc := Lib.hid (clockL_len 0)
  have HF : Hid (s.format = ((((s.store 0 0 (superL s.1.length)).store 1 0 (clockL 0)).flush 0).flush 1).fence) := rfl
  have HD := Lib.hid h
  generalize s.format = t at *
  generalize superL s.1.length = xs at *
  generalize clockL 0 = xc at *
  obtain ⟨n, hn'⟩ : ∃ n, s.1.length = n := ⟨_, rfl⟩
  rw [hn'] at HL HS
  clear h hn hn'
  go_enter Try.func31, Try.ntmps31
  go_wp2_with fail
  refine HL.out.mono ?_
  rintro e w' ⟨rfl, rfl⟩
  go_wp2_with fail
  refine HS.out.mono ?_
  rintro e w1 ⟨g1, rfl, _, ha, hb⟩
  have D1 := Lib.hid (HD.out.below hb)
  have T1 := Lib.hid (Turns.of_below hb p q)
  have R1 := Lib.hid (ha.row (by have := HLs.out; omega))
  clear ha hb
  go_wp2_with fail
  refine (store_any D1.out 0 0 (some ⟨g1, 0, none⟩) 64 64 xs HLs.out R1.out (fun h => by cases h)).mono ?_
  rintro e w2 ⟨rfl, hd, ht⟩
  have D2 := Lib.hid hd
  have T2 := Lib.hid (T1.out.trans ht)
  clear hd ht
  go_wp2_with fail
  refine (HC.out w2).mono ?_
  rintro e w3 ⟨g3, rfl, _, ha, hb⟩
  have D3 := Lib.hid (D2.out.below hb)
  have T3 := Lib.hid (T2.out.trans (Turns.of_below hb p q))
  have R3 := Lib.hid (ha.row (by have := HLc.out; omega))
  clear ha hb
  go_wp2_with fail
  refine (store_any D3.out 1 0 (some ⟨g3, 0, none⟩) 64 64 xc HLc.out R3.out (fun h => by cases h)).mono ?_
  rintro e w4 ⟨rfl, hd, ht⟩
  have D4 := Lib.hid hd
  have T4 := Lib.hid (T3.out.trans ht)
  clear hd ht
  go_wp2_with fail
  refine (flush_any D4.out 0).mono ?_
  rintro e w5 ⟨rfl, hd, ht⟩
  have D5 := Lib.hid hd
  have T5 := Lib.hid (T4.out.trans ht)
  clear hd ht
  go_wp2_with fail
  refine (flush_any D5.out 1).mono ?_
  rintro e w6 ⟨rfl, hd, ht⟩
  have D6 := Lib.hid hd
  have T6 := Lib.hid (T5.out.trans ht)
  clear hd ht
  go_wp2_with fail
  refine (fence_any D6.out).mono ?_
  rintro e w7 ⟨rfl, hd, ht⟩
  have D7 := Lib.hid hd
  have T7 := Lib.hid (T6.out.trans ht)
  clear hd ht
  go_wp2
  go_ret
  exact ⟨rfl, by rw [HF.out]; exact D7.out, T7.out⟩

end Go.Proofs.Ytifodinikonkhaa
