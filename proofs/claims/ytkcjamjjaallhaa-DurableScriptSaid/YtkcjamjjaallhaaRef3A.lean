/-
  Proved here: what chapter 3's own Has, New, Load and Durable answer and leave.
  Conditions: a device of at most 258 lines.
-/
import Derived.Test.YtkcjamjjaallhaaNvmM
import Derived.StillTailTactics
import Derived.Deep.QuietTactic
import Derived.BigQuiet
import Derived.IntWalk
import Derived.WalkSmall
namespace Go.Proofs.Ytkcjamjjaallhaa
open Go Go.RowKit

abbrev DvR (w : World) (p q : Nat) (st : List Cl) (cs : List Int) : Prop := Dv 110 96 w p q st cs
theorem size_arr : (Try.prog.info? 104).map (·.size) = some 64 := by kernel_rfl
theorem zero_arr : (Try.prog.info? 104).bind (·.zero) = some (.agg (enc zeros64).toArray) := by kernel_rfl
theorem wpStill_load_mid {P : Program} {ops : Array Oper} {w : World} {Q : Act → Prop} {a : Act} {o : Oper} {rest : List Oper} (hw : Region.wanted o (yielded ops a.tmps) = true) (ty : TypeId) (x : Operand) (ho : o.op = .load ty x)
    (b off : Nat) (hx : a.eval x = .pointer (some ⟨b, off, none⟩)) (xs : List Value) (d : TypeDesc) (hC : w.rangeAt b off xs) (hu : P.underlying ty = some d) (hd : d.isRow = true) (hi : (P.info? ty).map (·.size) = some xs.length)
    (h : wpStill P ops w Q rest (a.put o.dst (.agg xs.toArray))) : wpStill P ops w Q (o :: rest) a :=
  wpStill_step fun K hK => by
    rw [if_pos hw]
    unfold Oper.still execOp
    simp only [ho, hx, Instr.loadAt, Instr.sureAddr, Sem.run_bind, Sem.run_pure, Result.andThen_ok, run_loadVar_mid w b off ty xs d hC hu hd hi]
    exact ⟨rfl, hK _ h⟩

set_option maxHeartbeats 400000 in
theorem rhas_any {w : World} {p q : Nat} {st : List Cl} {cs : List Int} (h : DvR w p q st cs) (x : Int) :
    Calls Try.prog 48 #[.pointer (some ⟨p, 0, none⟩), .int .i64 x] w fun e w' => e = .returned (.bool (has st x)) ∧ w = w' := by
  obtain ⟨cap, hc, _⟩ := h.slice
  obtain ⟨n, hn'⟩ : ∃ n, st.length = n := ⟨_, rfl⟩
  have e : has st x = (decide (0 ≤ x) && decide (x < (n : Int))) := by rw [has, hn']
  rw [e]
  rw [hn'] at hc
  clear h hn' e
  rcases Classical.em (0 ≤ x) with h1 | h1
  · rw [decide_eq_true h1, Bool.true_and]
    generalize hd : decide (x < (n : Int)) = D
    have HD := Lib.hid hd
    rcases Classical.em (x < (n : Int)) with h2 | h2
    · have hD : D = true := by rw [← hd]; simpa using h2
      subst hD
      clear hd HD
      go_enter Try.func48, Try.ntmps48
      go_wp2
      go_ret
      exact ⟨rfl, rfl⟩
    · have hD : D = false := by rw [← hd]; simpa using h2
      subst hD
      clear hd HD
      go_enter Try.func48, Try.ntmps48
      go_wp2
      go_ret
      exact ⟨rfl, rfl⟩
  · rw [decide_eq_false h1, Bool.false_and]
    go_enter Try.func48, Try.ntmps48
    go_wp2
    go_ret
    exact ⟨rfl, rfl⟩

theorem line_info : (Try.prog.info? 110).map (fun i => (i.zero, i.size, i.bytes)) = some (some (.agg Cl.zero.cells.toArray), 193, 193) := by kernel_rfl
/-- What the chapter's New makes. -/
theorem rnew_made (w : World) (n : Nat) (hn : n ≤ 258) : ∃ w1, (Instr.makeSlice 92 (.int .i64 (n : Int)) (.int .i64 (n : Int))).run Try.prog w = .ok (.slice (some ⟨w.heap.size, 0, none⟩) n n) w1 ∧
    w1.heap[w.heap.size]? = some (.cells (flat (fresh n)).toArray 110 (0, 0)) ∧ Below w.heap.size w w1 ∧ w1.heap.size = w.heap.size + 1 := by
  obtain ⟨i, hi, hz, hs, hy⟩ : ∃ i, Try.prog.info? 110 = some i ∧ i.zero = some (.agg Cl.zero.cells.toArray) ∧ i.size = 193 ∧ i.bytes = 193 := by
    obtain ⟨i, h1, h2⟩ := Option.map_eq_some_iff.1 line_info
    simp only [Prod.mk.injEq] at h2
    exact ⟨i, h1, h2.1, h2.2.1, h2.2.2⟩
  have hmk := run_make (P := Try.prog) w 92 110 i _ Try.underlying92 hi hz .i64 .i64 (n : Int) (n : Int) (by omega) (by omega) (by rw [hy]; omega) (by omega)
  rw [Int.toNat_natCast, hs] at hmk
  refine ⟨_, hmk, ?_, (Below.refl _ _).alloc (Nat.le_refl _) _, by simp⟩
  have := made_lines (Value.cells (.agg Cl.zero.cells.toArray)) rfl n
  rw [← this]
  show (w.heap.push _)[w.heap.size]? = _
  simp
def MadeR (w : World) (n : Nat) (e : Ending) (w' : World) : Prop :=
  ∃ p q, e = .returned (.tuple #[.pointer (some ⟨p, 0, none⟩), .int .i64 0]) ∧ w.heap.size ≤ p ∧ w.heap.size ≤ q ∧ DvR w' p q (fresh n) five0 ∧ Below w.heap.size w w'
set_option maxHeartbeats 400000 in
theorem rnew_bad (x : Int) (hx : x < 1 ∨ 258 < x) (w : World) : Calls Try.prog 14 #[.int .i64 x] w fun e w' => e = .returned (.tuple #[.pointer none, .int .i64 2]) ∧ w = w' := by
  rcases Classical.em (x < 1) with h1 | h1
  · clear hx
    go_enter Try.func14, Try.ntmps14
    go_wp2
    go_ret2
    exact ⟨rfl, rfl⟩
  · have h2 : 258 < x := by omega
    clear hx
    go_enter Try.func14, Try.ntmps14
    go_wp2
    go_ret2
    exact ⟨rfl, rfl⟩
set_option maxHeartbeats 400000 in
theorem rnew_ok (n : Nat) (h1 : 1 ≤ n) (h2 : n ≤ 258) (w : World) : Calls Try.prog 14 #[.int .i64 n] w (MadeR w n) := by
  obtain ⟨w1, hmk, hq, hb, hs⟩ := rnew_made w n h2
  have HQ := Lib.hid hq
  have HB := Lib.hid hb
  obtain ⟨g, hg⟩ : ∃ g, w.heap.size = g := ⟨_, rfl⟩
  rw [hg] at hmk HQ HB hs
  have HG := Lib.hid hg
  have HS := Lib.hid hs
  clear hq hb hg hs
  have h3 : ¬ (n : Int) < 1 := by omega
  have h4 : ¬ 258 < (n : Int) := by omega
  go_enter Try.func14, Try.ntmps14
  go_wp2
  go_ret2
  have hs1 := HS.out
  refine ⟨w1.heap.size, g, rfl, by have := HG.out; omega, Nat.le_of_eq HG.out, ⟨fresh_oks n, by simp [fresh, h2], rfl, by omega, ⟨n, ?_, by simp [fresh]⟩, ⟨[], ?_⟩⟩, ?_⟩
  · show (w1.heap.push _)[w1.heap.size]? = _
    simp [fresh, five0]
  · rw [Below.heap_alloc _ _ _ (by omega), List.append_nil]
    exact HQ.out
  · rw [HG.out]
    exact HB.out.alloc (by omega) _
set_option maxHeartbeats 400000 in
theorem rload_bad {w : World} {p q : Nat} {st : List Cl} {cs : List Int} (h : DvR w p q st cs) (x : Int) (hx : has st x = false) :
    Calls Try.prog 55 #[.pointer (some ⟨p, 0, none⟩), .int .i64 x] w fun e w' => e = .returned (.tuple #[.slice none 0 0, .int .i64 2]) ∧ w = w' := by
  have hf := rhas_any h x
  rw [hx] at hf
  have HF := Lib.hid hf
  clear h hx hf
  go_enter Try.func55, Try.ntmps55
  go_wp2_with fail
  refine HF.out.mono ?_
  rintro e w' ⟨rfl, rfl⟩
  go_wp2
  go_ret2
  exact ⟨rfl, rfl⟩
set_option maxHeartbeats 400000 in
theorem rdurable_bad {w : World} {p q : Nat} {st : List Cl} {cs : List Int} (h : DvR w p q st cs) (x : Int) (hx : has st x = false) :
    Calls Try.prog 56 #[.pointer (some ⟨p, 0, none⟩), .int .i64 x] w fun e w' => e = .returned (.tuple #[.slice none 0 0, .int .i64 2]) ∧ w = w' := by
  have hf := rhas_any h x
  rw [hx] at hf
  have HF := Lib.hid hf
  clear h hx hf
  go_enter Try.func56, Try.ntmps56
  go_wp2_with fail
  refine HF.out.mono ?_
  rintro e w' ⟨rfl, rfl⟩
  go_wp2
  go_ret2
  exact ⟨rfl, rfl⟩
set_option maxHeartbeats 400000 in
theorem rload_ok {w : World} {p q : Nat} {st : List Cl} {cs : List Int} (h : DvR w p q st cs) {i : Nat} {c : Cl} (hc : st[i]? = some c) :
    Calls Try.prog 55 #[.pointer (some ⟨p, 0, none⟩), .int .i64 i] w (Loaded 104 w c.v) := by
  have hlt := (List.getElem?_eq_some_iff.1 hc).1
  have hf := rhas_any h (i : Int)
  rw [has_nat hlt] at hf
  have HF := Lib.hid hf
  have HV := Lib.hid (h.range_v hc)
  have HX := Lib.hid (oks_at h.oks hc).1
  have HZ := Lib.hid zero_arr
  have HZL := Lib.hid zeros64_len
  obtain ⟨cap, hsl, _⟩ := h.slice
  obtain ⟨n, hn'⟩ : ∃ n, st.length = n := ⟨_, rfl⟩
  rw [hn'] at hsl hlt
  have hin : (i : Int) < (n : Int) := by omega
  obtain ⟨g, hg⟩ : ∃ g, w.heap.size = g := ⟨_, rfl⟩
  have HG := Lib.hid hg
  generalize c.v = x at *
  generalize zeros64 = Z at *
  clear h hc hg hf hn'
  go_enter Try.func55, Try.ntmps55
  go_wp2_with fail
  refine HF.out.mono ?_
  rintro e w' ⟨rfl, rfl⟩
  go_wp2_with (first
    | ((with_reducible show wpList _ _ _ (⟨some 18, _, _, _, _, _⟩ :: _) _ _); refine wpList_load_agg (o := ⟨some 18, _, _, _, _, _⟩) rfl 104 (.tmp 17) rfl q (i * 193) rfl (enc x) _ HV.out Try.underlying104 rfl (by rw [enc_len, HX.out]; exact size_arr) ?_)
    | ((with_reducible show wpList _ _ _ (⟨some 6, _, _, _, _, _⟩ :: _) _ _); refine wpList_alloc_var (o := ⟨some 6, _, _, _, _, _⟩) rfl 104 rfl g HG.out _ HZ.out ?_; intro w1 HA1 HB1)
    | ((with_reducible show wpList _ _ _ (⟨none, .store _ _ _, _, _, _, _⟩ :: _) _ _); refine wpList_store_whole (o := ⟨none, .store 104 (.tmp 6) (.tmp 18), _, _, _, _⟩) rfl _ _ _ rfl rfl g (enc x).toArray rfl rfl 104 (enc Z).toArray HA1.out (by rw [List.size_toArray, enc_len, HX.out]; exact size_arr) (by rw [List.size_toArray, List.size_toArray, enc_len, enc_len, HX.out, HZL.out]) (all_enc x) ?_; intro w2 HA2 HB2))
  go_ret2
  exact ⟨g, rfl, Nat.le_of_eq HG.out, HA2.out, by rw [HG.out]; exact HB1.out.trans HB2.out⟩
set_option maxHeartbeats 400000 in
theorem rdurable_ok {w : World} {p q : Nat} {st : List Cl} {cs : List Int} (h : DvR w p q st cs) {i : Nat} {c : Cl} (hc : st[i]? = some c) :
    Calls Try.prog 56 #[.pointer (some ⟨p, 0, none⟩), .int .i64 i] w (Loaded 104 w c.p) := by
  have hlt := (List.getElem?_eq_some_iff.1 hc).1
  have hf := rhas_any h (i : Int)
  rw [has_nat hlt] at hf
  have HF := Lib.hid hf
  have HV := Lib.hid (h.range_p hc)
  have HX := Lib.hid (oks_at h.oks hc).2.1
  have HZ := Lib.hid zero_arr
  have HZL := Lib.hid zeros64_len
  obtain ⟨cap, hsl, _⟩ := h.slice
  obtain ⟨n, hn'⟩ : ∃ n, st.length = n := ⟨_, rfl⟩
  rw [hn'] at hsl hlt
  have hin : (i : Int) < (n : Int) := by omega
  obtain ⟨g, hg⟩ : ∃ g, w.heap.size = g := ⟨_, rfl⟩
  have HG := Lib.hid hg
  generalize c.p = x at *
  generalize zeros64 = Z at *
  clear h hc hg hf hn'
  go_enter Try.func56, Try.ntmps56
  go_wp2_with fail
  refine HF.out.mono ?_
  rintro e w' ⟨rfl, rfl⟩
  go_wp2_with (first
    | ((with_reducible show wpList _ _ _ (⟨some 18, _, _, _, _, _⟩ :: _) _ _); refine wpList_load_agg (o := ⟨some 18, _, _, _, _, _⟩) rfl 104 (.tmp 17) rfl q (i * 193 + 64) rfl (enc x) _ HV.out Try.underlying104 rfl (by rw [enc_len, HX.out]; exact size_arr) ?_)
    | ((with_reducible show wpList _ _ _ (⟨some 6, _, _, _, _, _⟩ :: _) _ _); refine wpList_alloc_var (o := ⟨some 6, _, _, _, _, _⟩) rfl 104 rfl g HG.out _ HZ.out ?_; intro w1 HA1 HB1)
    | ((with_reducible show wpList _ _ _ (⟨none, .store _ _ _, _, _, _, _⟩ :: _) _ _); refine wpList_store_whole (o := ⟨none, .store 104 (.tmp 6) (.tmp 18), _, _, _, _⟩) rfl _ _ _ rfl rfl g (enc x).toArray rfl rfl 104 (enc Z).toArray HA1.out (by rw [List.size_toArray, enc_len, HX.out]; exact size_arr) (by rw [List.size_toArray, List.size_toArray, enc_len, enc_len, HX.out, HZL.out]) (all_enc x) ?_; intro w2 HA2 HB2))
  go_ret2
  exact ⟨g, rfl, Nat.le_of_eq HG.out, HA2.out, by rw [HG.out]; exact HB1.out.trans HB2.out⟩

end Go.Proofs.Ytkcjamjjaallhaa
