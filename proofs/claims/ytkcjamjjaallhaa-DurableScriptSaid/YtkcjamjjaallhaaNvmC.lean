/-
  Proved here: what package nvm's Back and Store answer and leave, of no device, of a line or an offset that is not there, of one that is.
  Conditions: a device of at most 258 lines; what is stored has at most 2^30 bytes.
-/
import Derived.Test.YtkcjamjjaallhaaNvmB
namespace Go.Proofs.Ytkcjamjjaallhaa
open Go Go.RowKit

set_option maxHeartbeats 400000 in
theorem back_nil (x : Int) (w : World) : Calls Try.prog 23 #[.pointer none, .int .i64 x] w fun e w' => e = .returned (.int .i64 1) ∧ w = w' := by
  go_enter Try.func23, Try.ntmps23
  go_wp2_with fail
  refine (find_nil x w).mono ?_
  rintro e w' ⟨rfl, rfl⟩
  go_wp2
  go_ret
  exact ⟨rfl, rfl⟩
set_option maxHeartbeats 400000 in
theorem back_bad {w : World} {p q : Nat} {st : List Cl} {cs : List Int} (h : DvP w p q st cs) (x : Int) (hx : x < 0 ∨ (st.length : Int) ≤ x) :
    Calls Try.prog 23 #[.pointer (some ⟨p, 0, none⟩), .int .i64 x] w fun e w' => e = .returned (.int .i64 2) ∧ w = w' := by
  have HF := Lib.hid (find_bad h x hx)
  clear h hx
  go_enter Try.func23, Try.ntmps23
  go_wp2_with fail
  refine HF.out.mono ?_
  rintro e w' ⟨rfl, rfl⟩
  go_wp2
  go_ret
  exact ⟨rfl, rfl⟩
set_option maxHeartbeats 400000 in
theorem back_ok {w : World} {p q : Nat} {st : List Cl} {cs : List Int} (h : DvP w p q st cs) {i : Nat} {c : Cl} (hc : st[i]? = some c) :
    Calls Try.prog 23 #[.pointer (some ⟨p, 0, none⟩), .int .i64 i] w fun e w' => e = .returned (.int .i64 0) ∧ DvP w' p q (st.set i c.back) (bump cs 3) ∧ Turns p q w w' := by
  have hlt := (List.getElem?_eq_some_iff.1 hc).1
  have hok := oks_at h.oks hc
  have HF := Lib.hid (find_ok h i hlt)
  have HV := Lib.hid (h.range_v hc)
  have HX := Lib.hid hok.1
  have HD := Lib.hid h
  have HC := Lib.hid hc
  have HOV := Lib.hid (over_p hok c.v hok.1)
  have HOK1 : Hid (({ c with p := c.v } : Cl).ok) := ⟨hok.1, hok.1, hok.2.2⟩
  have HC1 : Hid ((st.set i { c with p := c.v })[i]? = some { c with p := c.v }) := by show _ = _; rw [List.getElem?_set_self hlt]
  have HFL : Hid (c.back = ({ c with p := c.v } : Cl).stop) := rfl
  generalize c.back = d at *
  generalize hc1 : ({ c with p := c.v } : Cl) = c1 at *
  clear h hc hok hc1
  go_enter Try.func23, Try.ntmps23
  go_wp2_with fail
  refine HF.out.mono ?_
  rintro e w' ⟨rfl, rfl⟩
  go_wp2_with (first
    | ((with_reducible show wpList _ _ _ (⟨some 20, _, _, _, _, _⟩ :: _) _ _); refine wpList_load_agg (o := ⟨some 20, _, _, _, _, _⟩) rfl 105 (.tmp 19) rfl q (i * 193) rfl (enc c.v) _ HV.out Try.underlying105 rfl (by rw [enc_len, HX.out]; exact size_content) ?_)
    | ((with_reducible show wpList _ _ _ (⟨none, .store 105 _ _, _, _, _, _⟩ :: _) _ _); refine wpList_store_line (o := ⟨none, .store 105 (.tmp 22) (.tmp 20), _, _, _, _⟩) rfl _ _ _ rfl rfl HD.out HC.out (i * 193 + 64) 64 rfl (.agg (enc c.v).toArray) (enc c.v) rfl rfl rfl (by rw [enc_len, HX.out]; exact size_content) (by rw [enc_len, HX.out]; omega) _ HOV.out HOK1.out enc_one ?_; intro w1 HD1 HT1)
    | ((with_reducible show Calls _ 49 _ _ _); refine (stop_ok HD1.out HC1.out).mono ?_; rintro e w2 ⟨rfl, hd2, ht2⟩; have HD2 := Lib.hid hd2; have HT2 := Lib.hid ht2; clear hd2 ht2)
    | ((with_reducible show Calls _ 47 _ _ _); refine (add_ok HD2.out 3 (by decide)).mono ?_; rintro e w3 ⟨rfl, hd3, ht3⟩; have HD3 := Lib.hid hd3; have HT3 := Lib.hid ht3; clear hd3 ht3))
  go_ret
  refine ⟨rfl, ?_, (HT1.out.trans HT2.out).trans HT3.out⟩
  have := HD3.out
  rw [List.set_set] at this
  rw [HFL.out]
  exact this

def Cl.store (c : Cl) (a : Nat) (x : List UInt8) : Cl := { c with v := c.v.take a ++ x ++ c.v.drop (a + x.length) }
theorem Cl.store_ok {c : Cl} (h : c.ok) (a : Nat) (x : List UInt8) (hx : a + x.length ≤ 64) : (c.store a x).ok := ⟨by have := h.1; simp [Cl.store]; omega, h.2⟩
theorem set_same {st : List Cl} {i : Nat} {c : Cl} (h : st[i]? = some c) : st.set i c = st := by
  obtain ⟨hi, rfl⟩ := List.getElem?_eq_some_iff.1 h
  exact List.set_getElem_self hi
/-- A copy into line i, by the operation. -/
theorem wpList_copy_line {P : Program} {ops : Array Oper} {rest : List Oper} {o : Oper} {a : Act} {Q : Exit → Act → World → Prop} (hgd : o.guard = none) (dT sT elem : TypeId) (x y : Operand) (ho : o.op = .call { callee := .builtin .copy, args := #[x, y], argTypes := #[dT, sT] })
    (hu : P.underlying dT = some (.slice elem)) (hs : (P.info? elem).map (·.size) = some 1)
    {T D : TypeId} {w : World} {p q : Nat} {st : List Cl} {cs : List Int} (h : Dv T D w p q st cs) {i : Nat} {c : Cl} (hc : st[i]? = some c) (at_ : Nat) (A B : Option Addr) (n m k1 k2 : Nat) (l : List UInt8) (hl : l.length = m) (hn : m ≤ n) (ha : at_ + m ≤ 64)
    (hA : ∃ ad, A = some ad) (hA1 : 0 < m → A = some ⟨q, i * 193 + at_, none⟩) (hB : Row w B l) (hB0 : B = none → k2 = 0)
    (hx : a.eval x = .slice A n k1) (hy : a.eval y = .slice B m k2)
    (k : ∀ w', Hid (Dv T D w' p q (st.set i (c.store at_ l)) cs) → Hid (Turns p q w w') → wpList P ops Q rest (a.put o.dst (.int .i64 m)) w') : wpList P ops Q (o :: rest) a w := by
  have hok := oks_at h.oks hc
  have hrun : ∃ w', (Builtin.copy_ #[dT, sT] o.type #[.slice A n k1, .slice B m k2]).run P w = .ok (.int .i64 m) w' ∧ Dv T D w' p q (st.set i (c.store at_ l)) cs ∧ Turns p q w w' := by
    rcases Nat.eq_zero_or_pos m with h0 | h0
    · obtain ⟨ad, rfl⟩ := hA
      have hl0 : l = [] := List.eq_nil_of_length_eq_zero (by omega)
      subst h0 hl0
      have e : c.store at_ [] = c := by cases c; simp [Cl.store]
      have e2 : st.set i (c.store at_ []) = st := by rw [e]; exact set_same hc
      rw [e2]
      refine ⟨w, ?_, h, Turns.refl _ _ _⟩
      cases hq : P.info? elem with
      | none => simp [hq] at hs
      | some inf =>
        cases B with
        | none => simp [Builtin.copy_, run_underlying hu, Builtin.lenOf, Builtin.firstCells, sizeOf, typeInfo, hq, storeCells, goInt]
        | some bd => simp [Builtin.copy_, run_underlying hu, Builtin.lenOf, Builtin.firstCells, sizeOf, typeInfo, hq, storeCells, goInt, loadCells, loadCellsFrom]
    · rw [hA1 h0]
      obtain ⟨b, off, rfl, _, hcl⟩ := hB.2 (by omega)
      obtain ⟨r, er⟩ := h.row
      have hi : i < st.length := (List.getElem?_eq_some_iff.1 hc).1
      obtain ⟨w', hst, hD, hT⟩ := h.stored (P := P) hc at_ (enc l) (by rw [enc_len]; omega) (c.store at_ l) (over_v hok at_ l (by omega)) (c.store_ok hok at_ l (by omega)) enc_one
      have hsz : i * 193 + at_ + (enc l).length ≤ (flat st ++ r).toArray.size := by
        rw [List.size_toArray, List.length_append, flat_len h.oks, enc_len]
        have : (i + 1) * 193 ≤ st.length * 193 := Nat.mul_le_mul_right _ hi
        omega
      have hcp := run_copy_row (P := P) w dT sT o.type elem q (i * 193 + at_) n k1 ⟨b, off, none⟩ m k2 (flat st ++ r).toArray T (enc l) hu hs er (by rw [enc_len, hl]; exact (Nat.min_eq_left hn).symm)
        (fun j v hv => by obtain ⟨hj, rfl⟩ := enc_at' l hv; rw [add_plain]; exact hcl j hj) hsz enc_one
      have hs2 := run_storeCells_at P q (i * 193 + at_) T (enc l) 0 _ w er (by simpa using hsz) enc_one
      simp only [Nat.add_zero] at hs2
      rw [hst] at hs2
      injection hs2 with _ hs2
      rw [enc_len, hl] at hcp hs2
      rw [← hs2] at hcp
      exact ⟨w', hcp, hD, hT⟩
  obtain ⟨w', hr, hD, hT⟩ := hrun
  refine wpList_plain hgd fun _ hK => ?_
  unfold Oper.wp execOp
  simp only [ho, resolve, invoke, builtin, Sem.run_bind, Sem.run_pure, Result.andThen_ok, List.map_toArray, List.map_cons, List.map_nil, hx, hy, hr]
  exact hK _ _ (k w' hD hT)

set_option maxHeartbeats 400000 in
theorem store_nil (x y : Int) (v : Value) (w : World) : Calls Try.prog 21 #[.pointer none, .int .i64 x, .int .i64 y, v] w fun e w' => e = .returned (.int .i64 1) ∧ w = w' := by
  go_enter Try.func21, Try.ntmps21
  go_wp2_with fail
  refine (find_nil x w).mono ?_
  rintro e w' ⟨rfl, rfl⟩
  go_wp2
  go_ret
  exact ⟨rfl, rfl⟩
set_option maxHeartbeats 400000 in
theorem store_bad {w : World} {p q : Nat} {st : List Cl} {cs : List Int} (h : DvP w p q st cs) (x y : Int) (v : Value) (hx : x < 0 ∨ (st.length : Int) ≤ x) :
    Calls Try.prog 21 #[.pointer (some ⟨p, 0, none⟩), .int .i64 x, .int .i64 y, v] w fun e w' => e = .returned (.int .i64 2) ∧ w = w' := by
  have HF := Lib.hid (find_bad h x hx)
  clear h hx
  go_enter Try.func21, Try.ntmps21
  go_wp2_with fail
  refine HF.out.mono ?_
  rintro e w' ⟨rfl, rfl⟩
  go_wp2
  go_ret
  exact ⟨rfl, rfl⟩
set_option maxHeartbeats 400000 in
theorem store_off {w : World} {p q : Nat} {st : List Cl} {cs : List Int} (h : DvP w p q st cs) (i : Nat) (hi : i < st.length) (y : Int) (B : Option Addr) (m k : Nat) (hm : m ≤ 1073741824) (hy : y < 0 ∨ 64 - (m : Int) < y) :
    Calls Try.prog 21 #[.pointer (some ⟨p, 0, none⟩), .int .i64 i, .int .i64 y, .slice B m k] w fun e w' => e = .returned (.int .i64 2) ∧ w = w' := by
  have HF := Lib.hid (find_ok h i hi)
  clear h hi
  rcases Classical.em (y < 0) with h1 | h1
  · clear hy
    go_enter Try.func21, Try.ntmps21
    go_wp2_with fail
    refine HF.out.mono ?_
    rintro e w' ⟨rfl, rfl⟩
    go_wp2
    go_ret
    exact ⟨rfl, rfl⟩
  · have h2 : 64 - (m : Int) < y := by omega
    clear hy
    go_enter Try.func21, Try.ntmps21
    go_wp2_with fail
    refine HF.out.mono ?_
    rintro e w' ⟨rfl, rfl⟩
    go_wp2
    go_ret
    exact ⟨rfl, rfl⟩
theorem slice_from (q o a : Nat) (ha : a ≤ 64) (w : World) : (Instr.sliceAt 105 (.pointer (some ⟨q, o, none⟩)) (some (.int .i64 a)) none none).run Try.prog w = .ok (.slice (some (if 64 = a then ⟨q, o, none⟩ else ⟨q, o + a, none⟩)) (64 - a) (64 - a)) w := by
  obtain ⟨i, hi, _, hs, _⟩ : ∃ i, Try.prog.info? 5 = some i ∧ i.zero = some (.int .u8 0) ∧ i.size = 1 ∧ i.bytes = 1 := by
    obtain ⟨i, h1, h2⟩ := Option.map_eq_some_iff.1 byte_info
    simp only [Prod.mk.injEq] at h2
    exact ⟨i, h1, h2.1, h2.2.1, h2.2.2⟩
  have h2 : (Instr.sliceBound (.int .i64 a) 64 .sliceB).run Try.prog w = .ok a w := by simp [Instr.sliceBound, asIntOf]; omega
  simp [Instr.sliceAt, run_underlying Try.underlying105, Instr.sureAddr, Instr.sliceBounds, h2, sizeOf, typeInfo, hi, hs, add_plain]
set_option maxHeartbeats 800000 in
set_option maxRecDepth 100000 in
theorem store_ok {w : World} {p q : Nat} {st : List Cl} {cs : List Int} (h : DvP w p q st cs) {i : Nat} {c : Cl} (hc : st[i]? = some c) (a : Nat) (B : Option Addr) (m k : Nat) (l : List UInt8) (hl : l.length = m) (ha : a + m ≤ 64) (hB : Row w B l) (hB0 : B = none → k = 0) :
    Calls Try.prog 21 #[.pointer (some ⟨p, 0, none⟩), .int .i64 i, .int .i64 a, .slice B m k] w fun e w' => e = .returned (.int .i64 0) ∧ DvP w' p q (st.set i (c.store a l)) (bump cs 0) ∧ Turns p q w w' := by
  have hlt := (List.getElem?_eq_some_iff.1 hc).1
  have HF := Lib.hid (find_ok h i hlt)
  have HD := Lib.hid h
  have HC := Lib.hid hc
  have HL := Lib.hid hl
  have HB := Lib.hid hB
  have HB0 := Lib.hid hB0
  have hlt64 : ¬ (64 - (m : Int)) < (a : Int) := by omega
  have hd0 : decide ((a : Int) < 0) = false := by simp
  have hsl := slice_from q (i * 193) a (by omega) w
  obtain ⟨A, hA⟩ : ∃ A, (if 64 = a then ⟨q, i * 193, none⟩ else ⟨q, i * 193 + a, none⟩ : Addr) = A := ⟨_, rfl⟩
  rw [hA] at hsl
  have HA : Hid (0 < m → some A = some ⟨q, i * 193 + a, none⟩) := fun hm => by rw [← hA, if_neg (by omega)]
  generalize hd : c.store a l = d at *
  have HDD := Lib.hid hd
  clear h hc hl hB hB0 hd hA
  go_enter Try.func21, Try.ntmps21
  go_wp2_with fail
  refine HF.out.mono ?_
  rintro e w' ⟨rfl, rfl⟩
  go_wp2_with (first
    | ((with_reducible show wpList _ _ _ (⟨some 35, _, _, _, _, _⟩ :: _) _ _); refine wpList_copy_line (o := ⟨some 35, _, _, _, _, _⟩) rfl 50 50 5 (.tmp 33) (.tmp 34) rfl Try.underlying50 byte_size HD.out HC.out a (some A) B (64 - a) m (64 - a) k l HL.out (by omega) ha ⟨_, rfl⟩ HA.out HB.out HB0.out rfl rfl ?_; intro w1 HD1 HT1)
    | ((with_reducible show Calls _ 47 _ _ _); refine (add_ok HD1.out 0 (by decide)).mono ?_; rintro e w3 ⟨rfl, hd3, ht3⟩; have HD3 := Lib.hid hd3; have HT3 := Lib.hid ht3; clear hd3 ht3))
  go_ret
  refine ⟨rfl, ?_, HT1.out.trans HT3.out⟩
  rw [← HDD.out]
  exact HD3.out

end Go.Proofs.Ytkcjamjjaallhaa
