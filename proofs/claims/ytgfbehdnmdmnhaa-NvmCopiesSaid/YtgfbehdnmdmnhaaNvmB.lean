/-
  Proved here: what package nvm's Load, Durable and Flush answer and leave, of no device, of a line that is not there, of one that is.
  Conditions: a device of at most 258 lines.
-/
import Derived.Test.YtgfbehdnmdmnhaaNvmA
namespace Go.Proofs.Ytgfbehdnmdmnhaa
open Go Go.RowKit

/-- A new variable of type t, by the operation. -/
theorem wpList_alloc_var {P : Program} {ops : Array Oper} {rest : List Oper} {o : Oper} {a : Act} {w : World} {Q : Exit → Act → World → Prop} (hgd : o.guard = none) (t : TypeId) (ho : o.op = .alloc t) (g : Nat) (hg : w.heap.size = g) (z : Value)
    (hz : (P.info? t).bind (·.zero) = some z) (k : ∀ w', Hid (w'.heap[g]? = some (.cells z.cells t (0, 0))) → Hid (Below g w w') → wpList P ops Q rest (a.put o.dst (.pointer (some ⟨g, 0, none⟩))) w') : wpList P ops Q (o :: rest) a w := by
  subst hg
  obtain ⟨i, hi, hiz⟩ := Option.bind_eq_some_iff.1 hz
  refine wpList_plain hgd fun K hK => ?_
  unfold Oper.wp execOp
  simp only [ho, Sem.run_bind, Instr.alloc, zeroValue, typeInfo, newVar, newRow, run_newObj_alloc, Sem.run_pure, Result.andThen_ok]
  simp only [run_program, Result.andThen_ok, hi, hiz, Sem.run_pure]
  exact hK _ _ (k _ (heap_alloc_new w _) ((Below.refl _ _).alloc (Nat.le_refl _) _))
/-- A whole block written over, by the operation. -/
theorem wpList_store_whole {P : Program} {ops : Array Oper} {rest : List Oper} {o : Oper} {a : Act} {w : World} {Q : Exit → Act → World → Prop} (hgd : o.guard = none) (ty : TypeId) (x y : Operand) (ho : o.op = .store ty x y) (hd : o.dst = none)
    (g : Nat) (cells : Array Value) (hx : a.eval x = .pointer (some ⟨g, 0, none⟩)) (hy : a.eval y = .agg cells)
    (t : TypeId) (old : Array Value) (hg : w.heap[g]? = some (.cells old t (0, 0))) (hi : (P.info? ty).map (·.size) = some cells.size) (hold : old.size = cells.size) (h1 : cells.all (·.oneCell') = true)
    (k : ∀ w', Hid (w'.heap[g]? = some (.cells cells t (0, 0))) → Hid (Below g w w') → wpList P ops Q rest a w') : wpList P ops Q (o :: rest) a w := by
  refine wpList_store_row hgd ty x y ho g cells hx hy t old hg hi hold h1 ?_
  rw [hd]
  exact k _ (setRow_heap w g _ _ t _ hg) ⟨rfl, rfl, rfl, by simp, fun k hk => setRow_other _ _ k _ (by omega)⟩
theorem wpList_load_agg {P : Program} {ops : Array Oper} {rest : List Oper} {o : Oper} {a : Act} {w : World} {Q : Exit → Act → World → Prop} (hgd : o.guard = none) (ty : TypeId) (x : Operand) (ho : o.op = .load ty x)
    (b off : Nat) (hx : a.eval x = .pointer (some ⟨b, off, none⟩)) (cs : List Value) (d : TypeDesc) (hc : w.rangeAt b off cs)
    (hu : P.underlying ty = some d) (hd : d.isRow = true) (hi : (P.info? ty).map (·.size) = some cs.length)
    (h : wpList P ops Q rest (a.put o.dst (.agg cs.toArray)) w) : wpList P ops Q (o :: rest) a w := wpList_load_mid hgd ty x ho b off hx cs d hc hu hd hi h
theorem all_enc (l : List UInt8) : (enc l).toArray.all (·.oneCell') = true := all_oneCell_toArray enc_one

/-- The array of bytes x at block g, of type T. -/
def Arr (T : TypeId) (w : World) (g : Nat) (x : List UInt8) : Prop := w.heap[g]? = some (.cells (enc x).toArray T (0, 0))
theorem Arr.lt {T : TypeId} {w : World} {g : Nat} {x : List UInt8} (h : Arr T w g x) : g < w.heap.size := lt_of_heap h
theorem Arr.row {T : TypeId} {w : World} {g : Nat} {x : List UInt8} (h : Arr T w g x) (hl : x.length ≤ 1073741824) : Row w (some ⟨g, 0, none⟩) x :=
  ⟨hl, fun _ => ⟨g, 0, rfl, h.lt, fun k hk => by
    unfold Arr at h
    rw [Nat.zero_add]
    simp [World.cell?, h, enc_at x k hk]⟩⟩
theorem Arr.below {T : TypeId} {w w' : World} {g B : Nat} {x : List UInt8} (h : Arr T w g x) (hb : Below B w w') (hg : g < B) : Arr T w' g x := (hb.block g hg).trans h
theorem Arr.turns {T : TypeId} {w w' : World} {g p q : Nat} {x : List UInt8} (h : Arr T w g x) (ht : Turns p q w w') (h1 : g ≠ p) (h2 : g ≠ q) : Arr T w' g x := (ht.block g h1 h2 h.lt).trans h
/-- What Load and Durable leave. -/
def Loaded (T : TypeId) (w : World) (x : List UInt8) (e : Ending) (w' : World) : Prop :=
  ∃ g, e = .returned (.tuple #[.slice (some ⟨g, 0, none⟩) 64 64, .int .i64 0]) ∧ w.heap.size ≤ g ∧ Arr T w' g x ∧ Below w.heap.size w w'
theorem zero_content : (Try.prog.info? 77).bind (·.zero) = some (.agg (enc zeros64).toArray) := by kernel_rfl

set_option maxHeartbeats 400000 in
theorem load_nil (x : Int) (w : World) : Calls Try.prog 21 #[.pointer none, .int .i64 x] w fun e w' => e = .returned (.tuple #[.slice none 0 0, .int .i64 1]) ∧ w = w' := by
  go_enter Try.func21, Try.ntmps21
  go_wp2_with fail
  refine (find_nil x w).mono ?_
  rintro e w' ⟨rfl, rfl⟩
  go_wp2
  go_ret2
  exact ⟨rfl, rfl⟩
set_option maxHeartbeats 400000 in
theorem load_bad {w : World} {p q : Nat} {st : List Cl} {cs : List Int} (h : DvP w p q st cs) (x : Int) (hx : x < 0 ∨ (st.length : Int) ≤ x) :
    Calls Try.prog 21 #[.pointer (some ⟨p, 0, none⟩), .int .i64 x] w fun e w' => e = .returned (.tuple #[.slice none 0 0, .int .i64 2]) ∧ w = w' := by
  have HF := Lib.hid (find_bad h x hx)
  clear h hx
  go_enter Try.func21, Try.ntmps21
  go_wp2_with fail
  refine HF.out.mono ?_
  rintro e w' ⟨rfl, rfl⟩
  go_wp2
  go_ret2
  exact ⟨rfl, rfl⟩
set_option maxHeartbeats 400000 in
theorem load_ok {w : World} {p q : Nat} {st : List Cl} {cs : List Int} (h : DvP w p q st cs) {i : Nat} {c : Cl} (hc : st[i]? = some c) :
    Calls Try.prog 21 #[.pointer (some ⟨p, 0, none⟩), .int .i64 i] w (Loaded 77 w c.v) := by
  have HF := Lib.hid (find_ok h i (List.getElem?_eq_some_iff.1 hc).1)
  have HV := Lib.hid (h.range_v hc)
  have HX := Lib.hid (oks_at h.oks hc).1
  have HZ := Lib.hid zero_content
  have HZL := Lib.hid zeros64_len
  obtain ⟨g, hg⟩ : ∃ g, w.heap.size = g := ⟨_, rfl⟩
  have HG := Lib.hid hg
  generalize c.v = x at *
  generalize zeros64 = Z at *
  clear h hc hg
  go_enter Try.func21, Try.ntmps21
  go_wp2_with fail
  refine HF.out.mono ?_
  rintro e w' ⟨rfl, rfl⟩
  go_wp2_with (first
    | ((with_reducible show wpList _ _ _ (⟨some 21, _, _, _, _, _⟩ :: _) _ _); refine wpList_load_agg (o := ⟨some 21, _, _, _, _, _⟩) rfl 77 (.tmp 20) rfl q (i * 193) rfl (enc x) _ HV.out Try.underlying77 rfl (by rw [enc_len, HX.out]; exact size_content) ?_)
    | ((with_reducible show wpList _ _ _ (⟨some 8, _, _, _, _, _⟩ :: _) _ _); refine wpList_alloc_var (o := ⟨some 8, _, _, _, _, _⟩) rfl 77 rfl g HG.out _ HZ.out ?_; intro w1 HA1 HB1)
    | ((with_reducible show wpList _ _ _ (⟨none, .store _ _ _, _, _, _, _⟩ :: _) _ _); refine wpList_store_whole (o := ⟨none, .store 77 (.tmp 8) (.tmp 21), _, _, _, _⟩) rfl _ _ _ rfl rfl g (enc x).toArray rfl rfl 77 (enc Z).toArray HA1.out (by rw [List.size_toArray, enc_len, HX.out]; exact size_content) (by rw [List.size_toArray, List.size_toArray, enc_len, enc_len, HX.out, HZL.out]) (all_enc x) ?_; intro w2 HA2 HB2))
  go_ret2
  exact ⟨g, rfl, Nat.le_of_eq HG.out, HA2.out, by rw [HG.out]; exact HB1.out.trans HB2.out⟩
set_option maxHeartbeats 400000 in
theorem durable_nil (x : Int) (w : World) : Calls Try.prog 24 #[.pointer none, .int .i64 x] w fun e w' => e = .returned (.tuple #[.slice none 0 0, .int .i64 1]) ∧ w = w' := by
  go_enter Try.func24, Try.ntmps24
  go_wp2_with fail
  refine (find_nil x w).mono ?_
  rintro e w' ⟨rfl, rfl⟩
  go_wp2
  go_ret2
  exact ⟨rfl, rfl⟩
set_option maxHeartbeats 400000 in
theorem durable_bad {w : World} {p q : Nat} {st : List Cl} {cs : List Int} (h : DvP w p q st cs) (x : Int) (hx : x < 0 ∨ (st.length : Int) ≤ x) :
    Calls Try.prog 24 #[.pointer (some ⟨p, 0, none⟩), .int .i64 x] w fun e w' => e = .returned (.tuple #[.slice none 0 0, .int .i64 2]) ∧ w = w' := by
  have HF := Lib.hid (find_bad h x hx)
  clear h hx
  go_enter Try.func24, Try.ntmps24
  go_wp2_with fail
  refine HF.out.mono ?_
  rintro e w' ⟨rfl, rfl⟩
  go_wp2
  go_ret2
  exact ⟨rfl, rfl⟩
set_option maxHeartbeats 400000 in
theorem durable_ok {w : World} {p q : Nat} {st : List Cl} {cs : List Int} (h : DvP w p q st cs) {i : Nat} {c : Cl} (hc : st[i]? = some c) :
    Calls Try.prog 24 #[.pointer (some ⟨p, 0, none⟩), .int .i64 i] w (Loaded 77 w c.p) := by
  have HF := Lib.hid (find_ok h i (List.getElem?_eq_some_iff.1 hc).1)
  have HV := Lib.hid (h.range_p hc)
  have HX := Lib.hid (oks_at h.oks hc).2.1
  have HZ := Lib.hid zero_content
  have HZL := Lib.hid zeros64_len
  obtain ⟨g, hg⟩ : ∃ g, w.heap.size = g := ⟨_, rfl⟩
  have HG := Lib.hid hg
  generalize c.p = x at *
  generalize zeros64 = Z at *
  clear h hc hg
  go_enter Try.func24, Try.ntmps24
  go_wp2_with fail
  refine HF.out.mono ?_
  rintro e w' ⟨rfl, rfl⟩
  go_wp2_with (first
    | ((with_reducible show wpList _ _ _ (⟨some 21, _, _, _, _, _⟩ :: _) _ _); refine wpList_load_agg (o := ⟨some 21, _, _, _, _, _⟩) rfl 77 (.tmp 20) rfl q (i * 193 + 64) rfl (enc x) _ HV.out Try.underlying77 rfl (by rw [enc_len, HX.out]; exact size_content) ?_)
    | ((with_reducible show wpList _ _ _ (⟨some 8, _, _, _, _, _⟩ :: _) _ _); refine wpList_alloc_var (o := ⟨some 8, _, _, _, _, _⟩) rfl 77 rfl g HG.out _ HZ.out ?_; intro w1 HA1 HB1)
    | ((with_reducible show wpList _ _ _ (⟨none, .store _ _ _, _, _, _, _⟩ :: _) _ _); refine wpList_store_whole (o := ⟨none, .store 77 (.tmp 8) (.tmp 21), _, _, _, _⟩) rfl _ _ _ rfl rfl g (enc x).toArray rfl rfl 77 (enc Z).toArray HA1.out (by rw [List.size_toArray, enc_len, HX.out]; exact size_content) (by rw [List.size_toArray, List.size_toArray, enc_len, enc_len, HX.out, HZL.out]) (all_enc x) ?_; intro w2 HA2 HB2))
  go_ret2
  exact ⟨g, rfl, Nat.le_of_eq HG.out, HA2.out, by rw [HG.out]; exact HB1.out.trans HB2.out⟩

def Cl.flush (c : Cl) : Cl := { c with f := c.v, on := true }
def Cl.back (c : Cl) : Cl := { c with p := c.v, f := zeros64, on := false }
theorem Cl.flush_ok {c : Cl} (h : c.ok) : c.flush.ok := ⟨h.1, h.2.1, h.1⟩
theorem Cl.back_ok {c : Cl} (h : c.ok) : c.back.ok := ⟨h.1, h.1, zeros64_len⟩

set_option maxHeartbeats 400000 in
theorem flush_nil (x : Int) (w : World) : Calls Try.prog 20 #[.pointer none, .int .i64 x] w fun e w' => e = .returned (.int .i64 1) ∧ w = w' := by
  go_enter Try.func20, Try.ntmps20
  go_wp2_with fail
  refine (find_nil x w).mono ?_
  rintro e w' ⟨rfl, rfl⟩
  go_wp2
  go_ret
  exact ⟨rfl, rfl⟩
set_option maxHeartbeats 400000 in
theorem flush_bad {w : World} {p q : Nat} {st : List Cl} {cs : List Int} (h : DvP w p q st cs) (x : Int) (hx : x < 0 ∨ (st.length : Int) ≤ x) :
    Calls Try.prog 20 #[.pointer (some ⟨p, 0, none⟩), .int .i64 x] w fun e w' => e = .returned (.int .i64 2) ∧ w = w' := by
  have HF := Lib.hid (find_bad h x hx)
  clear h hx
  go_enter Try.func20, Try.ntmps20
  go_wp2_with fail
  refine HF.out.mono ?_
  rintro e w' ⟨rfl, rfl⟩
  go_wp2
  go_ret
  exact ⟨rfl, rfl⟩
set_option maxHeartbeats 400000 in
theorem flush_ok {w : World} {p q : Nat} {st : List Cl} {cs : List Int} (h : DvP w p q st cs) {i : Nat} {c : Cl} (hc : st[i]? = some c) :
    Calls Try.prog 20 #[.pointer (some ⟨p, 0, none⟩), .int .i64 i] w fun e w' => e = .returned (.int .i64 0) ∧ DvP w' p q (st.set i c.flush) (bump cs 1) ∧ Turns p q w w' := by
  have hlt := (List.getElem?_eq_some_iff.1 hc).1
  have hok := oks_at h.oks hc
  have HF := Lib.hid (find_ok h i hlt)
  have HV := Lib.hid (h.range_v hc)
  have HX := Lib.hid hok.1
  have HD := Lib.hid h
  have HC := Lib.hid hc
  have HOV := Lib.hid (over_f hok c.v hok.1)
  have hok1 : ({ c with f := c.v } : Cl).ok := ⟨hok.1, hok.2.1, hok.1⟩
  have HON := Lib.hid (over_on hok1 true)
  have HOK1 := Lib.hid hok1
  have HC1 : Hid ((st.set i { c with f := c.v })[i]? = some { c with f := c.v }) := by show _ = _; rw [List.getElem?_set_self hlt]
  have HOK2 : Hid (({ c with f := c.v, on := true } : Cl).ok) := c.flush_ok hok
  have HFL : Hid (c.flush = { c with f := c.v, on := true }) := rfl
  generalize c.flush = d at *
  clear h hc hok hok1
  go_enter Try.func20, Try.ntmps20
  go_wp2_with fail
  refine HF.out.mono ?_
  rintro e w' ⟨rfl, rfl⟩
  go_wp2_with (first
    | ((with_reducible show wpList _ _ _ (⟨some 21, _, _, _, _, _⟩ :: _) _ _); refine wpList_load_agg (o := ⟨some 21, _, _, _, _, _⟩) rfl 77 (.tmp 20) rfl q (i * 193) rfl (enc c.v) _ HV.out Try.underlying77 rfl (by rw [enc_len, HX.out]; exact size_content) ?_)
    | ((with_reducible show wpList _ _ _ (⟨none, .store 77 _ _, _, _, _, _⟩ :: _) _ _); refine wpList_store_line (o := ⟨none, .store 77 (.tmp 23) (.tmp 21), _, _, _, _⟩) rfl _ _ _ rfl rfl HD.out HC.out (i * 193 + 128) 128 rfl (.agg (enc c.v).toArray) (enc c.v) rfl rfl rfl (by rw [enc_len, HX.out]; exact size_content) (by rw [enc_len, HX.out]; omega) _ HOV.out HOK1.out enc_one ?_; intro w1 HD1 HT1)
    | ((with_reducible show wpList _ _ _ (⟨none, .store 4 _ _, _, _, _, _⟩ :: _) _ _); refine wpList_store_line (o := ⟨none, .store 4 (.tmp 25) _, _, _, _, _⟩) rfl _ _ _ rfl rfl HD1.out HC1.out (i * 193 + 192) 192 rfl (.bool true) [.bool true] rfl rfl rfl size_bool (by decide) _ HON.out HOK2.out (by intro u hu; simp at hu; subst hu; rfl) ?_; intro w2 HD2 HT2)
    | ((with_reducible show Calls _ 53 _ _ _); refine (add_ok HD2.out 1 (by decide)).mono ?_; rintro e w3 ⟨rfl, hd3, ht3⟩; have HD3 := Lib.hid hd3; have HT3 := Lib.hid ht3; clear hd3 ht3))
  go_ret
  refine ⟨rfl, ?_, (HT1.out.trans HT2.out).trans HT3.out⟩
  have := HD3.out
  rw [List.set_set] at this
  rw [HFL.out]
  exact this

end Go.Proofs.Ytgfbehdnmdmnhaa
