/-
  Proved here, joined: NvmC, Ints, NvmE, NvmF, NvmG
  Conditions: as each part says.
-/
import Derived.Test.YtlghphccmgmomaaGreatJN2
import Derived.Test.YtlghphccmgmomaaGreatJN1
import Derived.Deep.QuietTactic
import Derived.BigQuiet
import Derived.WalkSmall
import Derived.Laws.LoneSync
import Derived.StillTailTactics

/-
  Proved here: what package nvm's Back and Store answer and leave, of no device, of a line or an offset that is not there, of one that is.
  Conditions: a device of at most 258 lines; what is stored has at most 2^30 bytes.
-/
namespace Go.Proofs.YtlghphccmgmomaaGreat
open Go Go.RowKit
set_option maxRecDepth 100000

def Cl.store (c : Cl) (a : Nat) (x : List UInt8) : Cl := { c with v := c.v.take a ++ x ++ c.v.drop (a + x.length) }
theorem Cl.store_ok {c : Cl} (h : c.ok) (a : Nat) (x : List UInt8) (hx : a + x.length ≤ 64) : (c.store a x).ok := ⟨by have := h.1; simp [Cl.store]; omega, h.2⟩
theorem set_same {st : List Cl} {i : Nat} {c : Cl} (h : st[i]? = some c) : st.set i c = st := by
  obtain ⟨hi, rfl⟩ := List.getElem?_eq_some_iff.1 h
  exact List.set_getElem_self hi
/-- A copy into line i, by the operation. -/
theorem wpList_copy_line {P : Program} {ops : Array Oper} {rest : List Oper} {o : Oper} {a : Act} {Q : Exit → Act → World → Prop} (hgd : o.guard = none) (dT sT elem : TypeId) (x y : Operand) (ho : o.op = .call { callee := .builtin .copy, args := #[x, y], argTypes := #[dT, sT] })
    (hu : P.underlying dT = some (.slice elem)) (hs : (P.info? elem).map (·.size) = some 1)
    {T D : TypeId} {w : World} {p q : Nat} {st : List Cl} {cs : List Int} (h : Dv T D w p q st cs) {i : Nat} {c : Cl} (hc : st[i]? = some c) (at_ : Nat) (A B : Option Addr) (n m k1 k2 : Nat) (l : List UInt8) (hl : l.length = m) (hn : m ≤ n) (ha : at_ + m ≤ 64)
    (hA : ∃ ad, A = some ad) (hA1 : 0 < m → A = some ⟨q, i * 193 + at_, none⟩) (hB : Row w B l) (hB0 : B = none → k2 = 0)
    (hx : a.eval x = .slice A n k1) (hy : a.eval y = .slice B m k2)
    (k : ∀ w', Hid (Dv T D w' p q (st.set i (c.store at_ l)) cs) → Hid (Turns p q w w') → wpList P ops Q rest (a.put o.dst (.int .i64 m)) w') : wpList P ops Q (o :: rest) a w := by
  have hok := oks_at h.oks hc
  have hrun : ∃ w', (Builtin.copy_ #[dT, sT] o.type #[.slice A n k1, .slice B m k2]).run P w = .ok (.int .i64 m) w' ∧ Dv T D w' p q (st.set i (c.store at_ l)) cs ∧ Turns p q w w' := by
    rcases Nat.eq_zero_or_pos m with h0 | h0
    · obtain ⟨ad, rfl⟩ := hA
      have hl0 : l = [] := List.eq_nil_of_length_eq_zero (by omega)
      subst h0 hl0
      have e : c.store at_ [] = c := by cases c; simp [Cl.store]
      have e2 : st.set i (c.store at_ []) = st := by rw [e]; exact set_same hc
      rw [e2]
      refine ⟨w, ?_, h, Turns.refl _ _ _⟩
      cases hq : P.info? elem with
      | none => simp [hq] at hs
      | some inf =>
        cases B with
        | none => simp [Builtin.copy_, run_underlying hu, Builtin.lenOf, Builtin.firstCells, sizeOf, typeInfo, hq, storeCells, goInt]
        | some bd => simp [Builtin.copy_, run_underlying hu, Builtin.lenOf, Builtin.firstCells, sizeOf, typeInfo, hq, storeCells, goInt, loadCells, loadCellsFrom]
    · rw [hA1 h0]
      obtain ⟨b, off, rfl, _, hcl⟩ := hB.2 (by omega)
      obtain ⟨r, er⟩ := h.row
      have hi : i < st.length := (List.getElem?_eq_some_iff.1 hc).1
      obtain ⟨w', hst, hD, hT⟩ := h.stored (P := P) hc at_ (enc l) (by rw [enc_len]; omega) (c.store at_ l) (over_v hok at_ l (by omega)) (c.store_ok hok at_ l (by omega)) enc_one
      have hsz : i * 193 + at_ + (enc l).length ≤ (flat st ++ r).toArray.size := by
        rw [List.size_toArray, List.length_append, flat_len h.oks, enc_len]
        have : (i + 1) * 193 ≤ st.length * 193 := Nat.mul_le_mul_right _ hi
        omega
      have hcp := run_copy_row (P := P) w dT sT o.type elem q (i * 193 + at_) n k1 ⟨b, off, none⟩ m k2 (flat st ++ r).toArray T (enc l) hu hs er (by rw [enc_len, hl]; exact (Nat.min_eq_left hn).symm)
        (fun j v hv => by obtain ⟨hj, rfl⟩ := enc_at' l hv; rw [add_plain]; exact hcl j hj) hsz enc_one
      have hs2 := run_storeCells_at P q (i * 193 + at_) T (enc l) 0 _ w er (by simpa using hsz) enc_one
      simp only [Nat.add_zero] at hs2
      rw [hst] at hs2
      injection hs2 with _ hs2
      rw [enc_len, hl] at hcp hs2
      rw [← hs2] at hcp
      exact ⟨w', hcp, hD, hT⟩
  obtain ⟨w', hr, hD, hT⟩ := hrun
  refine wpList_plain hgd fun _ hK => ?_
  unfold Oper.wp execOp
  simp only [ho, resolve, invoke, builtin, Sem.run_bind, Sem.run_pure, Result.andThen_ok, List.map_toArray, List.map_cons, List.map_nil, hx, hy, hr]
  exact hK _ _ (k w' hD hT)

set_option maxHeartbeats 400000 in
theorem store_bad {w : World} {p q : Nat} {st : List Cl} {cs : List Int} (h : DvP w p q st cs) (x y : Int) (v : Value) (hx : x < 0 ∨ (st.length : Int) ≤ x) :
    Calls Tryz.prog 67 #[.pointer (some ⟨p, 0, none⟩), .int .i64 x, .int .i64 y, v] w fun e w' => e = .returned (.int .i64 2) ∧ w = w' := by
  have HF := Lib.hid (find_bad h x hx)
  clear h hx
  go_enter Tryz.func67, Tryz.ntmps67
  go_wp2_with fail
  refine HF.out.mono ?_
  rintro e w' ⟨rfl, rfl⟩
  go_wp2
  go_ret
  exact ⟨rfl, rfl⟩
set_option maxHeartbeats 400000 in
theorem store_off {w : World} {p q : Nat} {st : List Cl} {cs : List Int} (h : DvP w p q st cs) (i : Nat) (hi : i < st.length) (y : Int) (B : Option Addr) (m k : Nat) (hm : m ≤ 1073741824) (hy : y < 0 ∨ 64 - (m : Int) < y) :
    Calls Tryz.prog 67 #[.pointer (some ⟨p, 0, none⟩), .int .i64 i, .int .i64 y, .slice B m k] w fun e w' => e = .returned (.int .i64 2) ∧ w = w' := by
  have HF := Lib.hid (find_ok h i hi)
  clear h hi
  rcases Classical.em (y < 0) with h1 | h1
  · clear hy
    go_enter Tryz.func67, Tryz.ntmps67
    go_wp2_with fail
    refine HF.out.mono ?_
    rintro e w' ⟨rfl, rfl⟩
    go_wp2
    go_ret
    exact ⟨rfl, rfl⟩
  · have h2 : 64 - (m : Int) < y := by omega
    clear hy
    go_enter Tryz.func67, Tryz.ntmps67
    go_wp2_with fail
    refine HF.out.mono ?_
    rintro e w' ⟨rfl, rfl⟩
    go_wp2
    go_ret
    exact ⟨rfl, rfl⟩
theorem slice_from (q o a : Nat) (ha : a ≤ 64) (w : World) : (Instr.sliceAt 208 (.pointer (some ⟨q, o, none⟩)) (some (.int .i64 a)) none none).run Tryz.prog w = .ok (.slice (some (if 64 = a then ⟨q, o, none⟩ else ⟨q, o + a, none⟩)) (64 - a) (64 - a)) w := by
  obtain ⟨i, hi, _, hs, _⟩ : ∃ i, Tryz.prog.info? 5 = some i ∧ i.zero = some (.int .u8 0) ∧ i.size = 1 ∧ i.bytes = 1 := by
    obtain ⟨i, h1, h2⟩ := Option.map_eq_some_iff.1 byte_info
    simp only [Prod.mk.injEq] at h2
    exact ⟨i, h1, h2.1, h2.2.1, h2.2.2⟩
  have h2 : (Instr.sliceBound (.int .i64 a) 64 .sliceB).run Tryz.prog w = .ok a w := by simp [Instr.sliceBound, asIntOf]; omega
  simp [Instr.sliceAt, run_underlying Tryz.underlying208, Instr.sureAddr, Instr.sliceBounds, h2, sizeOf, typeInfo, hi, hs, add_plain]
set_option maxHeartbeats 800000 in
set_option maxRecDepth 100000 in
theorem store_ok {w : World} {p q : Nat} {st : List Cl} {cs : List Int} (h : DvP w p q st cs) {i : Nat} {c : Cl} (hc : st[i]? = some c) (a : Nat) (B : Option Addr) (m k : Nat) (l : List UInt8) (hl : l.length = m) (ha : a + m ≤ 64) (hB : Row w B l) (hB0 : B = none → k = 0) :
    Calls Tryz.prog 67 #[.pointer (some ⟨p, 0, none⟩), .int .i64 i, .int .i64 a, .slice B m k] w fun e w' => e = .returned (.int .i64 0) ∧ DvP w' p q (st.set i (c.store a l)) (bump cs 0) ∧ Turns p q w w' := by
  have hlt := (List.getElem?_eq_some_iff.1 hc).1
  have HF := Lib.hid (find_ok h i hlt)
  have HD := Lib.hid h
  have HC := Lib.hid hc
  have HL := Lib.hid hl
  have HB := Lib.hid hB
  have HB0 := Lib.hid hB0
  have hlt64 : ¬ (64 - (m : Int)) < (a : Int) := by omega
  have hd0 : decide ((a : Int) < 0) = false := by simp
  have hsl := slice_from q (i * 193) a (by omega) w
  obtain ⟨A, hA⟩ : ∃ A, (if 64 = a then ⟨q, i * 193, none⟩ else ⟨q, i * 193 + a, none⟩ : Addr) = A := ⟨_, rfl⟩
  rw [hA] at hsl
  have HA : Hid (0 < m → some A = some ⟨q, i * 193 + a, none⟩) := fun hm => by rw [← hA, if_neg (by omega)]
  generalize hd : c.store a l = d at *
  have HDD := Lib.hid hd
  clear h hc hl hB hB0 hd hA
  go_enter Tryz.func67, Tryz.ntmps67
  go_wp2_with fail
  refine HF.out.mono ?_
  rintro e w' ⟨rfl, rfl⟩
  go_wp2_with (first
    | ((with_reducible show wpList _ _ _ (⟨some 35, _, _, _, _, _⟩ :: _) _ _); refine wpList_copy_line (o := ⟨some 35, _, _, _, _, _⟩) rfl 148 148 5 (.tmp 33) (.tmp 34) rfl Tryz.underlying148 byte_size HD.out HC.out a (some A) B (64 - a) m (64 - a) k l HL.out (by omega) ha ⟨_, rfl⟩ HA.out HB.out HB0.out rfl rfl ?_; intro w1 HD1 HT1)
    | ((with_reducible show Calls _ 115 _ _ _); refine (add_ok HD1.out 0 (by decide)).mono ?_; rintro e w3 ⟨rfl, hd3, ht3⟩; have HD3 := Lib.hid hd3; have HT3 := Lib.hid ht3; clear hd3 ht3))
  go_ret
  refine ⟨rfl, ?_, HT1.out.trans HT3.out⟩
  rw [← HDD.out]
  exact HD3.out

end Go.Proofs.YtlghphccmgmomaaGreat

/-
  Proved here: how a row of ints reads, what an append of one gives, and what the statements' own SameInts, LendInts, KeptInts and OverInts answer and leave.
  Conditions: rows of at most 2^27 numbers.
-/
namespace Go.Proofs.YtlghphccmgmomaaGreat
open Go Go.RowKit
set_option maxRecDepth 100000

/-- Numbers as cells. -/
def encI (l : List Int) : List Value := l.map fun x => .int .i64 x
theorem encI_len (l : List Int) : (encI l).length = l.length := by simp [encI]
theorem encI_at (l : List Int) (j : Nat) (h : j < l.length) : (encI l)[j]? = some (.int .i64 (l.getD j 0)) := by
  simp [encI, List.getD, List.getElem?_eq_getElem h]
theorem encI_at' (l : List Int) {j : Nat} {u : Value} (h : (encI l)[j]? = some u) : j < l.length ∧ u = .int .i64 (l.getD j 0) := by
  have hj : j < l.length := by
    rcases Nat.lt_or_ge j l.length with h' | h'
    · exact h'
    · rw [List.getElem?_eq_none (by rw [encI_len]; exact h')] at h
      cases h
  rw [encI_at l j hj] at h
  exact ⟨hj, by injection h with h; exact h.symm⟩
theorem encI_append (a b : List Int) : encI a ++ encI b = encI (a ++ b) := by simp [encI]
theorem encI_set (a : List Int) (k : Nat) (r : Int) : (encI a).set k (.int .i64 r) = encI (a.set k r) := by simp [encI, List.map_set]
theorem encI_one {l : List Int} : ∀ u ∈ encI l, u.oneCell' = true := by
  intro u hu
  simp [encI] at hu
  obtain ⟨x, _, rfl⟩ := hu
  rfl
theorem int_info : (Tryz.prog.info? 3).map (fun i => (i.zero, i.size, i.bytes)) = some (some (.int .i64 0), 1, 8) := by kernel_rfl
theorem int_info' : ∃ i, Tryz.prog.info? 3 = some i ∧ i.zero = some (.int .i64 0) ∧ i.size = 1 ∧ i.bytes = 8 := by
  obtain ⟨i, h1, h2⟩ := Option.map_eq_some_iff.1 int_info
  simp only [Prod.mk.injEq] at h2
  exact ⟨i, h1, h2.1, h2.2.1, h2.2.2⟩

/-- The slice at A holds the numbers l. -/
def RowI (w : World) (A : Option Addr) (l : List Int) : Prop :=
  l.length ≤ 134217728 ∧ (0 < l.length → ∃ b off, A = some ⟨b, off, none⟩ ∧ b < w.heap.size ∧ ∀ k, k < l.length → w.cell? ⟨b, off + k, none⟩ = some (.int .i64 (l.getD k 0)))
theorem rowI_nil (w : World) (A : Option Addr) : RowI w A [] := ⟨by simp, fun h => by simp at h⟩
theorem RowI.below {w w' : World} {A : Option Addr} {l : List Int} (h : RowI w A l) (hb : Below w.heap.size w w') : RowI w' A l :=
  ⟨h.1, fun hl => by
    obtain ⟨b, off, e, hlt, hc⟩ := h.2 hl
    exact ⟨b, off, e, Nat.lt_of_lt_of_le hlt hb.size, fun k hk => (hb.cell (p := ⟨b, off + k, none⟩) hlt).trans (hc k hk)⟩⟩
theorem RowI.same {w w' : World} {A : Option Addr} {l : List Int} (h : RowI w A l) (hs : w.heap.size ≤ w'.heap.size) (hb : ∀ x, A = some x → w'.heap[x.block]? = w.heap[x.block]?) : RowI w' A l :=
  ⟨h.1, fun hl => by
    obtain ⟨b, off, e, hlt, hc⟩ := h.2 hl
    exact ⟨b, off, e, Nat.lt_of_lt_of_le hlt hs, fun k hk => (World.cell?_of_block (w := w) (a := ⟨b, off + k, none⟩) (show w'.heap[b]? = w.heap[b]? from hb ⟨b, off, none⟩ e)).trans (hc k hk)⟩⟩
theorem rowI_of_own {w : World} {base n : Nat} {v : Value} {l : List Int} (h : w.ownsRow base 3 1 v n (encI l)) (hl : l.length ≤ 134217728) : ∃ A cap, v = .slice A n cap ∧ RowI w A l ∧ (A = none → cap = 0) ∧ ∀ x, A = some x → base ≤ x.block := by
  have hn : l.length = n := by have := h.1; rw [encI_len] at this; omega
  rcases h.2 with ⟨e, e0⟩ | ⟨g, cap, cur, e, hge, hh, _⟩
  · have h0 : l = [] := List.eq_nil_of_length_eq_zero (by omega)
    subst h0
    exact ⟨none, 0, by rw [e, e0], rowI_nil _ _, fun _ => rfl, fun x hx => by cases hx⟩
  · refine ⟨_, _, e, ⟨hl, fun hpos => ⟨g, 0, rfl, lt_of_heap hh, fun k hk => ?_⟩⟩, (fun h => by cases h), (fun x hx => by cases hx; exact hge)⟩
    have := h.cells (g := g) (by rw [e]; rfl) k _ (encI_at l k hk)
    rw [add_plain] at this
    exact this
theorem rowI_one (w : World) (x : Int) : RowI (w.alloc (.cells #[.int .i64 x] 3)) (some ⟨w.heap.size, 0, none⟩) [x] := by
  refine ⟨by simp, fun _ => ⟨w.heap.size, 0, rfl, by simp, fun k hk => ?_⟩⟩
  obtain rfl : k = 0 := by simpa using hk
  simp
theorem run_appI (w : World) (base n : Nat) (v : Value) (xs : List Value) (hown : w.ownsRow base 3 1 v n xs) (A : Option Addr) (m c : Nat) (l : List Int) (hm : l.length = m) (hr : RowI w A l) (hc : A = none → c = 0) (hn : n + m ≤ 134217728) (hbase : base ≤ w.heap.size) :
    ∃ v' w', (Builtin.append_ #[120, 120] 120 #[v, .slice A m c]).run Tryz.prog w = .ok v' w' ∧ w'.ownsRow base 3 1 v' (n + m) (xs ++ encI l) ∧ w.grownBy w' v.ownBlock ∧ (v'.ownBlock = v.ownBlock ∨ v'.ownBlock = some w.heap.size) := by
  obtain ⟨i, hi, hz, hs, hy⟩ := int_info'
  rcases A with _ | ad
  · have h0 : l.length = 0 := by
      rcases Nat.eq_zero_or_pos l.length with h | h
      · exact h
      · obtain ⟨_, _, e, _⟩ := hr.2 h
        cases e
    obtain rfl : l = [] := List.eq_nil_of_length_eq_zero h0
    obtain rfl : m = 0 := by simpa using hm.symm
    obtain rfl := hc rfl
    exact ⟨v, w, run_append_owned_none (P := Tryz.prog) w base 120 120 3 i 1 Tryz.underlying120 hi v n xs hown, by simpa [encI] using hown, World.grownBy.refl w _, .inl rfl⟩
  · have hcells : ∀ j u, (encI l)[j]? = some u → w.cell? (ad.add j) = some u := by
      intro j u hu
      obtain ⟨hj, rfl⟩ := encI_at' l hu
      obtain ⟨b, off, e, _, hcl⟩ := hr.2 (by omega)
      replace e := Option.some.inj e
      subst e
      rw [add_plain]
      exact hcl j hj
    obtain ⟨v', w', h1, h2, h3, _, h4⟩ := run_append_own_at (P := Tryz.prog) w base 120 120 3 i _ 1 8 Tryz.underlying120 hi hz hs hy rfl (by omega) v n xs hown ad m c (encI l) (by rw [encI_len]; omega) hcells encI_one (by unfold maxLen; omega) (by omega) hbase
    exact ⟨v', w', h1, h2, h3, h4⟩
/-- One number put behind a row that the call made. -/
theorem run_appI_one (w : World) (base : Nat) (v : Value) (l : List Int) (x : Int) (hown : w.ownsRow base 3 1 v l.length (encI l)) (hl : l.length < 134217728) (hbase : base ≤ w.heap.size) :
    ∃ v' w', (Builtin.append_ #[120, 120] 120 #[v, .slice (some ⟨w.heap.size, 0, none⟩) 1 1]).run Tryz.prog (w.alloc (.cells #[.int .i64 x] 3)) = .ok v' w' ∧ w'.ownsRow base 3 1 v' (l.length + 1) (encI (l ++ [x])) ∧ Below base w w' := by
  obtain ⟨v', w', h1, h2, h3, _⟩ := run_appI (w.alloc (.cells #[.int .i64 x] 3)) base l.length v (encI l) (own_alloc hown _) (some ⟨w.heap.size, 0, none⟩) 1 1 [x] rfl (rowI_one w x) (by intro h; cases h) (by omega) (by simp; omega)
  refine ⟨v', w', h1, by rw [← encI_append]; exact h2, ?_⟩
  exact ((Below.refl _ _).alloc hbase _).grown h3 (by simp; omega) (own_ge hown)

/-- Block g is just the numbers' cells cs. -/
def BlkI (w : World) (g : Nat) (cs : List Value) : Prop := w.heap[g]? = some (.cells cs.toArray 3 (0, 0))
theorem BlkI.lt {w : World} {g : Nat} {cs : List Value} (h : BlkI w g cs) : g < w.heap.size := lt_of_heap h
theorem BlkI.cell {w : World} {g : Nat} {cs : List Value} (h : BlkI w g cs) (j : Nat) : w.cell? ⟨g, j, none⟩ = cs[j]? := by
  unfold BlkI at h
  simp [World.cell?, h]
theorem BlkI.frozen {w : World} {g : Nat} {cs : List Value} (h : BlkI w g cs) (j : Nat) : w.frozen? ⟨g, j, none⟩ = false := by
  unfold BlkI at h
  simp [World.frozen?, h]
theorem BlkI.set_ {w : World} {g : Nat} {cs : List Value} (h : BlkI w g cs) (j : Nat) (u : Value) : BlkI (w.setCell ⟨g, j, none⟩ u) g (cs.set j u) := by
  unfold BlkI at h ⊢
  simp [World.setCell, Array.getElem?_modify, h]
def z64 (n : Int) : Value := .int .i64 n
def LentI (w : World) (g : Nat) (l : List Int) : Prop := BlkI w g (encI l ++ List.replicate 3 (z64 (-777)))
theorem LentI.row {w : World} {g : Nat} {l : List Int} (h : LentI w g l) (hl : l.length ≤ 134217728) : RowI w (some ⟨g, 0, none⟩) l :=
  ⟨hl, fun _ => ⟨g, 0, rfl, BlkI.lt h, fun k hk => by
    rw [Nat.zero_add, BlkI.cell h, List.getElem?_append_left (by rw [encI_len]; exact hk), encI_at l k hk]⟩⟩
end Go.Proofs.YtlghphccmgmomaaGreat

/-
  Proved here: what package nvm's New and Fence answer and leave.
  Conditions: a device of at most 258 lines.
-/
namespace Go.Proofs.YtlghphccmgmomaaGreat
open Go Go.RowKit
set_option maxRecDepth 100000

def Cl.zero : Cl := ⟨zeros64, zeros64, zeros64, false⟩
theorem Cl.zero_ok : Cl.zero.ok := ⟨zeros64_len, zeros64_len, zeros64_len⟩
def fresh (n : Nat) : List Cl := List.replicate n Cl.zero
theorem fresh_oks (n : Nat) : Oks (fresh n) := fun c hc => by rw [List.eq_of_mem_replicate hc]; exact Cl.zero_ok
theorem made_lines (z : Array Value) (hz : z.toList = Cl.zero.cells) (n : Nat) : (madeCells z (n * 193)).toList = flat (fresh n) := by
  have hl := Cl.cells_len Cl.zero_ok
  have hs : z.size = 193 := by rw [← Array.length_toList, hz, hl]
  apply List.ext_getElem?
  intro m
  rcases Nat.lt_or_ge m (n * 193) with h | h
  · have h2 : m / 193 < n := by omega
    have hc : (fresh n)[m / 193]? = some Cl.zero := by rw [fresh, List.getElem?_replicate, if_pos h2]
    have hf := flat_at (fresh_oks n) [] hc (m % 193) (by omega)
    rw [List.append_nil, show m / 193 * 193 + m % 193 = m by omega] at hf
    rw [hf, ← hz]
    have h3 : m % 193 < z.size := by omega
    simp only [madeCells, Array.getElem?_toList, Array.getElem?_map, Array.getElem?_range, h, if_true, Option.map_some, hs]
    rw [getElem!_pos z _ h3, Array.getElem?_eq_getElem h3]
  · rw [List.getElem?_eq_none (by simp [madeCells]; exact h), List.getElem?_eq_none (by rw [flat_len (fresh_oks n), fresh, List.length_replicate]; exact h)]
theorem cell_info : (Tryz.prog.info? 210).map (fun i => (i.zero, i.size, i.bytes)) = some (some (.agg Cl.zero.cells.toArray), 193, 193) := by kernel_rfl
/-- What New makes. -/
theorem new_made (w : World) (n : Nat) (hn : n ≤ 258) : ∃ w1, (Instr.makeSlice 211 (.int .i64 (n : Int)) (.int .i64 (n : Int))).run Tryz.prog w = .ok (.slice (some ⟨w.heap.size, 0, none⟩) n n) w1 ∧
    w1.heap[w.heap.size]? = some (.cells (flat (fresh n)).toArray 210 (0, 0)) ∧ Below w.heap.size w w1 ∧ w1.heap.size = w.heap.size + 1 := by
  obtain ⟨i, hi, hz, hs, hy⟩ : ∃ i, Tryz.prog.info? 210 = some i ∧ i.zero = some (.agg Cl.zero.cells.toArray) ∧ i.size = 193 ∧ i.bytes = 193 := by
    obtain ⟨i, h1, h2⟩ := Option.map_eq_some_iff.1 cell_info
    simp only [Prod.mk.injEq] at h2
    exact ⟨i, h1, h2.1, h2.2.1, h2.2.2⟩
  have hmk := run_make (P := Tryz.prog) w 211 210 i _ Tryz.underlying211 hi hz .i64 .i64 (n : Int) (n : Int) (by omega) (by omega) (by rw [hy]; omega) (by omega)
  rw [Int.toNat_natCast, hs] at hmk
  refine ⟨_, hmk, ?_, (Below.refl _ _).alloc (Nat.le_refl _) _, by simp⟩
  have := made_lines (Value.cells (.agg Cl.zero.cells.toArray)) rfl n
  rw [← this]
  show (w.heap.push _)[w.heap.size]? = _
  simp

def five0 : List Int := [0, 0, 0, 0, 0]
/-- What New leaves where it does not refuse. -/
def Made (w : World) (n : Nat) (e : Ending) (w' : World) : Prop :=
  ∃ p q, e = .returned (.tuple #[.pointer (some ⟨p, 0, none⟩), .int .i64 0]) ∧ w.heap.size ≤ p ∧ w.heap.size ≤ q ∧ DvP w' p q (fresh n) five0 ∧ Below w.heap.size w w'
set_option maxHeartbeats 400000 in
theorem new_ok (n : Nat) (h1 : 1 ≤ n) (h2 : n ≤ 258) (w : World) : Calls Tryz.prog 90 #[.int .i64 n] w (Made w n) := by
  obtain ⟨w1, hmk, hq, hb, hs⟩ := new_made w n h2
  have HQ := Lib.hid hq
  have HB := Lib.hid hb
  obtain ⟨g, hg⟩ : ∃ g, w.heap.size = g := ⟨_, rfl⟩
  rw [hg] at hmk HQ HB hs
  have HG := Lib.hid hg
  have HS := Lib.hid hs
  clear hq hb hg hs
  have h3 : ¬ (n : Int) < 1 := by omega
  have h4 : ¬ 258 < (n : Int) := by omega
  go_enter Tryz.func90, Tryz.ntmps90
  go_wp2
  go_ret2
  have hs1 := HS.out
  refine ⟨w1.heap.size, g, rfl, by have := HG.out; omega, Nat.le_of_eq HG.out, ⟨fresh_oks n, by simp [fresh, h2], rfl, by omega, ⟨n, ?_, by simp [fresh]⟩, ⟨[], ?_⟩⟩, ?_⟩
  · show (w1.heap.push _)[w1.heap.size]? = _
    simp [fresh, five0]
  · rw [Below.heap_alloc _ _ _ (by omega), List.append_nil]
    exact HQ.out
  · rw [HG.out]
    exact HB.out.alloc (by omega) _
/-- h done to the first i of a list. -/
def mapTo {α : Type} (h : α → α) (st : List α) (i : Nat) : List α := (st.take i).map h ++ st.drop i
theorem mapTo_len {α : Type} (h : α → α) (st : List α) (i : Nat) : (mapTo h st i).length = st.length := by simp [mapTo]; omega
theorem mapTo_zero {α : Type} (h : α → α) (st : List α) : mapTo h st 0 = st := by simp [mapTo]
theorem mapTo_all {α : Type} (h : α → α) (st : List α) (i : Nat) (hi : st.length ≤ i) : mapTo h st i = st.map h := by simp [mapTo, List.take_of_length_le hi, List.drop_of_length_le hi]
theorem mapTo_at {α : Type} (h : α → α) (st : List α) (i : Nat) {c : α} (hc : st[i]? = some c) : (mapTo h st i)[i]? = some c := by
  obtain ⟨hi, rfl⟩ := List.getElem?_eq_some_iff.1 hc
  have hl : ((st.take i).map h).length = i := by rw [List.length_map, List.length_take]; omega
  rw [mapTo, List.getElem?_append_right (by omega), hl, Nat.sub_self, List.getElem?_drop, Nat.add_zero, List.getElem?_eq_getElem hi]
theorem mapTo_set {α : Type} (h : α → α) (st : List α) (i : Nat) {c : α} (hc : st[i]? = some c) : (mapTo h st i).set i (h c) = mapTo h st (i + 1) := by
  obtain ⟨hi, rfl⟩ := List.getElem?_eq_some_iff.1 hc
  have hl : ((st.take i).map h).length = i := by rw [List.length_map, List.length_take]; omega
  rw [mapTo, mapTo, List.take_succ_eq_append_getElem hi, List.set_append_right _ _ (by omega), hl, Nat.sub_self, List.drop_eq_getElem_cons hi, List.set_cons_zero, List.map_append, List.append_assoc]
  rfl

def Cl.fence (c : Cl) : Cl := if c.on then ({ c with p := c.f } : Cl).stop else c
set_option maxHeartbeats 800000 in
theorem fence_ok {w : World} {p q : Nat} {st : List Cl} {cs : List Int} (h : DvP w p q st cs) :
    Calls Tryz.prog 184 #[.pointer (some ⟨p, 0, none⟩)] w fun e w' => e = .returned (.int .i64 0) ∧ DvP w' p q (st.map Cl.fence) (bump cs 2) ∧ Turns p q w w' := by
  obtain ⟨cap, hsl, _⟩ := h.slice
  have HD := Lib.hid h
  have hn := h.len
  obtain ⟨n, hn'⟩ : ∃ n, st.length = n := ⟨_, rfl⟩
  have HN := Lib.hid hn'
  rw [hn'] at hsl hn
  clear h hn'
  go_enter Tryz.func184, Tryz.ntmps184
  go_wp2
  clear hsl
  go_loopg [3, 4, 12] n (fun gk s3 s4 s12 wx => ∃ i : Nat, i + gk = n ∧ s12 = .int .i64 i ∧ Hid (DvP wx p q (mapTo Cl.fence st i) cs) ∧ Hid (Turns p q w wx))
  case atStart => exact ⟨0, by omega, rfl, (by rw [mapTo_zero]; exact HD), Turns.refl _ _ _⟩
  case round =>
    obtain ⟨i, hig, rfl, HDr, HT⟩ := hrel
    cases gk with
    | zero =>
      obtain rfl : i = n := by omega
      have hii : ¬ (i : Int) < (i : Int) := by omega
      have HD2 : Hid (DvP wr p q (st.map Cl.fence) cs) := by
        have := HDr.out
        rw [mapTo_all _ _ _ (Nat.le_of_eq HN.out)] at this
        exact this
      go_wp2_with fail
      refine (add_ok HD2.out 2 (by decide)).mono ?_
      rintro e w3 ⟨rfl, hd3, ht3⟩
      have HD3 := Lib.hid hd3
      have HT3 := Lib.hid ht3
      clear hd3 ht3
      go_wp2
      go_ret
      exact ⟨rfl, HD3.out, HT.out.trans HT3.out⟩
    | succ gk =>
      have hii : (i : Int) < (n : Int) := by omega
      have hi : i < st.length := by have := HN.out; omega
      obtain ⟨c, hc⟩ : ∃ c, st[i]? = some c := ⟨_, List.getElem?_eq_getElem hi⟩
      have hc1 := mapTo_at Cl.fence st i hc
      have HS := Lib.hid (mapTo_set Cl.fence st i hc)
      obtain ⟨cap1, hsl1, _⟩ := HDr.out.slice
      rw [mapTo_len, HN.out] at hsl1
      have hon := HDr.out.cell_on hc1
      have hok := oks_at HDr.out.oks hc1
      have HC1 := Lib.hid hc1
      have HF := Lib.hid (HDr.out.range_f hc1)
      have HX := Lib.hid hok.2.2
      have HOV := Lib.hid (over_p hok c.f hok.2.2)
      have HOK1 : Hid (({ c with p := c.f } : Cl).ok) := ⟨hok.1, hok.2.2, hok.2.2⟩
      have HC2 : Hid (((mapTo Cl.fence st i).set i { c with p := c.f })[i]? = some { c with p := c.f }) := by show _ = _; rw [List.getElem?_set_self (by rw [mapTo_len]; exact hi)]
      clear hc hc1 hok
      cases ho : c.on with
      | false =>
        have HFE : Hid (c.fence = c) := by show _ = _; simp [Cl.fence, ho]
        rw [ho] at hon
        clear ho
        go_wp2
        go_roundg gk
        case measure => omega
        case rel =>
          refine ⟨i + 1, by omega, by go_num, ?_, HT⟩
          rw [← HS.out, HFE.out, set_same HC1.out]
          exact HDr
      | true =>
        have HFE : Hid (c.fence = ({ c with p := c.f } : Cl).stop) := by show _ = _; simp [Cl.fence, ho]
        rw [ho] at hon
        clear ho
        generalize ({ c with p := c.f } : Cl) = c1 at *
        go_wp2_with (first
          | ((with_reducible show wpList _ _ _ (⟨some 29, _, _, _, _, _⟩ :: _) _ _); refine wpList_load_agg (o := ⟨some 29, _, _, _, _, _⟩) rfl 208 (.tmp 28) rfl q (i * 193 + 128) rfl (enc c.f) _ HF.out Tryz.underlying208 rfl (by rw [enc_len, HX.out]; exact size_content) ?_)
          | ((with_reducible show wpList _ _ _ (⟨none, .store 208 _ _, _, _, _, _⟩ :: _) _ _); refine wpList_store_line (o := ⟨none, .store 208 (.tmp 31) (.tmp 29), _, _, _, _⟩) rfl _ _ _ rfl rfl HDr.out HC1.out (i * 193 + 64) 64 rfl (.agg (enc c.f).toArray) (enc c.f) rfl rfl rfl (by rw [enc_len, HX.out]; exact size_content) (by rw [enc_len, HX.out]; omega) _ HOV.out HOK1.out enc_one ?_; intro w1 HD1 HT1)
          | ((with_reducible show Calls _ 219 _ _ _); refine (stop_ok HD1.out HC2.out).mono ?_; rintro e w2 ⟨rfl, hd2, ht2⟩; have HD2 := Lib.hid hd2; have HT2 := Lib.hid ht2; clear hd2 ht2))
        go_roundg gk
        case measure => omega
        case rel =>
          refine ⟨i + 1, by omega, by go_num, ?_, (HT.out.trans HT1.out).trans HT2.out⟩
          have := HD2.out
          rw [List.set_set] at this
          rw [← HS.out, HFE.out]
          exact this

end Go.Proofs.YtlghphccmgmomaaGreat

/-
  Proved here: what package nvm's Cut answers and leaves.
  Conditions: a device of at most 258 lines; a list of at most 2^27 numbers that lies in memory of its own.
-/
namespace Go.Proofs.YtlghphccmgmomaaGreat
open Go Go.RowKit
set_option maxRecDepth 100000

/-- Line x, if there is one, written back. -/
def keepOne (st : List Cl) (x : Int) : List Cl :=
  if x < 0 then st else match st[x.toNat]? with
    | some c => st.set x.toNat { c with p := c.v }
    | none => st
def keepAll (st : List Cl) (keep : List Int) : List Cl := keep.foldl keepOne st
def Cl.cut (c : Cl) : Cl := ({ c with v := c.p } : Cl).stop
theorem keepOne_len (st : List Cl) (x : Int) : (keepOne st x).length = st.length := by
  unfold keepOne
  split
  · rfl
  · split
    · rw [List.length_set]
    · rfl
theorem keepAll_len (st : List Cl) (keep : List Int) : (keepAll st keep).length = st.length := by
  induction keep generalizing st with
  | nil => rfl
  | cons x keep ih => exact (ih (keepOne st x)).trans (keepOne_len st x)
theorem keepOne_out (st : List Cl) (x : Int) (h : x < 0 ∨ (st.length : Int) ≤ x) : keepOne st x = st := by
  unfold keepOne
  split
  · rfl
  · rw [List.getElem?_eq_none (by omega)]
theorem keepOne_in (st : List Cl) (i : Nat) {c : Cl} (hc : st[i]? = some c) : keepOne st (i : Int) = st.set i { c with p := c.v } := by
  unfold keepOne
  rw [if_neg (by omega), Int.toNat_natCast, hc]

end Go.Proofs.YtlghphccmgmomaaGreat

/-
  Proved here: what package nvm's Lines and Counts answer, of no device and of one; what Copy answers of none; how a count is read and stored.
  Conditions: a device of at most 258 lines.
-/
namespace Go.Proofs.YtlghphccmgmomaaGreat
open Go Go.RowKit
set_option maxRecDepth 100000

set_option maxHeartbeats 400000 in
theorem lin_ok {w : World} {p q : Nat} {st : List Cl} {cs : List Int} (h : DvP w p q st cs) : Calls Tryz.prog 134 #[.pointer (some ⟨p, 0, none⟩)] w fun e w' => e = .returned (.int .i64 st.length) ∧ w = w' := by
  obtain ⟨cap, hc, _⟩ := h.slice
  obtain ⟨n, hn'⟩ : ∃ n, st.length = n := ⟨_, rfl⟩
  rw [hn'] at hc ⊢
  clear h hn'
  go_enter Tryz.func134, Tryz.ntmps134
  go_wp2
  go_ret
  exact ⟨rfl, rfl⟩
end Go.Proofs.YtlghphccmgmomaaGreat
