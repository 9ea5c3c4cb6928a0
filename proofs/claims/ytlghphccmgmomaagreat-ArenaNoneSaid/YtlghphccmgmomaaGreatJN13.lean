/-
  Proved here, joined: ClassB, PoolMem
  Conditions: as each part says.
-/
import Derived.Test.YtlghphccmgmomaaGreatJN7
import Derived.Test.YtlghphccmgmomaaGreatJN3
import Derived.Test.YtlghphccmgmomaaGreatJN12
import Derived.Test.YtlghphccmgmomaaGreatJN2

/-
  Proved here: what Starts of package class, and chapter 5's own, answer and leave in memory.
  Conditions: none.
-/
namespace Go.Proofs.YtlghphccmgmomaaGreat
open Go Go.RowKit
set_option maxRecDepth 100000

theorem getD_in (l : List Int) (j : Nat) (h : j < l.length) : l.getD j 0 = l[j] := by simp [List.getD, List.getElem?_eq_getElem h]
theorem ext_getD {q l : List Int} (hl : q.length = l.length) (h : ∀ j, j < q.length → q.getD j 0 = l.getD j 0) : q = l := by
  refine List.ext_getElem hl fun j h1 h2 => ?_
  have := h j h1
  rw [getD_in _ _ h1, getD_in _ _ h2] at this
  exact this
theorem getD_set (q : List Int) (i j : Nat) (x : Int) (h : j < q.length) : (q.set i x).getD j 0 = if i = j then x else q.getD j 0 := by
  rw [getD_in _ _ (by rw [List.length_set]; exact h), List.getElem_set, getD_in _ _ h]
theorem madeI (w : World) (n : Nat) (hn : n ≤ 134217728) : ∃ w1, (Instr.makeSlice 120 (.int .i64 (n : Int)) (.int .i64 (n : Int))).run Tryz.prog w = .ok (.slice (some ⟨w.heap.size, 0, none⟩) n n) w1 ∧
    w1.ownsRow w.heap.size 3 1 (.slice (some ⟨w.heap.size, 0, none⟩) n n) n (encI (List.replicate n 0)) ∧ Below w.heap.size w w1 := by
  obtain ⟨i, hi, hz, hs, hy⟩ := int_info'
  have hmk := run_make (P := Tryz.prog) w 120 3 i _ Tryz.underlying120 hi hz .i64 .i64 (n : Int) (n : Int) (by omega) (by omega) (by rw [hy]; omega) (by omega)
  rw [Int.toNat_natCast, hs, Nat.mul_one] at hmk
  obtain ⟨cur, hcur⟩ : ∃ cur, madeCells (Value.cells (.int .i64 0)) n = cur := ⟨_, rfl⟩
  have hcl : cur.toList = List.replicate n (z64 0) := by
    rw [← hcur]
    exact toList_madeCells_one (.int .i64 0) n
  rw [hcur] at hmk
  have hb1 : Below w.heap.size w (w.alloc (.cells cur 3)) := (Below.refl _ _).alloc (Nat.le_refl _) _
  have hg : (w.alloc (.cells cur 3)).heap[w.heap.size]? = some (.cells cur 3 (0, 0)) := by
    show (w.heap.push _)[w.heap.size]? = _
    simp
  have hcs : cur.size = n := by rw [← Array.length_toList, hcl, List.length_replicate]
  refine ⟨_, hmk, ⟨by rw [encI_len]; simp, .inr ⟨w.heap.size, n, cur, rfl, Nat.le_refl _, hg, ?_⟩⟩, hb1⟩
  refine ⟨Nat.le_refl _, by unfold maxLen; omega, by omega, ?_⟩
  rw [hcl, List.take_of_length_le (by simp), encI, List.map_replicate]
  rfl
/-- A slice of startsN k c in memory of its own. -/
def StartsAt (w : World) (k c : Int) (e : Ending) (w' : World) : Prop := ∃ v, e = .returned v ∧ w'.ownsRow w.heap.size 3 1 v (startsN k c).length (encI (startsN k c)) ∧ Below w.heap.size w w'
set_option maxRecDepth 100000 in
set_option maxHeartbeats 800000 in
theorem starts_any (k c : Int) (w : World) : Calls Tryz.prog 185 #[.int .i64 k, .int .i64 c] w (StartsAt w k c) := by
  have H1 := Lib.hid (slab_any k w)
  have H2 := Lib.hid (span_any c w)
  rcases Classical.em (0 ≤ k ∧ k ≤ 31) with h | h
  · have hsl : slabN k = 2 + 8 * k := by unfold slabN; rw [if_pos h]
    rw [hsl] at H1
    have hsc := spanN_cases c
    rcases Classical.em (spanN c = 0) with h2 | h2
    · have HR : Hid (StartsAt w k c (.returned (.slice none 0 0)) w) := ⟨_, rfl, by rw [startsN_none h2]; exact World.ownsRow_nil _ _ _ _, Below.refl _ _⟩
      have h3 : ((spanN c : Int) == 0) = true := by simp; omega
      obtain ⟨R, hR⟩ : ∃ R, StartsAt w k c = R := ⟨_, rfl⟩
      rw [hR] at HR ⊢
      clear hR
      generalize spanN c = s at *
      clear h2 hsl hsc
      go_enter Tryz.func185, Tryz.ntmps185
      go_wp2_with fail
      refine H1.out.mono ?_
      rintro e w' ⟨rfl, rfl⟩
      go_wp2_with fail
      refine H2.out.mono ?_
      rintro e w' ⟨rfl, rfl⟩
      go_wp2
      exact HR.out
    · have HL := Lib.hid (startsN_len c h)
      have HA := Lib.hid (startsN_at c h)
      have h3 : ((spanN c : Int) == 0) = false := by simp; omega
      have HFIN : Hid (∀ g w', w'.ownsRow w.heap.size 3 1 (.slice (some ⟨g, 0, none⟩) (8 / spanN c) (8 / spanN c)) (startsN k c).length (encI (startsN k c)) → Below w.heap.size w w' → StartsAt w k c (.returned (.slice (some ⟨g, 0, none⟩) (8 / spanN c) (8 / spanN c))) w') := fun g w' a b => ⟨_, rfl, a, b⟩
      obtain ⟨R, hR⟩ : ∃ R, StartsAt w k c = R := ⟨_, rfl⟩
      rw [hR] at HFIN ⊢
      clear hR
      generalize startsN k c = l at *
      generalize spanN c = s at *
      obtain ⟨n, hn⟩ : ∃ n, 8 / s = n := ⟨_, rfl⟩
      have hdv : (8 : Int) / (s : Int) = (n : Int) := by rw [← hn]; simp
      rw [hn] at HL HA HFIN
      have hs1 : 1 ≤ s := by omega
      have hs2 : s ≤ 8 := by omega
      have hn8 : n ≤ 8 := by rw [← hn]; exact Nat.div_le_self _ _
      obtain ⟨w1, hmk, hown, hb1⟩ := madeI w n (by omega)
      have HO := Lib.hid hown
      have HB1 := Lib.hid hb1
      have HDV := Lib.hid hdv
      obtain ⟨g, hg⟩ : ∃ g, w.heap.size = g := ⟨_, rfl⟩
      rw [hg] at hmk HO HB1 HFIN
      clear h2 hsl hsc hn hown hb1 hg
      obtain ⟨hk0, hk1⟩ := h
      have hng : decide (2 + 8 * k < 0) = false := by simp; omega
      go_enter Tryz.func185, Tryz.ntmps185
      go_wp2_with fail
      refine H1.out.mono ?_
      rintro e w' ⟨rfl, rfl⟩
      go_wp2_with fail
      refine H2.out.mono ?_
      rintro e w' ⟨rfl, rfl⟩
      go_wp2
      clear hmk hdv hng
      go_loopg [24] n (fun gk s24 wx => ∃ (i : Nat) (q : List Int), i + gk = n ∧ s24 = .int .i64 i ∧ Hid (q.length = n) ∧ Hid (∀ j, j < i → q.getD j 0 = l.getD j 0) ∧ Hid (wx.ownsRow g 3 1 (.slice (some ⟨g, 0, none⟩) n n) n (encI q)) ∧ Hid (Below g w wx))
      case atStart => exact ⟨0, _, by omega, rfl, List.length_replicate .., fun j hj => by omega, HO, HB1⟩
      case round =>
        obtain ⟨i, q, hin, rfl, HQ, HV, HO, HW⟩ := hrel
        cases gk with
        | zero =>
          obtain rfl : i = n := by omega
          have hii : ¬ (i : Int) < (i : Int) := by omega
          go_wp2
          refine HFIN.out g _ ?_ HW.out
          have hql : q = l := ext_getD (by rw [HQ.out, HL.out]) fun j h1 => HV.out j (by have := HQ.out; omega)
          rw [← hql, HQ.out]
          exact HO.out
        | succ gk =>
          have hii : (i : Int) < (n : Int) := by omega
          have hcell := HO.out.cellAt i (by omega)
          rw [encI_at _ _ (by have := HQ.out; omega)] at hcell
          have hfr := HO.out.frozenAt i
          have hst := (HO.out.stored i (.int .i64 (2 + 8 * k + (i : Int) * (s : Int)))).1
          rw [encI_set] at hst
          have HST := Lib.hid hst
          have hm0 : 0 ≤ (i : Int) * (s : Int) := Int.mul_nonneg (by omega) (by omega)
          have hm1 : (i : Int) * (s : Int) ≤ 64 := by have := Nat.mul_le_mul (show i ≤ 8 by omega) hs2; have e : ((i * s : Nat) : Int) = (i : Int) * (s : Int) := Int.natCast_mul i s; omega
          clear hst
          go_wp2
          go_roundg gk
          case measure => omega
          case rel =>
            refine ⟨i + 1, _, by omega, by go_num, ?_, ?_, HST, HW.out.setCell (Nat.le_refl _) _⟩
            · show _ = _
              rw [List.length_set]; exact HQ.out
            · intro j hj
              have hql := HQ.out
              rw [getD_set _ _ _ _ (by omega)]
              split
              · rename_i e
                subst e
                rw [HA.out i (by omega), Int.natCast_mul]
              · exact HV.out j (by omega)
  · have HR : Hid (StartsAt w k c (.returned (.slice none 0 0)) w) := ⟨_, rfl, by rw [startsN_no h]; exact World.ownsRow_nil _ _ _ _, Below.refl _ _⟩
    have hsl : slabN k = -1 := by unfold slabN; rw [if_neg h]
    rw [hsl] at H1
    obtain ⟨R, hR⟩ : ∃ R, StartsAt w k c = R := ⟨_, rfl⟩
    rw [hR] at HR ⊢
    clear hR h hsl
    generalize spanN c = s at *
    go_enter Tryz.func185, Tryz.ntmps185
    go_wp2_with fail
    refine H1.out.mono ?_
    rintro e w' ⟨rfl, rfl⟩
    go_wp2_with fail
    refine H2.out.mono ?_
    rintro e w' ⟨rfl, rfl⟩
    go_wp2
    exact HR.out

end Go.Proofs.YtlghphccmgmomaaGreat

/-
  Proved here: how a pool's slabs lie in memory, and what marking and giving back leave there.
  Conditions: none.
-/
namespace Go.Proofs.YtlghphccmgmomaaGreat
open Go Go.RowKit
set_option maxRecDepth 100000

/-- A slab: which of its lines begin a taken block; its class. -/
structure Sb where
  t : List Bool
  c : Int
def encB7 (l : List Bool) : List Value := l.map .bool
theorem encB7_len (l : List Bool) : (encB7 l).length = l.length := by simp [encB7]
theorem encB_at (l : List Bool) (j : Nat) (h : j < l.length) : (encB7 l)[j]? = some (.bool (l.getD j false)) := by
  simp [encB7, List.getD, List.getElem?_eq_getElem h]
def Sb.cells (s : Sb) : List Value := encB7 s.t ++ [.int .i64 s.c]
def flatS (st : List Sb) : List Value := st.flatMap Sb.cells
def Eights (st : List Sb) : Prop := ∀ s ∈ st, s.t.length = 8
theorem Sb.cells_len {s : Sb} (h : s.t.length = 8) : s.cells.length = 9 := by simp [Sb.cells, encB7_len, h]
theorem eights_set {st : List Sb} (h : Eights st) (i : Nat) {s : Sb} (hs : s.t.length = 8) : Eights (st.set i s) := fun x hx => by
  rcases List.mem_or_eq_of_mem_set hx with h1 | h1
  · exact h x h1
  · exact h1 ▸ hs
theorem eights_cons {s : Sb} {st : List Sb} : Eights (s :: st) ↔ s.t.length = 8 ∧ Eights st := by simp [Eights]
theorem flatS_len {st : List Sb} (h : Eights st) : (flatS st).length = st.length * 9 := by
  induction st with
  | nil => rfl
  | cons c st ih =>
    obtain ⟨hc, hs⟩ := eights_cons.1 h
    simp only [flatS, List.flatMap_cons, List.length_append, List.length_cons] at ih ⊢
    rw [Sb.cells_len hc, ih hs]
    omega
theorem flatS_at {st : List Sb} (h : Eights st) {i : Nat} {c : Sb} (hc : st[i]? = some c) (j : Nat) (hj : j < 9) : (flatS st)[i * 9 + j]? = c.cells[j]? := by
  induction st generalizing i with
  | nil => cases hc
  | cons d st ih =>
    obtain ⟨hd, hs⟩ := eights_cons.1 h
    have hl := Sb.cells_len hd
    simp only [flatS, List.flatMap_cons]
    cases i with
    | zero =>
      obtain rfl : d = c := by simpa using hc
      rw [Nat.zero_mul, Nat.zero_add, List.getElem?_append_left (by omega)]
    | succ i =>
      rw [List.getElem?_append_right (by omega), hl, show (i + 1) * 9 + j - 9 = i * 9 + j by omega]
      exact ih hs (by simpa using hc)
theorem flatS_set {st : List Sb} (h : Eights st) {i : Nat} {c : Sb} (hc : st[i]? = some c) (j : Nat) (hj : j < 9) (u : Value) (c' : Sb) (e : c.cells.set j u = c'.cells) :
    (flatS st).set (i * 9 + j) u = flatS (st.set i c') := by
  induction st generalizing i with
  | nil => cases hc
  | cons d st ih =>
    obtain ⟨hd, hs⟩ := eights_cons.1 h
    have hl := Sb.cells_len hd
    cases i with
    | zero =>
      obtain rfl : d = c := by simpa using hc
      simp only [flatS, List.flatMap_cons, List.set_cons_zero] at e ⊢
      rw [← e, Nat.zero_mul, Nat.zero_add, List.set_append_left _ _ (by omega)]
    | succ i =>
      have := ih hs (by simpa using hc)
      simp only [flatS, List.flatMap_cons, List.set_cons_succ] at this ⊢
      rw [← this, List.set_append_right _ _ (by omega), hl, show (i + 1) * 9 + j - 9 = i * 9 + j by omega]
theorem cells_t {s : Sb} (h : s.t.length = 8) (j : Nat) (hj : j < 8) : s.cells[j]? = some (.bool (s.t.getD j false)) := by
  rw [Sb.cells, List.getElem?_append_left (by rw [encB7_len]; omega), encB_at _ _ (by omega)]
theorem cells_c {s : Sb} (h : s.t.length = 8) : s.cells[8]? = some (.int .i64 s.c) := by
  rw [Sb.cells, List.getElem?_append_right (by rw [encB7_len]; omega), encB7_len, h]
  rfl
theorem cells_set_t {s : Sb} (h : s.t.length = 8) (j : Nat) (hj : j < 8) (b : Bool) : s.cells.set j (.bool b) = (⟨s.t.set j b, s.c⟩ : Sb).cells := by
  simp only [Sb.cells]
  rw [List.set_append_left _ _ (by rw [encB7_len]; omega)]
  simp [encB7, List.map_set]
theorem cells_set_c {s : Sb} (h : s.t.length = 8) (c : Int) : s.cells.set 8 (.int .i64 c) = (⟨s.t, c⟩ : Sb).cells := by
  simp only [Sb.cells]
  rw [List.set_append_right _ _ (by rw [encB7_len]; omega), encB7_len, h]
  rfl

/-! ### Slabs that tell of a pool -/
structure SlabsOf (n : Nat) (L : List Tk) (st : List Sb) : Prop where
  len : st.length = n
  eight : Eights st
  tk : ∀ (k : Nat) s, st[k]? = some s → ∀ j : Nat, j < 8 → s.t.getD j false = (ofL L (2 + 8 * (k : Int) + j)).isSome
  cl : ∀ (k : Nat) s, st[k]? = some s → clsAt L k ≠ -1 → s.c = clsAt L k
theorem falses_at (j : Nat) : (List.replicate 8 false).getD j false = false := by
  rw [List.getD, List.getElem?_replicate]
  split <;> rfl
def freshS (n : Nat) : List Sb := List.replicate n ⟨List.replicate 8 false, 0⟩
theorem fresh_of (n : Nat) : SlabsOf n [] (freshS n) := by
  have hin : ∀ s ∈ freshS n, s = ⟨List.replicate 8 false, 0⟩ := fun s hs => (List.mem_replicate.1 hs).2
  refine ⟨by simp [freshS], fun s hs => by rw [hin s hs]; rfl, fun k s hs j hj => ?_, fun k s hs hc => absurd (clsAt_nil k) hc⟩
  rw [hin s (List.mem_of_getElem? hs)]
  exact falses_at j
theorem slab_line {x : Int} {k : Nat} (h : slabOfN x = k) : 2 + 8 * (k : Int) ≤ x ∧ x < 2 + 8 * (k : Int) + 8 := by
  have := slabOfN_in (x := x) (by omega)
  omega
theorem line_slab {k j : Nat} (hk : k < 32) (hj : j < 8) : slabOfN (2 + 8 * (k : Int) + j) = k := by
  unfold slabOfN
  rw [if_pos (by omega)]
  omega
/-- A slab none of whose lines begins a taken block is whole. -/
theorem whole_iff {n : Nat} {L : List Tk} (hp : Pool7 n L) (hn : n ≤ 32) {st : List Sb} (h : SlabsOf n L st) {k : Nat} {s : Sb} (hs : st[k]? = some s) : s.t = List.replicate 8 false ↔ clsAt L k = -1 := by
  have h8 := h.eight s (List.mem_of_getElem? hs)
  have hk : k < n := by have := (List.getElem?_eq_some_iff.1 hs).1; have := h.len; omega
  rw [clsAt_none hp]
  constructor
  · intro e t ht hsl
    obtain ⟨h1, h2⟩ := slab_line hsl
    have h3 := h.tk k s hs (t.1 - (2 + 8 * (k : Int))).toNat (by omega)
    rw [show 2 + 8 * (k : Int) + ((t.1 - (2 + 8 * (k : Int))).toNat : Int) = t.1 by omega, (ofL_some hp.rising).2 (show (t.1, t.2) ∈ L from ht), e, falses_at] at h3
    cases h3
  · intro hno
    apply List.ext_getElem (by simp [h8])
    intro j h1 h2
    have h3 := h.tk k s hs j (by omega)
    rw [ofL_none.2 (fun t ht e => hno t ht (by rw [e]; exact line_slab (by omega) (by omega)))] at h3
    simp [List.getD, List.getElem?_eq_getElem h1] at h3
    rw [h3, List.getElem_replicate]
theorem ofL_put {L : List Tk} {x c : Int} (h : Rising L) (hx : ∀ t ∈ L, t.1 ≠ x) (y : Int) : ofL (putL L x c) y = if y = x then some c else ofL L y := by
  have hr := rising_putL (c := c) h hx
  split
  · rename_i e
    rw [e]
    exact (ofL_some hr).2 (mem_putL.2 (.inl rfl))
  · rename_i e
    cases e2 : ofL L y with
    | none =>
      refine ofL_none.2 fun t ht => ?_
      rcases mem_putL.1 ht with rfl | ht
      · exact fun e3 => e e3.symm
      · exact ofL_none.1 e2 t ht
    | some d => exact (ofL_some hr).2 (mem_putL.2 (.inr ((ofL_some h).1 e2)))
theorem clsAt_put {n : Nat} {L : List Tk} {x c : Int} (h : Pool7 n L) (h2 : Pool7 n (putL L x c)) (k : Int) : clsAt (putL L x c) k = if k = slabOfN x then c else clsAt L k := by
  split
  · rename_i e
    rw [e]
    exact clsAt_mem h2 (mem_putL.2 (.inl rfl))
  · rename_i e
    rcases clsAt_cases h k with e2 | ⟨t, ht, e3, e4⟩
    · rw [e2]
      refine (clsAt_none h2).2 fun t ht => ?_
      rcases mem_putL.1 ht with rfl | ht
      · exact fun e3 => e e3.symm
      · exact (clsAt_none h).1 e2 t ht
    · rw [e4, ← e3]
      exact clsAt_mem h2 (mem_putL.2 (.inr ht))
theorem getB_set (l : List Bool) (i j : Nat) (b : Bool) (hi : i < l.length) : (l.set i b).getD j false = if j = i then b else l.getD j false := by
  simp only [List.getD, List.getElem?_set, hi]
  split
  · rename_i e
    subst e
    simp
  · rename_i e
    rw [if_neg (fun e2 => e e2.symm)]
/-- A block marked: its class and its line are laid down. -/
theorem slabs_put {n : Nat} {L : List Tk} (h : Pool7 n L) (hn : n ≤ 32) {st : List Sb} (hs : SlabsOf n L st) {x c : Int} {k j : Nat} (hx : x = 2 + 8 * (k : Int) + j) (hj : j < 8) (e : markE n L x c = 0) {s : Sb} (hk : st[k]? = some s) :
    SlabsOf n (putL L x c) (st.set k ⟨s.t.set j true, c⟩) := by
  have hkn : k < n := by have := (List.getElem?_eq_some_iff.1 hk).1; have := hs.len; omega
  have h8 := hs.eight s (List.mem_of_getElem? hk)
  have h2 := mark_ok h e
  have hx2 : ∀ t ∈ L, t.1 ≠ x := by
    unfold markE at e
    split at e
    · cases e
    · split at e
      · cases e
      · rename_i h3
        refine ofL_none.1 ?_
        cases e2 : ofL L x with
        | none => rfl
        | some d => exact absurd (.inl (by rw [e2]; rfl)) h3
  have hsl : slabOfN x = k := by rw [hx]; exact line_slab (by omega) hj
  refine ⟨by rw [List.length_set]; exact hs.len, eights_set hs.eight k (by simp [h8]), fun i u hu m hm => ?_, fun i u hu hc => ?_⟩
  · rw [ofL_put h.rising hx2]
    rcases Classical.em (i = k) with rfl | hik
    · rw [List.getElem?_set_self (by have := hs.len; omega)] at hu
      injection hu with hu
      subst hu
      rw [getB_set _ _ _ _ (by omega), hs.tk i s hk m hm]
      rcases Classical.em (m = j) with rfl | hmj
      · rw [if_pos rfl, if_pos hx.symm]; rfl
      · rw [if_neg hmj, if_neg (by omega)]
    · rw [List.getElem?_set_ne (fun e => hik e.symm)] at hu
      rw [hs.tk i u hu m hm, if_neg (by omega)]
  · rw [clsAt_put h h2, hsl] at hc ⊢
    rcases Classical.em (i = k) with rfl | hik
    · rw [List.getElem?_set_self (by have := hs.len; omega)] at hu
      injection hu with hu
      subst hu
      rw [if_pos rfl]
    · rw [List.getElem?_set_ne (fun e => hik e.symm)] at hu
      rw [if_neg (by omega)] at hc ⊢
      exact hs.cl i u hu hc
/-! ### A pool in memory -/
/-- The pool at p, whose slabs lie at q: the slabs st. T: a slab's type; D: the pool's. -/
structure Ps (T D : TypeId) (w : World) (p q : Nat) (st : List Sb) : Prop where
  ne : p ≠ q
  mem : w.heap[p]? = some (.cells #[.slice (some ⟨q, 0, none⟩) st.length st.length] D (0, 0))
  row : w.heap[q]? = some (.cells (flatS st).toArray T (0, 0))
structure Pl (T D : TypeId) (w : World) (p q : Nat) (n : Nat) (L : List Tk) : Prop where
  pool : Pool7 n L
  one : 1 ≤ n
  most : n ≤ 32
  st : ∃ st, SlabsOf n L st ∧ Ps T D w p q st
variable {T D : TypeId} {w w' : World} {p q n : Nat} {L : List Tk} {st : List Sb}
theorem Ps.lt_p (h : Ps T D w p q st) : p < w.heap.size := lt_of_heap h.mem
theorem Ps.lt_q (h : Ps T D w p q st) : q < w.heap.size := lt_of_heap h.row
theorem Ps.same (h : Ps T D w p q st) (hp : w'.heap[p]? = w.heap[p]?) (hq : w'.heap[q]? = w.heap[q]?) : Ps T D w' p q st := ⟨h.ne, hp.trans h.mem, hq.trans h.row⟩
theorem Ps.setCell (h : Ps T D w p q st) (he : Eights st) {k : Nat} {s : Sb} (hk : st[k]? = some s) (j : Nat) (hj : j < 9) (u : Value) (s' : Sb) (e : s.cells.set j u = s'.cells) : Ps T D (w.setCell ⟨q, k * 9 + j, none⟩ u) p q (st.set k s') := by
  refine ⟨h.ne, ?_, ?_⟩
  · rw [Below.heap_setCell _ _ _ _ (by simpa using h.ne), h.mem, List.length_set]
  · rw [heap_setCell_same w q (k * 9 + j) _ T _ h.row, ← flatS_set he hk j hj u s' e]
    simp
theorem Ps.cell (h : Ps T D w p q st) (he : Eights st) {k : Nat} {s : Sb} (hk : st[k]? = some s) (j : Nat) (hj : j < 9) : w.cell? ⟨q, k * 9 + j, none⟩ = s.cells[j]? := by
  rw [← flatS_at he hk j hj]
  simp [World.cell?, h.row]
theorem Ps.frozen (h : Ps T D w p q st) (j : Nat) : w.frozen? ⟨q, j, none⟩ = false := by simp [World.frozen?, h.row]
theorem Pl.lt_p (h : Pl T D w p q n L) : p < w.heap.size := by obtain ⟨st, _, h2⟩ := h.st; exact h2.lt_p
theorem Pl.lt_q (h : Pl T D w p q n L) : q < w.heap.size := by obtain ⟨st, _, h2⟩ := h.st; exact h2.lt_q
theorem Pl.ne (h : Pl T D w p q n L) : p ≠ q := by obtain ⟨st, _, h2⟩ := h.st; exact h2.ne
theorem Pl.same (h : Pl T D w p q n L) (hp : w'.heap[p]? = w.heap[p]?) (hq : w'.heap[q]? = w.heap[q]?) : Pl T D w' p q n L := by
  obtain ⟨st, h1, h2⟩ := h.st
  exact ⟨h.pool, h.one, h.most, st, h1, h2.same hp hq⟩
theorem Pl.below (h : Pl T D w p q n L) (hb : Below w.heap.size w w') : Pl T D w' p q n L := h.same (hb.block p h.lt_p) (hb.block q h.lt_q)
theorem Pl.turns {p' q' : Nat} (h : Pl T D w p q n L) (ht : Turns p' q' w w') (h1 : p ≠ p') (h2 : p ≠ q') (h3 : q ≠ p') (h4 : q ≠ q') : Pl T D w' p q n L := h.same (ht.block p h1 h2 h.lt_p) (ht.block q h3 h4 h.lt_q)
theorem Pl.drewN (h : Pl T D w p q n L) (k : Nat) : Pl T D (w.drewN k) p q n L := h.same rfl rfl
theorem Pl.drew (h : Pl T D w p q n L) : Pl T D w.drew p q n L := h.same rfl rfl
theorem Pl.slice (h : Pl T D w p q n L) : w.cell? ⟨p, 0, none⟩ = some (.slice (some ⟨q, 0, none⟩) n n) := by
  obtain ⟨st, h1, h2⟩ := h.st
  simp [World.cell?, h2.mem, h1.len]
theorem SlabsOf.at_ (h : SlabsOf n L st) {k : Nat} (hk : k < n) : ∃ s, st[k]? = some s ∧ s.t.length = 8 := by
  have hk2 : k < st.length := by have := h.len; omega
  exact ⟨_, List.getElem?_eq_getElem hk2, h.eight _ (List.getElem_mem hk2)⟩
theorem Pl.taken (h : Pl T D w p q n L) {k j : Nat} (hk : k < n) (hj : j < 8) : w.cell? ⟨q, k * 9 + j, none⟩ = some (.bool (ofL L (2 + 8 * (k : Int) + j)).isSome) := by
  obtain ⟨st, h1, h2⟩ := h.st
  obtain ⟨s, hs, h8⟩ := h1.at_ hk
  rw [h2.cell h1.eight hs j (by omega), cells_t h8 j hj, h1.tk k s hs j hj]
/-- The class's cell: it tells the class where the slab is not whole. -/
theorem Pl.cls (h : Pl T D w p q n L) {k : Nat} (hk : k < n) : ∃ z, w.cell? ⟨q, k * 9 + 8, none⟩ = some (.int .i64 z) ∧ (clsAt L k ≠ -1 → z = clsAt L k) := by
  obtain ⟨st, h1, h2⟩ := h.st
  obtain ⟨s, hs, h8⟩ := h1.at_ hk
  exact ⟨s.c, by rw [h2.cell h1.eight hs 8 (by omega), cells_c h8], h1.cl k s hs⟩
theorem Pl.frozen (h : Pl T D w p q n L) (j : Nat) : w.frozen? ⟨q, j, none⟩ = false := by obtain ⟨st, h1, h2⟩ := h.st; exact h2.frozen j
/-- The eight of a slab, and whether none is taken. -/
theorem Pl.row (h : Pl T D w p q n L) {k : Nat} (hk : k < n) : ∃ l : List Bool, l.length = 8 ∧ w.rangeAt q (k * 9) (encB7 l) ∧ (l == List.replicate 8 false) = (clsAt L k == -1) := by
  obtain ⟨st, h1, h2⟩ := h.st
  obtain ⟨s, hs, h8⟩ := h1.at_ hk
  refine ⟨s.t, h8, fun j u hu => ?_, ?_⟩
  · have hj := (List.getElem?_eq_some_iff.1 hu).1
    rw [encB7_len, h8] at hj
    rw [h2.cell h1.eight hs j (by omega), Sb.cells, List.getElem?_append_left (by rw [encB7_len]; omega)]
    exact hu
  · rw [Bool.eq_iff_iff, beq_iff_eq, beq_iff_eq]
    exact whole_iff h.pool h.most h1 hs
/-- What Mark's two stores leave. -/
theorem Pl.put (h : Pl T D w p q n L) {k j : Nat} {x c : Int} (hk : k < n) (hj : j < 8) (hx : x = 2 + 8 * (k : Int) + j) (e : markE n L x c = 0) :
    Pl T D ((w.setCell ⟨q, k * 9 + 8, none⟩ (.int .i64 c)).setCell ⟨q, k * 9 + j, none⟩ (.bool true)) p q n (putL L x c) := by
  obtain ⟨st, h1, h2⟩ := h.st
  obtain ⟨s, hs, h8⟩ := h1.at_ hk
  have h3 := h2.setCell h1.eight hs 8 (by omega) (.int .i64 c) _ (cells_set_c h8 c)
  have hk2 := (List.getElem?_eq_some_iff.1 hs).1
  have h4 := h3.setCell (eights_set h1.eight k (s := ⟨s.t, c⟩) h8) (k := k) (List.getElem?_set_self hk2) j (by omega) (.bool true) _ (cells_set_t (s := ⟨s.t, c⟩) h8 j hj true)
  rw [List.set_set] at h4
  exact ⟨mark_ok h.pool e, h.one, h.most, _, slabs_put h.pool h.most h1 hx hj e hs, h4⟩
end Go.Proofs.YtlghphccmgmomaaGreat
