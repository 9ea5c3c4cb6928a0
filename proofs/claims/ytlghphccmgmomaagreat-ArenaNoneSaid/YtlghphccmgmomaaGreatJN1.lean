/-
  Proved here, joined: Bytes, Lent, Own, Arrs
  Conditions: as each part says.
-/
import Derived.Test.YtlghphccmgmomaaGreatProg
import Derived.WalkKit
import Derived.WalkSpells
import Derived.WalkLawsBesides
import Derived.Deep.LoopGhost
import Derived.Lib.ConvBytes
import Derived.Lib.Hide
import Derived.Maps.AppendAt
import Derived.Deep.AppendLies
import Derived.OpenShut
import Derived.Laws.IdiomStrings
import Derived.Laws.CopyOwn
import Derived.Deep.MidRow
import Derived.Deep.QuietTactic
import Derived.BigQuiet
import Derived.IntWalk
import Derived.WalkSmall
import Derived.ChangeKeysEq

/-
  Proved here: how a row of bytes that came in, or that the call has made, reads; what an append, a conversion to a text and one from a text give.
  Conditions: rows of at most 2^30 bytes.
-/
namespace Go.Proofs.YtlghphccmgmomaaGreat
open Go.RowKit
set_option maxRecDepth 100000

theorem int_eq {k : IntKind} {a b : Int} (h : a = b) : Ending.returned (.int k a) = .returned (.int k b) := by rw [h]
theorem bool_eq {a b : Bool} (h : a = b) : Ending.returned (.bool a) = .returned (.bool b) := by rw [h]

/-- The slice at A holds the bytes l. -/
def Row (w : World) (A : Option Addr) (l : List UInt8) : Prop :=
  l.length ≤ 1073741824 ∧ (0 < l.length → ∃ b off, A = some ⟨b, off, none⟩ ∧ b < w.heap.size ∧ ∀ k, k < l.length → w.cell? ⟨b, off + k, none⟩ = some (.int .u8 ((l.getD k 0).toNat : Nat)))

theorem row_nil (w : World) (A : Option Addr) : Row w A [] := ⟨by simp, fun h => by simp at h⟩

/-- An append whose run is known. -/
theorem wpList_app {P : Program} {ops : Array Oper} {rest : List Oper} {o : Oper} {a : Act} {Q : Exit → Act → World → Prop} (hgd : o.guard = none) (s x : Operand) (t : TypeId)
    (ho : o.op = .call { callee := .builtin .append, args := #[s, x], argTypes := #[t, t] }) {w w' : World} {v V v' : Value} (hs : a.eval s = v) (hx : a.eval x = V)
    (hrun : (Builtin.append_ #[t, t] o.type #[v, V]).run P w = .ok v' w') (h : wpList P ops Q rest (a.put o.dst v') w') : wpList P ops Q (o :: rest) a w :=
  wpList_plain hgd fun _ hK => by
    unfold Oper.wp execOp
    simp only [ho, resolve, invoke, builtin, Sem.run_bind, Sem.run_pure, Result.andThen_ok, List.map_toArray, List.map_cons, List.map_nil, hs, hx, hrun]
    exact hK _ _ h

/-- Bytes as cells. -/
def enc (l : List UInt8) : List Value := l.map fun x => .int .u8 (x.toNat : Nat)
theorem enc_len (l : List UInt8) : (enc l).length = l.length := by simp [enc]
theorem enc_at (l : List UInt8) (j : Nat) (h : j < l.length) : (enc l)[j]? = some (.int .u8 ((l.getD j 0).toNat : Nat)) := by
  simp [enc, List.getD, List.getElem?_eq_getElem h]
theorem enc_at' (l : List UInt8) {j : Nat} {u : Value} (h : (enc l)[j]? = some u) : j < l.length ∧ u = .int .u8 ((l.getD j 0).toNat : Nat) := by
  have hj : j < l.length := by
    rcases Nat.lt_or_ge j l.length with h' | h'
    · exact h'
    · rw [List.getElem?_eq_none (by rw [enc_len]; exact h')] at h
      cases h
  rw [enc_at l j hj] at h
  exact ⟨hj, by injection h with h; exact h.symm⟩
theorem enc_append (a b : List UInt8) : enc a ++ enc b = enc (a ++ b) := by simp [enc]
theorem enc_one {l : List UInt8} : ∀ u ∈ enc l, u.oneCell' = true := by
  intro u hu
  simp [enc] at hu
  obtain ⟨x, _, rfl⟩ := hu
  rfl
theorem add_plain (b off j : Nat) : (⟨b, off, none⟩ : Addr).add j = ⟨b, off + j, none⟩ := by unfold Addr.add; split <;> simp_all
theorem byte_info : (Tryz.prog.info? 5).map (fun i => (i.zero, i.size, i.bytes)) = some (some (.int .u8 0), 1, 1) := by kernel_rfl

theorem Row.below {w w' : World} {A : Option Addr} {l : List UInt8} (h : Row w A l) (hb : Below w.heap.size w w') : Row w' A l :=
  ⟨h.1, fun hl => by
    obtain ⟨b, off, e, hlt, hc⟩ := h.2 hl
    exact ⟨b, off, e, Nat.lt_of_lt_of_le hlt hb.size, fun k hk => (hb.cell (p := ⟨b, off + k, none⟩) hlt).trans (hc k hk)⟩⟩
theorem row_of_own {w : World} {base n : Nat} {v : Value} {l : List UInt8} (h : w.ownsRow base 5 1 v n (enc l)) (hl : l.length ≤ 1073741824) : ∃ A cap, v = .slice A n cap ∧ Row w A l := by
  have hn : l.length = n := by have := h.1; rw [enc_len] at this; omega
  rcases Nat.eq_zero_or_pos n with h0 | h0
  · have : l = [] := List.eq_nil_of_length_eq_zero (by omega)
    subst this
    rcases h.2 with ⟨e, e0⟩ | ⟨g, cap, _, e, _⟩
    · exact ⟨none, 0, by rw [e, e0], row_nil _ _⟩
    · exact ⟨_, _, e, row_nil _ _⟩
  · obtain ⟨g, cap, e, _, hlt⟩ := h.form h0
    refine ⟨_, _, e, hl, fun _ => ⟨g, 0, rfl, hlt, fun k hk => ?_⟩⟩
    have := h.cells (g := g) (by rw [e]; rfl) k _ (enc_at l k hk)
    rw [add_plain] at this
    exact this

theorem run_app (w : World) (base n : Nat) (v : Value) (xs : List Value) (hown : w.ownsRow base 5 1 v n xs) (A : Option Addr) (m c : Nat) (l : List UInt8) (hm : l.length = m) (hr : Row w A l) (hc : A = none → c = 0) (hn : n + m ≤ 1073741824) (hbase : base ≤ w.heap.size) :
    ∃ v' w', (Builtin.append_ #[148, 148] 148 #[v, .slice A m c]).run Tryz.prog w = .ok v' w' ∧ w'.ownsRow base 5 1 v' (n + m) (xs ++ enc l) ∧ w.grownBy w' v.ownBlock ∧ (v'.ownBlock = v.ownBlock ∨ v'.ownBlock = some w.heap.size) := by
  obtain ⟨i, hi, hz, hs, hy⟩ : ∃ i, Tryz.prog.info? 5 = some i ∧ i.zero = some (.int .u8 0) ∧ i.size = 1 ∧ i.bytes = 1 := by
    obtain ⟨i, h1, h2⟩ := Option.map_eq_some_iff.1 byte_info
    simp only [Prod.mk.injEq] at h2
    exact ⟨i, h1, h2.1, h2.2.1, h2.2.2⟩
  rcases A with _ | ad
  · have h0 : l.length = 0 := by
      rcases Nat.eq_zero_or_pos l.length with h | h
      · exact h
      · obtain ⟨_, _, e, _⟩ := hr.2 h
        cases e
    obtain rfl : l = [] := List.eq_nil_of_length_eq_zero h0
    obtain rfl : m = 0 := by simpa using hm.symm
    obtain rfl := hc rfl
    exact ⟨v, w, run_append_owned_none (P := Tryz.prog) w base 148 148 5 i 1 Tryz.underlying148 hi v n xs hown, by simpa [enc] using hown, World.grownBy.refl w _, .inl rfl⟩
  · have hcells : ∀ j u, (enc l)[j]? = some u → w.cell? (ad.add j) = some u := by
      intro j u hu
      obtain ⟨hj, rfl⟩ := enc_at' l hu
      obtain ⟨b, off, e, _, hcl⟩ := hr.2 (by omega)
      replace e := Option.some.inj e
      subst e
      rw [add_plain]
      exact hcl j hj
    obtain ⟨v', w', h1, h2, h3, _, h4⟩ := run_append_own_at (P := Tryz.prog) w base 148 148 5 i _ 1 1 Tryz.underlying148 hi hz hs hy rfl (by omega) v n xs hown ad m c (enc l) (by rw [enc_len]; omega) hcells enc_one (by unfold maxLen; omega) (by omega) hbase
    exact ⟨v', w', h1, h2, h3, h4⟩

/-- What the walk is told of a slice of integers that came in. -/
def IsRow (k : IntKind) (w : World) (a : Option Addr) (len cap : Nat) (zs : List Int) : Prop :=
  (a = none ∧ len = 0 ∧ cap = 0 ∧ zs = []) ∨
  ∃ x, a = some x ∧ len ≤ cap ∧ cap ≤ maxLen ∧ zs.length = cap ∧ (∀ i, i < zs.length → w.cell? (x.add i) = some (.int k (zs.getD i 0))) ∧ ∀ n ∈ zs, (Lit.int k n).wf = true

theorem byte_of {z : Int} (h : (Lit.int .u8 z).wf = true) : ((UInt8.ofNat z.toNat).toNat : Int) = z := by
  have := bounds_u8 h
  rw [UInt8.toNat_ofNat']
  omega
theorem IsRow.row {w : World} {a : Option Addr} {len cap : Nat} {zs : List Int} (h : IsRow .u8 w a len cap zs) (hl : len ≤ 1073741824) : ∃ l : List UInt8, l.length = len ∧ Row w a l ∧ (a = none → cap = 0) := by
  rcases h with ⟨rfl, rfl, rfl, rfl⟩ | ⟨x, rfl, hlc, _, hz, hcell, hwz⟩
  · exact ⟨[], rfl, row_nil _ _, fun _ => rfl⟩
  · have hlen : ((zs.take len).map fun z => UInt8.ofNat z.toNat).length = len := by simp; omega
    refine ⟨(zs.take len).map fun z => UInt8.ofNat z.toNat, hlen, ⟨by omega, fun hpos => ?_⟩, fun h => by cases h⟩
    rw [hlen] at hpos ⊢
    have h0 := hcell 0 (by omega)
    obtain ⟨b, off, spot⟩ := x
    have hspot : spot = none := by simpa [Addr.add] using World.cell?_spot h0
    subst hspot
    refine ⟨b, off, rfl, by simpa [Addr.add] using World.block_lt_of_cell? _ _ h0, fun k hk => ?_⟩
    have hc := hcell k (by omega)
    rw [add_plain] at hc
    rw [hc]
    have hk' : k < zs.length := by omega
    have hw := hwz (zs.getD k 0) (by simp [List.getD, List.getElem?_eq_getElem hk'])
    have := byte_of hw
    simp only [List.getD, List.getElem?_map, List.getElem?_take_of_lt hk, List.getElem?_eq_getElem hk', Option.map_some, Option.getD_some] at this ⊢
    rw [this]

theorem row_drew {w : World} {A : Option Addr} {l : List UInt8} (h : Row w A l) : Row w.drew A l := h
theorem enc_set (a : List UInt8) (k r : Nat) (hr : r < 256) : (enc a).set k (.int .u8 (r : Nat)) = enc (a.set k (UInt8.ofNat r)) := by
  simp [enc, List.map_set, Nat.mod_eq_of_lt hr]

theorem row_bytes (w : World) (s : ByteArray) (hs : s.size ≤ 1073741824) : Row (Lib.bytesWorld w 5 s) (some ⟨w.heap.size, 0, none⟩) s.data.toList := by
  have hl : s.data.toList.length = s.size := rfl
  refine ⟨by omega, fun _ => ⟨w.heap.size, 0, rfl, by rw [Lib.bytesWorld_size]; omega, fun k hk => ?_⟩⟩
  rw [Nat.zero_add]
  exact Lib.bytesWorld_cell w 5 s k (by omega)
theorem below_bytes (w : World) (s : ByteArray) : Below w.heap.size w (Lib.bytesWorld w 5 s) :=
  ⟨rfl, rfl, rfl, by rw [Lib.bytesWorld_size]; omega, fun k hk => Lib.bytesWorld_at_old w 5 s k hk⟩

theorem row_one (w : World) (x : UInt8) : Row (w.alloc (.cells #[.int .u8 (x.toNat : Nat)] 5)) (some ⟨w.heap.size, 0, none⟩) [x] := by
  refine ⟨by simp, fun _ => ⟨w.heap.size, 0, rfl, by simp, fun k hk => ?_⟩⟩
  obtain rfl : k = 0 := by simpa using hk
  simp

/-- Block g is just the bytes' cells cs. -/
def Blk (w : World) (g : Nat) (cs : List Value) : Prop := w.heap[g]? = some (.cells cs.toArray 5 (0, 0))
theorem Blk.lt {w : World} {g : Nat} {cs : List Value} (h : Blk w g cs) : g < w.heap.size := by
  rcases Nat.lt_or_ge g w.heap.size with hlt | hge
  · exact hlt
  · unfold Blk at h
    rw [Array.getElem?_eq_none hge] at h
    cases h
theorem Blk.cell {w : World} {g : Nat} {cs : List Value} (h : Blk w g cs) (j : Nat) : w.cell? ⟨g, j, none⟩ = cs[j]? := by
  unfold Blk at h
  simp [World.cell?, h]
theorem Blk.frozen {w : World} {g : Nat} {cs : List Value} (h : Blk w g cs) (j : Nat) : w.frozen? ⟨g, j, none⟩ = false := by
  unfold Blk at h
  simp [World.frozen?, h]
theorem Blk.set_ {w : World} {g : Nat} {cs : List Value} (h : Blk w g cs) (j : Nat) (u : Value) : Blk (w.setCell ⟨g, j, none⟩ u) g (cs.set j u) := by
  unfold Blk at h ⊢
  simp [World.setCell, Array.getElem?_modify, h]
theorem Blk.below {w w' : World} {g B : Nat} {cs : List Value} (h : Blk w g cs) (hb : Below B w w') (hg : g < B) : Blk w' g cs := (hb.block g hg).trans h

theorem run_conv (w : World) (A : Option Addr) (n c : Nat) (l : List UInt8) (hl : l.length = n) (hr : Row w A l) : (convert 148 9 (.slice A n c)).run Tryz.prog w = .ok (.string ⟨l.toArray⟩) w := by
  subst hl
  rcases A with _ | ad
  · have h0 : l.length = 0 := by
      rcases Nat.eq_zero_or_pos l.length with h | h
      · exact h
      · obtain ⟨_, _, e, _⟩ := hr.2 h
        cases e
    obtain rfl : l = [] := List.eq_nil_of_length_eq_zero h0
    exact run_convert_bytes_nil w 148 5 Tryz.underlying148 Tryz.underlying5 0 c 9 Tryz.underlying9
  · refine run_convert_bytes_back w 148 9 5 ad c l Tryz.underlying148 Tryz.underlying5 Tryz.underlying9 fun j hj => ?_
    obtain ⟨b, off, e, _, hcl⟩ := hr.2 (by omega)
    replace e := Option.some.inj e
    subst e
    rw [add_plain, hcl j hj]
    simp [List.getD, List.getElem?_eq_getElem hj]

end Go.Proofs.YtlghphccmgmomaaGreat

/-
  Proved here: what the statements' own LendBytes, SameBytes, KeptBytes and Low answer.
  Conditions: rows of at most 2^30 bytes.
-/
namespace Go.Proofs.YtlghphccmgmomaaGreat
open Go.RowKit
set_option maxRecDepth 100000

def z8 (n : Nat) : Value := .int .u8 (n : Nat)

/-- What is lent: the bytes l, and five marked places behind them. -/
def Lent (w : World) (g : Nat) (l : List UInt8) : Prop := Blk w g (enc l ++ List.replicate 5 (z8 165))

theorem Lent.row {w : World} {g : Nat} {l : List UInt8} (h : Lent w g l) (hl : l.length ≤ 1073741824) : Row w (some ⟨g, 0, none⟩) l :=
  ⟨hl, fun _ => ⟨g, 0, rfl, Blk.lt h, fun k hk => by
    rw [Nat.zero_add, Blk.cell h, List.getElem?_append_left (by rw [enc_len]; exact hk), enc_at l k hk]⟩⟩

/-- Low: the number x, taken below n. -/
def low (x : Int) (n : Nat) : Nat := (IntKind.u64.wrap x).toNat % n
end Go.Proofs.YtlghphccmgmomaaGreat

/-
  Proved here: facts on rows of bytes that the call itself has made: a new row of noughts, a row written out, one byte put behind a row.
  Conditions: rows of at most 2^30 bytes.
-/
namespace Go.Proofs.YtlghphccmgmomaaGreat
open Go.RowKit
set_option maxRecDepth 100000

theorem byte_size : (Tryz.prog.info? 5).map (·.size) = some 1 := by kernel_rfl
/-- A new row of n noughts. -/
theorem made (w : World) (n : Nat) (hn : n ≤ 1073741824) : ∃ w1, (Instr.makeSlice 148 (.int .i64 (n : Int)) (.int .i64 (n : Int))).run Tryz.prog w = .ok (.slice (some ⟨w.heap.size, 0, none⟩) n n) w1 ∧
    Blk w1 w.heap.size (List.replicate n (z8 0)) ∧ Below w.heap.size w w1 := by
  obtain ⟨i, hi, hz, hs, hy⟩ : ∃ i, Tryz.prog.info? 5 = some i ∧ i.zero = some (.int .u8 0) ∧ i.size = 1 ∧ i.bytes = 1 := by
    obtain ⟨i, h1, h2⟩ := Option.map_eq_some_iff.1 byte_info
    simp only [Prod.mk.injEq] at h2
    exact ⟨i, h1, h2.1, h2.2.1, h2.2.2⟩
  have hmk := run_make (P := Tryz.prog) w 148 5 i _ Tryz.underlying148 hi hz .i64 .i64 (n : Int) (n : Int) (by omega) (by omega) (by rw [hy]; omega) (by omega)
  rw [Int.toNat_natCast, hs, Nat.mul_one] at hmk
  obtain ⟨cur, hcur⟩ : ∃ cur, madeCells (Value.cells (.int .u8 0)) n = cur := ⟨_, rfl⟩
  have hcl : cur.toList = List.replicate n (z8 0) := by
    rw [← hcur]
    exact toList_madeCells_one (.int .u8 0) n
  rw [hcur] at hmk
  refine ⟨_, hmk, ?_, (Below.refl _ _).alloc (Nat.le_refl _) _⟩
  unfold Blk
  rw [← hcl]
  show (w.heap.push _)[w.heap.size]? = _
  simp

theorem own_alloc {w : World} {base size n : Nat} {e : TypeId} {v : Value} {xs : List Value} (h : w.ownsRow base e size v n xs) (o : Obj) : (w.alloc o).ownsRow base e size v n xs := by
  refine ⟨h.1, ?_⟩
  rcases h.2 with h2 | ⟨g, cap, cur, h1, h2, h3, h4⟩
  · exact .inl h2
  · refine .inr ⟨g, cap, cur, h1, h2, ?_, h4⟩
    have hlt : g < w.heap.size := by
      rcases Nat.lt_or_ge g w.heap.size with hlt | hge
      · exact hlt
      · rw [Array.getElem?_eq_none hge] at h3
        cases h3
    rw [Below.heap_alloc _ _ _ hlt]
    exact h3
theorem own_ge {w : World} {base size n : Nat} {e : TypeId} {v : Value} {xs : List Value} (h : w.ownsRow base e size v n xs) : ∀ k, v.ownBlock = some k → base ≤ k := by
  intro k hk
  rcases h.2 with ⟨rfl, _⟩ | ⟨g, cap, cur, rfl, h2, _⟩
  · cases hk
  · simp only [Value.ownBlock, Option.some.injEq] at hk
    omega

theorem own_mono {w : World} {base base' size n : Nat} {e : TypeId} {v : Value} {xs : List Value} (h : w.ownsRow base e size v n xs) (hb : base' ≤ base) : w.ownsRow base' e size v n xs :=
  ⟨h.1, h.2.imp id fun ⟨g, cap, cur, h1, h2, h3⟩ => ⟨g, cap, cur, h1, Nat.le_trans hb h2, h3⟩⟩

theorem lt_of_heap {w : World} {g : Nat} {o : Obj} (h : w.heap[g]? = some o) : g < w.heap.size := by
  rcases Nat.lt_or_ge g w.heap.size with hlt | hge
  · exact hlt
  · rw [Array.getElem?_eq_none hge] at h
    cases h
theorem own_keep {w w' : World} {base size n : Nat} {e : TypeId} {v : Value} {xs : List Value} (h : w.ownsRow base e size v n xs) (hb : Below w.heap.size w w') : w'.ownsRow base e size v n xs := by
  refine ⟨h.1, h.2.imp id fun ⟨g, cap, cur, h1, h2, h3, h4⟩ => ⟨g, cap, cur, h1, h2, (hb.block g (lt_of_heap h3)).trans h3, h4⟩⟩

/-- One byte put behind a row that the call made. -/
theorem run_app_one (w : World) (base : Nat) (v : Value) (l : List UInt8) (x : UInt8) (hown : w.ownsRow base 5 1 v l.length (enc l)) (hl : l.length < 1073741824) (hbase : base ≤ w.heap.size) :
    ∃ v' w', (Builtin.append_ #[148, 148] 148 #[v, .slice (some ⟨w.heap.size, 0, none⟩) 1 1]).run Tryz.prog (w.alloc (.cells #[.int .u8 (x.toNat : Nat)] 5)) = .ok v' w' ∧ w'.ownsRow base 5 1 v' (l.length + 1) (enc (l ++ [x])) ∧ Below base w w' := by
  obtain ⟨v', w', h1, h2, h3, _⟩ := run_app (w.alloc (.cells #[.int .u8 (x.toNat : Nat)] 5)) base l.length v (enc l) (own_alloc hown _) (some ⟨w.heap.size, 0, none⟩) 1 1 [x] rfl (row_one w x) (by intro h; cases h) (by omega) (by simp; omega)
  refine ⟨v', w', h1, by rw [← enc_append]; exact h2, ?_⟩
  exact ((Below.refl _ _).alloc hbase _).grown h3 (by simp; omega) (own_ge hown)

/-- What lies at A, where there is any, are the bytes l. -/
def Feeds (w : World) (A : Option Addr) (l : List UInt8) : Prop := 0 < l.length → ∃ ad, A = some ad ∧ ∀ j u, (enc l)[j]? = some u → w.cell? (ad.add j) = some u

theorem blk_own {w : World} {g n : Nat} {r : List UInt8} (h : Blk w g (enc r)) (hr : r.length = n) (hn : n ≤ 1073741824) : w.ownsRow g 5 1 (.slice (some ⟨g, 0, none⟩) n n) n (enc r) := by
  refine ⟨by rw [enc_len]; omega, .inr ⟨g, n, _, rfl, Nat.le_refl _, h, Nat.le_refl _, by unfold maxLen; omega, by simp [enc_len, hr], by rw [Nat.mul_one]; exact List.take_of_length_le (by rw [enc_len]; omega)⟩⟩

theorem Blk.row {w : World} {g : Nat} {l : List UInt8} (h : Blk w g (enc l)) (hl : l.length ≤ 1073741824) : Row w (some ⟨g, 0, none⟩) l :=
  ⟨hl, fun _ => ⟨g, 0, rfl, Blk.lt h, fun k hk => by rw [Nat.zero_add, Blk.cell h, enc_at l k hk]⟩⟩

end Go.Proofs.YtlghphccmgmomaaGreat

/-
  Proved here: how an array of bytes lies in memory, how one is made, read, written over and compared; no program's numbers but the bytes' type.
  Conditions: arrays of at most 2^30 bytes; compared ones of 64.
-/
namespace Go.Proofs.YtlghphccmgmomaaGreat
open Go Go.RowKit
set_option maxRecDepth 100000

theorem wpList_build_cells {P : Program} {ops : Array Oper} {rest : List Oper} {o : Oper} {a : Act} {w : World} {Q : Exit → Act → World → Prop} (hg : o.guard = none) (t : TypeId) (parts : Array (Nat × Operand)) (ho : o.op = .build t parts)
    (cells : Array Value) (ps : List (Nat × Value)) (hps : (parts.map fun (i, x) => (i, a.eval x)).toList = ps) (hf : P.built t ps = some cells)
    (h : wpList P ops Q rest (a.put o.dst (.agg cells)) w) : wpList P ops Q (o :: rest) a w := by
  subst hps
  refine wpList_build hg t parts ho (by rw [hf]; rfl) ?_
  rw [hf]
  exact h

def zeros64 : List UInt8 := List.replicate 64 0
theorem zeros64_len : zeros64.length = 64 := by simp [zeros64]
/-- A new variable of type t, by the operation. -/
theorem wpList_alloc_var {P : Program} {ops : Array Oper} {rest : List Oper} {o : Oper} {a : Act} {w : World} {Q : Exit → Act → World → Prop} (hgd : o.guard = none) (t : TypeId) (ho : o.op = .alloc t) (g : Nat) (hg : w.heap.size = g) (z : Value)
    (hz : (P.info? t).bind (·.zero) = some z) (k : ∀ w', Hid (w'.heap[g]? = some (.cells z.cells t (0, 0))) → Hid (Below g w w') → wpList P ops Q rest (a.put o.dst (.pointer (some ⟨g, 0, none⟩))) w') : wpList P ops Q (o :: rest) a w := by
  subst hg
  obtain ⟨i, hi, hiz⟩ := Option.bind_eq_some_iff.1 hz
  refine wpList_plain hgd fun K hK => ?_
  unfold Oper.wp execOp
  simp only [ho, Sem.run_bind, Instr.alloc, zeroValue, typeInfo, newVar, newRow, run_newObj_alloc, Sem.run_pure, Result.andThen_ok]
  simp only [run_program, Result.andThen_ok, hi, hiz, Sem.run_pure]
  exact hK _ _ (k _ (heap_alloc_new w _) ((Below.refl _ _).alloc (Nat.le_refl _) _))
/-- A whole block written over, by the operation. -/
theorem wpList_store_whole {P : Program} {ops : Array Oper} {rest : List Oper} {o : Oper} {a : Act} {w : World} {Q : Exit → Act → World → Prop} (hgd : o.guard = none) (ty : TypeId) (x y : Operand) (ho : o.op = .store ty x y) (hd : o.dst = none)
    (g : Nat) (cells : Array Value) (hx : a.eval x = .pointer (some ⟨g, 0, none⟩)) (hy : a.eval y = .agg cells)
    (t : TypeId) (old : Array Value) (hg : w.heap[g]? = some (.cells old t (0, 0))) (hi : (P.info? ty).map (·.size) = some cells.size) (hold : old.size = cells.size) (h1 : cells.all (·.oneCell') = true)
    (k : ∀ w', Hid (w'.heap[g]? = some (.cells cells t (0, 0))) → Hid (Below g w w') → wpList P ops Q rest a w') : wpList P ops Q (o :: rest) a w := by
  refine wpList_store_row hgd ty x y ho g cells hx hy t old hg hi hold h1 ?_
  rw [hd]
  exact k _ (setRow_heap w g _ _ t _ hg) ⟨rfl, rfl, rfl, by simp, fun k hk => setRow_other _ _ k _ (by omega)⟩
theorem wpList_load_agg {P : Program} {ops : Array Oper} {rest : List Oper} {o : Oper} {a : Act} {w : World} {Q : Exit → Act → World → Prop} (hgd : o.guard = none) (ty : TypeId) (x : Operand) (ho : o.op = .load ty x)
    (b off : Nat) (hx : a.eval x = .pointer (some ⟨b, off, none⟩)) (cs : List Value) (d : TypeDesc) (hc : w.rangeAt b off cs)
    (hu : P.underlying ty = some d) (hd : d.isRow = true) (hi : (P.info? ty).map (·.size) = some cs.length)
    (h : wpList P ops Q rest (a.put o.dst (.agg cs.toArray)) w) : wpList P ops Q (o :: rest) a w := wpList_load_mid hgd ty x ho b off hx cs d hc hu hd hi h
theorem all_enc (l : List UInt8) : (enc l).toArray.all (·.oneCell') = true := all_oneCell_toArray enc_one

/-- The array of bytes x at block g, of type T. -/
def Arr (T : TypeId) (w : World) (g : Nat) (x : List UInt8) : Prop := w.heap[g]? = some (.cells (enc x).toArray T (0, 0))
theorem Arr.lt {T : TypeId} {w : World} {g : Nat} {x : List UInt8} (h : Arr T w g x) : g < w.heap.size := lt_of_heap h
theorem Arr.row {T : TypeId} {w : World} {g : Nat} {x : List UInt8} (h : Arr T w g x) (hl : x.length ≤ 1073741824) : Row w (some ⟨g, 0, none⟩) x :=
  ⟨hl, fun _ => ⟨g, 0, rfl, h.lt, fun k hk => by
    unfold Arr at h
    rw [Nat.zero_add]
    simp [World.cell?, h, enc_at x k hk]⟩⟩
theorem Arr.below {T : TypeId} {w w' : World} {g B : Nat} {x : List UInt8} (h : Arr T w g x) (hb : Below B w w') (hg : g < B) : Arr T w' g x := (hb.block g hg).trans h
/-- A copy whose run is known. -/
theorem wpList_copy {P : Program} {ops : Array Oper} {rest : List Oper} {o : Oper} {a : Act} {Q : Exit → Act → World → Prop} (hgd : o.guard = none) (s x : Operand) (t u : TypeId)
    (ho : o.op = .call { callee := .builtin .copy, args := #[s, x], argTypes := #[t, u] }) {w w' : World} {v V v' : Value} (hs : a.eval s = v) (hx : a.eval x = V)
    (hrun : (Builtin.copy_ #[t, u] o.type #[v, V]).run P w = .ok v' w') (h : wpList P ops Q rest (a.put o.dst v') w') : wpList P ops Q (o :: rest) a w :=
  wpList_plain hgd fun _ hK => by
    unfold Oper.wp execOp
    simp only [ho, resolve, invoke, builtin, Sem.run_bind, Sem.run_pure, Result.andThen_ok, List.map_toArray, List.map_cons, List.map_nil, hs, hx, hrun]
    exact hK _ _ h
theorem Arr.set_ {T : TypeId} {w : World} {g : Nat} {x : List UInt8} (h : Arr T w g x) (k r : Nat) (hr : r < 256) : Arr T (w.setCell ⟨g, k, none⟩ (.int .u8 (r : Nat))) g (x.set k (UInt8.ofNat r)) := by
  unfold Arr at h ⊢
  rw [← enc_set _ _ _ hr]
  simp [World.setCell, Array.getElem?_modify, h]
theorem Arr.at_ {T : TypeId} {w : World} {g : Nat} {x : List UInt8} (h : Arr T w g x) (k : Nat) (hk : k < x.length) : w.cell? ⟨g, k, none⟩ = some (.int .u8 ((x.getD k 0).toNat : Nat)) ∧ w.frozen? ⟨g, k, none⟩ = false := by
  unfold Arr at h
  exact ⟨by simp [World.cell?, h, enc_at x k hk], by simp [World.frozen?, h]⟩

end Go.Proofs.YtlghphccmgmomaaGreat
