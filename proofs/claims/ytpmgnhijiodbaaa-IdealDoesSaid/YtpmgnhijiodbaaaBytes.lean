/-
  Proved here: how a row of bytes that came in, or that the call has made, reads; what an append, a conversion to a text and one from a text give.
  Conditions: rows of at most 2^30 bytes.
-/
import Derived.Test.YtpmgnhijiodbaaaRows
import Derived.WalkKit
import Derived.WalkSpells
import Derived.WalkLawsBesides
import Derived.Deep.LoopGhost
import Derived.Lib.ConvBytes
import Derived.Lib.Hide
import Derived.Maps.AppendAt
import Derived.Deep.AppendLies
import Derived.OpenShut
import Derived.Laws.IdiomStrings
namespace Go.Proofs.Ytpmgnhijiodbaaa
open Go.RowKit
set_option maxRecDepth 100000

theorem int_eq {k : IntKind} {a b : Int} (h : a = b) : Ending.returned (.int k a) = .returned (.int k b) := by rw [h]
theorem bool_eq {a b : Bool} (h : a = b) : Ending.returned (.bool a) = .returned (.bool b) := by rw [h]

/-- The slice at A holds the bytes l. -/
def Row (w : World) (A : Option Addr) (l : List UInt8) : Prop :=
  l.length ≤ 1073741824 ∧ (0 < l.length → ∃ b off, A = some ⟨b, off, none⟩ ∧ b < w.heap.size ∧ ∀ k, k < l.length → w.cell? ⟨b, off + k, none⟩ = some (.int .u8 ((l.getD k 0).toNat : Nat)))

theorem row_nil (w : World) (A : Option Addr) : Row w A [] := ⟨by simp, fun h => by simp at h⟩

/-- An append whose run is known. -/
theorem wpList_app {P : Program} {ops : Array Oper} {rest : List Oper} {o : Oper} {a : Act} {Q : Exit → Act → World → Prop} (hgd : o.guard = none) (s x : Operand) (t : TypeId)
    (ho : o.op = .call { callee := .builtin .append, args := #[s, x], argTypes := #[t, t] }) {w w' : World} {v V v' : Value} (hs : a.eval s = v) (hx : a.eval x = V)
    (hrun : (Builtin.append_ #[t, t] o.type #[v, V]).run P w = .ok v' w') (h : wpList P ops Q rest (a.put o.dst v') w') : wpList P ops Q (o :: rest) a w :=
  wpList_plain hgd fun _ hK => by
    unfold Oper.wp execOp
    simp only [ho, resolve, invoke, builtin, Sem.run_bind, Sem.run_pure, Result.andThen_ok, List.map_toArray, List.map_cons, List.map_nil, hs, hx, hrun]
    exact hK _ _ h

/-- Bytes as cells. -/
def enc (l : List UInt8) : List Value := l.map fun x => .int .u8 (x.toNat : Nat)
theorem enc_len (l : List UInt8) : (enc l).length = l.length := by simp [enc]
theorem enc_at (l : List UInt8) (j : Nat) (h : j < l.length) : (enc l)[j]? = some (.int .u8 ((l.getD j 0).toNat : Nat)) := by
  simp [enc, List.getD, List.getElem?_eq_getElem h]
theorem enc_at' (l : List UInt8) {j : Nat} {u : Value} (h : (enc l)[j]? = some u) : j < l.length ∧ u = .int .u8 ((l.getD j 0).toNat : Nat) := by
  have hj : j < l.length := by
    rcases Nat.lt_or_ge j l.length with h' | h'
    · exact h'
    · rw [List.getElem?_eq_none (by rw [enc_len]; exact h')] at h
      cases h
  rw [enc_at l j hj] at h
  exact ⟨hj, by injection h with h; exact h.symm⟩
theorem enc_append (a b : List UInt8) : enc a ++ enc b = enc (a ++ b) := by simp [enc]
theorem enc_one {l : List UInt8} : ∀ u ∈ enc l, u.oneCell' = true := by
  intro u hu
  simp [enc] at hu
  obtain ⟨x, _, rfl⟩ := hu
  rfl
theorem add_plain (b off j : Nat) : (⟨b, off, none⟩ : Addr).add j = ⟨b, off + j, none⟩ := by unfold Addr.add; split <;> simp_all
theorem byte_info : (Try.prog.info? 5).map (fun i => (i.zero, i.size, i.bytes)) = some (some (.int .u8 0), 1, 1) := by kernel_rfl

theorem Row.below {w w' : World} {A : Option Addr} {l : List UInt8} (h : Row w A l) (hb : Below w.heap.size w w') : Row w' A l :=
  ⟨h.1, fun hl => by
    obtain ⟨b, off, e, hlt, hc⟩ := h.2 hl
    exact ⟨b, off, e, Nat.lt_of_lt_of_le hlt hb.size, fun k hk => (hb.cell (p := ⟨b, off + k, none⟩) hlt).trans (hc k hk)⟩⟩
theorem row_of_own {w : World} {base n : Nat} {v : Value} {l : List UInt8} (h : w.ownsRow base 5 1 v n (enc l)) (hl : l.length ≤ 1073741824) : ∃ A cap, v = .slice A n cap ∧ Row w A l := by
  have hn : l.length = n := by have := h.1; rw [enc_len] at this; omega
  rcases Nat.eq_zero_or_pos n with h0 | h0
  · have : l = [] := List.eq_nil_of_length_eq_zero (by omega)
    subst this
    rcases h.2 with ⟨e, e0⟩ | ⟨g, cap, _, e, _⟩
    · exact ⟨none, 0, by rw [e, e0], row_nil _ _⟩
    · exact ⟨_, _, e, row_nil _ _⟩
  · obtain ⟨g, cap, e, _, hlt⟩ := h.form h0
    refine ⟨_, _, e, hl, fun _ => ⟨g, 0, rfl, hlt, fun k hk => ?_⟩⟩
    have := h.cells (g := g) (by rw [e]; rfl) k _ (enc_at l k hk)
    rw [add_plain] at this
    exact this

/-- What the walk is told of a slice of integers that came in. -/
def IsRow (k : IntKind) (w : World) (a : Option Addr) (len cap : Nat) (zs : List Int) : Prop :=
  (a = none ∧ len = 0 ∧ cap = 0 ∧ zs = []) ∨
  ∃ x, a = some x ∧ len ≤ cap ∧ cap ≤ maxLen ∧ zs.length = cap ∧ (∀ i, i < zs.length → w.cell? (x.add i) = some (.int k (zs.getD i 0))) ∧ ∀ n ∈ zs, (Lit.int k n).wf = true

theorem byte_of {z : Int} (h : (Lit.int .u8 z).wf = true) : ((UInt8.ofNat z.toNat).toNat : Int) = z := by
  have := bounds_u8 h
  rw [UInt8.toNat_ofNat']
  omega
theorem IsRow.row {w : World} {a : Option Addr} {len cap : Nat} {zs : List Int} (h : IsRow .u8 w a len cap zs) (hl : len ≤ 1073741824) : ∃ l : List UInt8, l.length = len ∧ Row w a l ∧ (a = none → cap = 0) := by
  rcases h with ⟨rfl, rfl, rfl, rfl⟩ | ⟨x, rfl, hlc, _, hz, hcell, hwz⟩
  · exact ⟨[], rfl, row_nil _ _, fun _ => rfl⟩
  · have hlen : ((zs.take len).map fun z => UInt8.ofNat z.toNat).length = len := by simp; omega
    refine ⟨(zs.take len).map fun z => UInt8.ofNat z.toNat, hlen, ⟨by omega, fun hpos => ?_⟩, fun h => by cases h⟩
    rw [hlen] at hpos ⊢
    have h0 := hcell 0 (by omega)
    obtain ⟨b, off, spot⟩ := x
    have hspot : spot = none := by simpa [Addr.add] using World.cell?_spot h0
    subst hspot
    refine ⟨b, off, rfl, by simpa [Addr.add] using World.block_lt_of_cell? _ _ h0, fun k hk => ?_⟩
    have hc := hcell k (by omega)
    rw [add_plain] at hc
    rw [hc]
    have hk' : k < zs.length := by omega
    have hw := hwz (zs.getD k 0) (by simp [List.getD, List.getElem?_eq_getElem hk'])
    have := byte_of hw
    simp only [List.getD, List.getElem?_map, List.getElem?_take_of_lt hk, List.getElem?_eq_getElem hk', Option.map_some, Option.getD_some] at this ⊢
    rw [this]

theorem row_drew {w : World} {A : Option Addr} {l : List UInt8} (h : Row w A l) : Row w.drew A l := h
theorem enc_set (a : List UInt8) (k r : Nat) (hr : r < 256) : (enc a).set k (.int .u8 (r : Nat)) = enc (a.set k (UInt8.ofNat r)) := by
  simp [enc, List.map_set, Nat.mod_eq_of_lt hr]

theorem row_bytes (w : World) (s : ByteArray) (hs : s.size ≤ 1073741824) : Row (Lib.bytesWorld w 5 s) (some ⟨w.heap.size, 0, none⟩) s.data.toList := by
  have hl : s.data.toList.length = s.size := rfl
  refine ⟨by omega, fun _ => ⟨w.heap.size, 0, rfl, by rw [Lib.bytesWorld_size]; omega, fun k hk => ?_⟩⟩
  rw [Nat.zero_add]
  exact Lib.bytesWorld_cell w 5 s k (by omega)
theorem below_bytes (w : World) (s : ByteArray) : Below w.heap.size w (Lib.bytesWorld w 5 s) :=
  ⟨rfl, rfl, rfl, by rw [Lib.bytesWorld_size]; omega, fun k hk => Lib.bytesWorld_at_old w 5 s k hk⟩

theorem row_one (w : World) (x : UInt8) : Row (w.alloc (.cells #[.int .u8 (x.toNat : Nat)] 5)) (some ⟨w.heap.size, 0, none⟩) [x] := by
  refine ⟨by simp, fun _ => ⟨w.heap.size, 0, rfl, by simp, fun k hk => ?_⟩⟩
  obtain rfl : k = 0 := by simpa using hk
  simp

/-- Block g is just the bytes' cells cs. -/
def Blk (w : World) (g : Nat) (cs : List Value) : Prop := w.heap[g]? = some (.cells cs.toArray 5 (0, 0))
theorem Blk.lt {w : World} {g : Nat} {cs : List Value} (h : Blk w g cs) : g < w.heap.size := by
  rcases Nat.lt_or_ge g w.heap.size with hlt | hge
  · exact hlt
  · unfold Blk at h
    rw [Array.getElem?_eq_none hge] at h
    cases h
theorem Blk.cell {w : World} {g : Nat} {cs : List Value} (h : Blk w g cs) (j : Nat) : w.cell? ⟨g, j, none⟩ = cs[j]? := by
  unfold Blk at h
  simp [World.cell?, h]
theorem Blk.frozen {w : World} {g : Nat} {cs : List Value} (h : Blk w g cs) (j : Nat) : w.frozen? ⟨g, j, none⟩ = false := by
  unfold Blk at h
  simp [World.frozen?, h]
theorem Blk.set_ {w : World} {g : Nat} {cs : List Value} (h : Blk w g cs) (j : Nat) (u : Value) : Blk (w.setCell ⟨g, j, none⟩ u) g (cs.set j u) := by
  unfold Blk at h ⊢
  simp [World.setCell, Array.getElem?_modify, h]
theorem Blk.below {w w' : World} {g B : Nat} {cs : List Value} (h : Blk w g cs) (hb : Below B w w') (hg : g < B) : Blk w' g cs := (hb.block g hg).trans h

end Go.Proofs.Ytpmgnhijiodbaaa
