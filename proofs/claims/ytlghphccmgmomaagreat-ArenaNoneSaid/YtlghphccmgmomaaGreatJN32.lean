/-
  Proved here, joined: EfMem, ArMem16
  Conditions: as each part says.
-/
import Derived.Test.YtlghphccmgmomaaGreatJN30
import Derived.Test.YtlghphccmgmomaaGreatJN31
import Derived.Test.YtlghphccmgmomaaGreatJN4
import Derived.Test.YtlghphccmgmomaaGreatJN15
import Derived.Test.YtlghphccmgmomaaGreatJN16
import Derived.Test.YtlghphccmgmomaaGreatJN17
import Derived.Test.YtlghphccmgmomaaGreatJN19
import Derived.Test.YtlghphccmgmomaaGreatJN1
import Derived.Deep.RegionLaw
import Derived.Test.YtlghphccmgmomaaGreatJN22
import Derived.Test.YtlghphccmgmomaaGreatJN23
import Derived.Test.YtlghphccmgmomaaGreatJN26
import Derived.Test.YtlghphccmgmomaaGreatJN27
import Derived.Test.YtlghphccmgmomaaGreatJN6
import Derived.Test.YtlghphccmgmomaaGreatJN12

/-
  Proved here: effects in slices and in variables.
  Conditions: none.
-/
namespace Go.Proofs.YtlghphccmgmomaaGreat
open Go Go.RowKit
set_option maxRecDepth 100000

/-! ### Effects -/
/-- An effect's own cells. -/
structure Ef where
  kd : Int
  key : ByteArray
  val : ByteArray
  id : Int
  ver : Int
  ep : Int
  gp : Int
def Ef.cells (x : Ef) : List Value := [.int .i64 x.kd, .string x.key, .string x.val, .int .u64 x.id, .int .u64 x.ver, .int .u64 x.ep, .int .i64 x.gp]
def Ef.agg (x : Ef) : Value := .agg #[.int .i64 x.kd, .string x.key, .string x.val, .int .u64 x.id, .int .u64 x.ver, .int .u64 x.ep, .int .i64 x.gp]
theorem eff_info : (Tryz.prog.info? 112).map (fun i => (i.zero, i.size, i.bytes)) = some (some (.agg #[.int .i64 0, .string ⟨#[]⟩, .string ⟨#[]⟩, .int .u64 0, .int .u64 0, .int .u64 0, .int .i64 0]), 7, 72) := by kernel_rfl
theorem eff_info' : ∃ i, Tryz.prog.info? 112 = some i ∧ i.zero = some (.agg #[.int .i64 0, .string ⟨#[]⟩, .string ⟨#[]⟩, .int .u64 0, .int .u64 0, .int .u64 0, .int .i64 0]) ∧ i.size = 7 ∧ i.bytes = 72 := by
  obtain ⟨i, h1, h2⟩ := Option.map_eq_some_iff.1 eff_info
  simp only [Prod.mk.injEq] at h2
  exact ⟨i, h1, h2.1, h2.2.1, h2.2.2⟩
theorem zero_eff : (Tryz.prog.info? 112).bind (·.zero) = some (.agg #[.int .i64 0, .string ⟨#[]⟩, .string ⟨#[]⟩, .int .u64 0, .int .u64 0, .int .u64 0, .int .i64 0]) := by
  obtain ⟨i, h1, h2, _⟩ := eff_info'
  rw [h1]
  exact h2
theorem size_eff : (Tryz.prog.info? 112).map (·.size) = some 7 := by
  obtain ⟨i, h1, _, h2, _⟩ := eff_info'
  rw [h1]
  simp [h2]
theorem onesE (a : Int) (b c : ByteArray) (d e f g : Int) : (#[.int .i64 a, .string b, .string c, .int .u64 d, .int .u64 e, .int .u64 f, .int .i64 g] : Array Value).all (·.oneCell') = true := all_oneCell_toArray (cs := [.int .i64 a, .string b, .string c, .int .u64 d, .int .u64 e, .int .u64 f, .int .i64 g]) (fun u hu => by
  simp only [List.mem_cons, List.not_mem_nil, or_false] at hu
  rcases hu with rfl | rfl | rfl | rfl | rfl | rfl | rfl <;> rfl)
/-- Effects in a slice. -/
def RE : Rec Ef where
  tE := 112
  tS := 60
  k := 7
  by_ := 72
  zv := .agg #[.int .i64 0, .string ⟨#[]⟩, .string ⟨#[]⟩, .int .u64 0, .int .u64 0, .int .u64 0, .int .i64 0]
  cells := Ef.cells
  hk := by omega
  klen := fun _ => rfl
  one := fun x u hu => by
    simp only [Ef.cells, List.mem_cons, List.not_mem_nil, or_false] at hu
    rcases hu with rfl | rfl | rfl | rfl | rfl | rfl | rfl <;> rfl
  und := Tryz.underlying60
  info := eff_info'
  zk := by kernel_rfl
  small := by omega
/-- The effect x in a block of its own. -/
def EfBox (w : World) (g : Nat) (x : Ef) : Prop := w.heap[g]? = some (.cells #[.int .i64 x.kd, .string x.key, .string x.val, .int .u64 x.id, .int .u64 x.ver, .int .u64 x.ep, .int .i64 x.gp] 112 (0, 0))
theorem EfBox.below {w w' : World} {g B : Nat} {x : Ef} (h : EfBox w g x) (hb : Below B w w') (hg : g < B) : EfBox w' g x := (hb.block g hg).trans h
theorem EfBox.lt {w : World} {g : Nat} {x : Ef} (h : EfBox w g x) : g < w.heap.size := lt_of_heap h
theorem EfBox.at_ {w : World} {g : Nat} {x : Ef} (h : EfBox w g x) : w.cell? ⟨g, 0, none⟩ = some (.int .i64 x.kd) ∧ w.cell? ⟨g, 1, none⟩ = some (.string x.key) ∧ w.cell? ⟨g, 2, none⟩ = some (.string x.val) ∧ w.cell? ⟨g, 3, none⟩ = some (.int .u64 x.id) ∧ w.cell? ⟨g, 4, none⟩ = some (.int .u64 x.ver) ∧ w.cell? ⟨g, 5, none⟩ = some (.int .u64 x.ep) ∧ w.cell? ⟨g, 6, none⟩ = some (.int .i64 x.gp) := by
  unfold EfBox at h
  refine ⟨?_, ?_, ?_, ?_, ?_, ?_, ?_⟩ <;> simp [World.cell?, h]

end Go.Proofs.YtlghphccmgmomaaGreat

/-
  Proved here: an arena in memory; its parts' blocks told apart by colours; what a step of one part leaves.
  Conditions: none.
-/
namespace Go.Proofs.YtlghphccmgmomaaGreat
open Go Go.RowKit
set_option maxRecDepth 100000

open Classical
/-! ### The arena in memory: its parts in blocks of their own, told apart by colours -/
/-- A clock, wherever what is left of its closing lies. -/
structure Cc (w : World) (p o : Nat) (lb : Option Nat) (c : Ck) : Prop where
  cm : ∀ S : List Nat, p ∈ S → o ∈ S → (∀ k, lb = some k → k ∉ S) → Cm S w p o c
  lt : ∀ k, lb = some k → k < w.heap.size
  ne : ∀ k, lb = some k → k ≠ p ∧ k ≠ o
/-- The blocks of the parts. -/
structure Pz where
  ap : Nat
  dp : Nat
  dq : Nat
  pp : Nat
  pq : Nat
  rp : Nat
  rq : Nat
  cp : Nat
  co : Nat
  lb : Option Nat
  bp : Nat
  blo : Nat
  bq : Nat
  tp : Nat
  tm : Nat → Option Nat
  op : Nat
  ov : Nat → Value
  lp : Nat
  lv : Value
  lf : Nat
  lP : List Ln
  ev : Value
/-- What stays of the blocks as long as the arena lives. -/
def Pz.base (z : Pz) : List Nat := [z.ap, z.dp, z.dq, z.pp, z.pq, z.rp, z.rq, z.cp, z.co, z.bp, z.tp, z.op, z.lp]
/-- What an arena holds. -/
structure Az where
  d : St
  n : Nat
  L : List Tk
  R : List Nat
  now : Nat
  c : Ck
  B : List En
  T : List Ln
  O : List Ln
  Q : List Ln
  id : Nat
  ver : Nat
  E : List Ef
/-- Part i's own blocks. -/
def ow (z : Pz) (i k : Nat) : Prop :=
  match i with
  | 0 => k = z.ap
  | 1 => k = z.dp ∨ k = z.dq
  | 2 => k = z.pp ∨ k = z.pq
  | 3 => k = z.rp ∨ k = z.rq
  | 4 => k = z.cp ∨ k = z.co ∨ z.lb = some k
  | 5 => k = z.bp ∨ k = z.bq
  | 6 => tbOwn z.tp z.tm k
  | 7 => odOwn z.op z.ov k
  | 8 => fiOwn z.lp z.lv k
  | 9 => z.ev.ownBlock = some k
  | _ => False
def onceCells (x : Int) : List Value := [.int .u32 x, .int .i32 0, .int .u32 0]
/-- The struct's own cells. -/
def arCells (z : Pz) (on : Int) (id ver : Nat) : List Value :=
  [.pointer (some ⟨z.dp, 0, none⟩)] ++ onceCells on ++ [.pointer (some ⟨z.pp, 0, none⟩), .pointer (some ⟨z.rp, 0, none⟩), .pointer (some ⟨z.cp, 0, none⟩), .pointer (some ⟨z.bp, 0, none⟩), .pointer (some ⟨z.tp, 0, none⟩), .pointer (some ⟨z.op, 0, none⟩), .pointer (some ⟨z.lp, 0, none⟩), .int .u64 (id : Nat), .int .u64 (ver : Nat), z.ev]
structure Ar (b : Nat) (w : World) (col : Nat → Nat) (z : Pz) (s : Az) : Prop where
  me : ∃ on, w.heap[z.ap]? = some (.cells (arCells z on s.id s.ver).toArray 88 (0, 0))
  dv : DvS w z.dp z.dq s.d
  pl : PlP w z.pp z.pq s.n s.L
  rd : RdP w z.rp z.rq s.R s.now
  ck : Cc w z.cp z.co z.lb s.c
  bg : BgP w z.bp z.blo z.bq s.B
  tb : Tb w z.tp z.tm s.T
  od : Od w z.op z.ov s.O
  fi : Fi w z.lp z.lv z.lf z.lP s.Q
  ef : w.ownsRow 0 RE.tE RE.k z.ev s.E.length (RE.enc s.E)
  cl : ∀ i k, i < 10 → ow z i k → col k = b + i + 1
  nw : ∀ k, w.heap.size ≤ k → col k = 0
  lo : z.blo ≤ w.heap.size
variable {b : Nat} {w w' : World} {col : Nat → Nat} {z z' : Pz} {s s' : Az}
theorem Cc.lt_p {p o : Nat} {lb : Option Nat} {c : Ck} (h : Cc w p o lb c) : p < w.heap.size := (h.cm [p, o] (by simp) (by simp) (fun k e => by have := h.ne k e; simp; omega)).lt_p
theorem Cc.lt_o {p o : Nat} {lb : Option Nat} {c : Ck} (h : Cc w p o lb c) : o < w.heap.size := (h.cm [p, o] (by simp) (by simp) (fun k e => by have := h.ne k e; simp; omega)).lt_o
theorem Cc.two {p o : Nat} {lb : Option Nat} {c : Ck} (h : Cc w p o lb c) : Cm [p, o] w p o c := h.cm [p, o] (by simp) (by simp) (fun k e => by have := h.ne k e; simp; omega)
/-- The blocks in which what is left does not lie: all that are there but one. -/
def fullS (w : World) (p o : Nat) (lb : Option Nat) : List Nat := p :: o :: (List.range w.heap.size).filter fun k => decide (lb ≠ some k)
theorem fullS_p (w : World) (p o : Nat) (lb : Option Nat) : p ∈ fullS w p o lb := by simp [fullS]
theorem fullS_o (w : World) (p o : Nat) (lb : Option Nat) : o ∈ fullS w p o lb := by simp [fullS]
theorem Cc.full {p o : Nat} {lb : Option Nat} {c : Ck} (h : Cc w p o lb c) : Cm (fullS w p o lb) w p o c := h.cm _ (fullS_p _ _ _ _) (fullS_o _ _ _ _) (fun k e => by
  have := h.ne k e
  unfold fullS
  simp only [List.mem_cons, List.mem_filter, List.mem_range, not_or, not_and, decide_eq_true_eq]
  exact ⟨this.1, this.2, fun _ hn => hn e⟩)
/-- Back from the list to a block. -/
theorem Cc.of {p o : Nat} {lb : Option Nat} {c : Ck} (h : Cm (fullS w p o lb) w' p o c) : ∃ lb', Cc w' p o lb' c ∧ ∀ k, lb' = some k → lb = some k ∨ w.heap.size ≤ k := by
  obtain ⟨A, cap, e1, hr, hc, ha, hn⟩ := h.raw.mem
  cases A with
  | none => exact ⟨none, ⟨fun S h1 h2 _ => ⟨h.ok, h.raw.ne, h.raw.n258, h.raw.small, ⟨none, cap, e1, hr, hc, ha, fun x hx => (by cases hx)⟩, h.raw.row, h1, h2⟩, fun k e => (by cases e), fun k e => (by cases e)⟩, fun k e => (by cases e)⟩
  | some x =>
    obtain ⟨hx, hl⟩ := hn x rfl
    unfold fullS at hx
    simp only [List.mem_cons, List.mem_filter, List.mem_range, not_or, not_and, decide_eq_true_eq, Classical.not_not] at hx
    refine ⟨some x.block, ⟨fun S h1 h2 h3 => ⟨h.ok, h.raw.ne, h.raw.n258, h.raw.small, ⟨some x, cap, e1, hr, hc, ha, fun y hy => by cases hy; exact ⟨h3 _ rfl, hl⟩⟩, h.raw.row, h1, h2⟩, fun k e => by cases e; exact hl, fun k e => by cases e; exact ⟨hx.1, hx.2.1⟩⟩, fun k e => ?_⟩
    cases e
    by_cases h4 : x.block < w.heap.size
    · exact .inl (hx.2.2 h4)
    · exact .inr (by omega)
theorem Cc.stay {p o : Nat} {lb : Option Nat} {c : Ck} (h : Cc w p o lb c) (hs : w.heap.size ≤ w'.heap.size) (hk : ∀ k, k < w.heap.size → (k = p ∨ k = o ∨ lb = some k) → w'.heap[k]? = w.heap[k]?) : Cc w' p o lb c := by
  have hb : ∀ k, k < w.heap.size → (k = p ∨ k = o ∨ lb = some k) → w'.heap[k]? = w.heap[k]? := hk
  have h0 := h.full
  obtain ⟨A, cap, e1, hr, hc, ha, hn⟩ := h0.raw.mem
  have hA : ∀ x, A = some x → lb = some x.block ∧ x.block < w.heap.size := fun x hx => by
    obtain ⟨h1, h2⟩ := hn x hx
    unfold fullS at h1
    simp only [List.mem_cons, List.mem_filter, List.mem_range, not_or, not_and, decide_eq_true_eq, Classical.not_not] at h1
    exact ⟨h1.2.2 h2, h2⟩
  exact ⟨fun S h1 h2 h3 => ⟨h0.ok, h0.raw.ne, h0.raw.n258, h0.raw.small, ⟨A, cap, (hb p h.lt_p (.inl rfl)).trans e1, hr.move hs (fun x hx hlt => hb _ hlt (.inr (.inr (hA x hx).1))), hc, ha, fun x hx => ⟨h3 _ (hA x hx).1, Nat.lt_of_lt_of_le (hA x hx).2 hs⟩⟩, (hb o h.lt_o (.inr (.inl rfl))).trans h0.raw.row, h1, h2⟩,
    fun k e => Nat.lt_of_lt_of_le (h.lt k e) hs, h.ne⟩
/-- All own blocks are there. -/
theorem Ar.lt (h : Ar b w col z s) {i k : Nat} (hi : i < 10) (hk : ow z i k) : k < w.heap.size := by
  rcases Nat.lt_or_ge k w.heap.size with h1 | h1
  · exact h1
  · have h2 := h.nw k h1
    rw [h.cl i k hi hk] at h2
    omega
/-- What a step leaves whole. -/
theorem Ar.kept (h : Ar b w col z s) {i : Nat} (hi : i < 10) (hs : Stay (ow z i) w w') {j k : Nat} (hj : j < 10) (hji : j ≠ i) (hk : ow z j k) : w'.heap[k]? = w.heap[k]? := by
  refine hs.block k (fun e => ?_) (h.lt hj hk)
  have h1 := h.cl i k hi e
  have h2 := h.cl j k hj hk
  omega
noncomputable def recol (b : Nat) (w : World) (col : Nat → Nat) (z : Pz) (i : Nat) : Nat → Nat := fun k => if k < w.heap.size then col k else if ow z i k then b + i + 1 else 0
/-- What holds of the parts. -/
def part (w : World) (z : Pz) (s : Az) (i : Nat) : Prop :=
  match i with
  | 0 => ∃ on, w.heap[z.ap]? = some (.cells (arCells z on s.id s.ver).toArray 88 (0, 0))
  | 1 => DvS w z.dp z.dq s.d
  | 2 => PlP w z.pp z.pq s.n s.L
  | 3 => RdP w z.rp z.rq s.R s.now
  | 4 => Cc w z.cp z.co z.lb s.c
  | 5 => BgP w z.bp z.blo z.bq s.B
  | 6 => Tb w z.tp z.tm s.T
  | 7 => Od w z.op z.ov s.O
  | 8 => Fi w z.lp z.lv z.lf z.lP s.Q
  | 9 => w.ownsRow 0 RE.tE RE.k z.ev s.E.length (RE.enc s.E)
  | _ => True
theorem Ar.part (h : Ar b w col z s) (i : Nat) : part w z s i := by
  match i with
  | 0 => exact h.me
  | 1 => exact h.dv
  | 2 => exact h.pl
  | 3 => exact h.rd
  | 4 => exact h.ck
  | 5 => exact h.bg
  | 6 => exact h.tb
  | 7 => exact h.od
  | 8 => exact h.fi
  | 9 => exact h.ef
  | _ + 10 => trivial
theorem ar_of (h : ∀ i, i < 10 → Go.Proofs.YtlghphccmgmomaaGreat.part w z s i) (hc : ∀ i k, i < 10 → ow z i k → col k = b + i + 1) (hn : ∀ k, w.heap.size ≤ k → col k = 0) (hl : z.blo ≤ w.heap.size) : Ar b w col z s :=
  ⟨h 0 (by omega), h 1 (by omega), h 2 (by omega), h 3 (by omega), h 4 (by omega), h 5 (by omega), h 6 (by omega), h 7 (by omega), h 8 (by omega), h 9 (by omega), hc, hn, hl⟩
/-- A part stands in a world where its own blocks are as they were. -/
theorem part_stay {i : Nat} (hp : Go.Proofs.YtlghphccmgmomaaGreat.part w z s i) (hs : w.heap.size ≤ w'.heap.size) (ho : w'.os = w.os) (ht : w'.tape = w.tape) (hu : w'.output = w.output) (hk : ∀ k, ow z i k → w'.heap[k]? = w.heap[k]?) : Go.Proofs.YtlghphccmgmomaaGreat.part w' z s i := by
  have hst : Stay (fun k => ¬ ow z i k) w w' := ⟨ho, ht, hu, hs, fun k h _ => hk k (Classical.not_not.1 h)⟩
  match i with
  | 0 => obtain ⟨on, h⟩ := hp; exact ⟨on, (hk _ rfl).trans h⟩
  | 1 => exact Dv.same hp (hk _ (.inl rfl)) (hk _ (.inr rfl))
  | 2 => exact Pl.same hp (hk _ (.inl rfl)) (hk _ (.inr rfl))
  | 3 => exact Rd.same hp (hk _ (.inl rfl)) (hk _ (.inr rfl))
  | 4 => exact Cc.stay hp hs (fun k _ h => hk k h)
  | 5 => exact Bg.same hp (hk _ (.inl rfl)) (hk _ (.inr rfl))
  | 6 => exact Tb.stay hp hst (fun k h hn => hn h)
  | 7 => exact Od.stay hp hst (fun k h hn => hn h)
  | 8 => exact Fi.stay hp hst (fun k h hn => hn h)
  | 9 => exact own_same hp (fun k h => hk k h)
  | _ + 10 => trivial

/-- All parts but one, behind a step of that one. -/
theorem Ar.step (h : Ar b w col z s) {i : Nat} (hi : i < 10) (hs : Stay (ow z i) w w') (hz : ∀ j k, j < 10 → j ≠ i → (ow z' j k ↔ ow z j k)) (hp : ∀ j, j < 10 → j ≠ i → Go.Proofs.YtlghphccmgmomaaGreat.part w z s j → (∀ k, ow z j k → w'.heap[k]? = w.heap[k]?) → Go.Proofs.YtlghphccmgmomaaGreat.part w' z' s' j)
    (hpi : Go.Proofs.YtlghphccmgmomaaGreat.part w' z' s' i) (hn : ∀ k, ow z' i k → (ow z i k ∨ w.heap.size ≤ k)) (hlt : ∀ k, ow z' i k → k < w'.heap.size) (hl : z'.blo ≤ w'.heap.size) : Ar b w' (recol b w col z' i) z' s' := by
  refine ar_of (fun j hj => ?_) (fun j k hj hk => ?_) (fun k hk => ?_) hl
  · by_cases e : j = i
    · subst e; exact hpi
    · exact hp j hj e (h.part j) (fun k hk => h.kept hi hs hj e hk)
  · unfold recol
    by_cases e : j = i
    · subst e
      rcases hn k hk with h1 | h1
      · rw [if_pos (h.lt hi h1)]
        exact h.cl j k hj h1
      · rw [if_neg (by omega), if_pos hk]
    · have h1 := (hz j k hj e).1 hk
      rw [if_pos (h.lt hj h1)]
      exact h.cl j k hj h1
  · unfold recol
    rw [if_neg (by have := hs.size; omega), if_neg (fun e => by have := hlt k e; omega)]
/-- As step, where a second part is written too. -/
theorem Ar.step2 (h : Ar b w col z s) {i i2 : Nat} (hi : i < 10) (hi2 : i2 < 10) (hs : Stay (fun k => ow z i k ∨ ow z i2 k) w w') (hz : ∀ j k, j < 10 → j ≠ i → (ow z' j k ↔ ow z j k)) (hp : ∀ j, j < 10 → j ≠ i → j ≠ i2 → Go.Proofs.YtlghphccmgmomaaGreat.part w z s j → (∀ k, ow z j k → w'.heap[k]? = w.heap[k]?) → Go.Proofs.YtlghphccmgmomaaGreat.part w' z' s' j)
    (hpi : Go.Proofs.YtlghphccmgmomaaGreat.part w' z' s' i) (hpj : Go.Proofs.YtlghphccmgmomaaGreat.part w' z' s' i2) (hn : ∀ k, ow z' i k → (ow z i k ∨ w.heap.size ≤ k)) (hlt : ∀ k, ow z' i k → k < w'.heap.size) (hl : z'.blo ≤ w'.heap.size) : Ar b w' (recol b w col z' i) z' s' := by
  refine ar_of (fun j hj => ?_) (fun j k hj hk => ?_) (fun k hk => ?_) hl
  · by_cases e : j = i
    · subst e; exact hpi
    · by_cases e2 : j = i2
      · subst e2; exact hpj
      · refine hp j hj e e2 (h.part j) (fun k hk => hs.block k (fun e' => ?_) (h.lt hj hk))
        have h2 := h.cl j k hj hk
        rcases e' with e' | e'
        · have h1 := h.cl i k hi e'; omega
        · have h1 := h.cl i2 k hi2 e'; omega
  · unfold recol
    by_cases e : j = i
    · subst e
      rcases hn k hk with h1 | h1
      · rw [if_pos (h.lt hi h1)]
        exact h.cl j k hj h1
      · rw [if_neg (by omega), if_pos hk]
    · have h1 := (hz j k hj e).1 hk
      rw [if_pos (h.lt hj h1)]
      exact h.cl j k hj h1
  · unfold recol
    rw [if_neg (by have := hs.size; omega), if_neg (fun e => by have := hlt k e; omega)]
/-- What no part owns. -/
def Free (b : Nat) (col : Nat → Nat) (k : Nat) : Prop := col k ≤ b ∨ b + 10 < col k
/-- What is left of a world behind a step of the arena. -/
structure ArTo (b : Nat) (w : World) (col : Nat → Nat) (z : Pz) (s' : Az) (w' : World) : Prop where
  ar : ∃ col' z', Ar b w' col' z' s' ∧ z'.base = z.base ∧ (∀ k, k < w.heap.size → col' k = col k) ∧ (∀ k, w.heap.size ≤ k → col' k = 0 ∨ (b < col' k ∧ col' k ≤ b + 10))
  st : Stay (fun k => b < col k ∧ col k ≤ b + 10) w w'
theorem Ar.own_col (h : Ar b w col z s) {i k : Nat} (hi : i < 10) (hk : ow z i k) : b < col k ∧ col k ≤ b + 10 := by
  have := h.cl i k hi hk
  omega
theorem Ar.to (_ : Ar b w col z s) {i : Nat} {X : Nat → Prop} (hX : ∀ k, X k → b < col k ∧ col k ≤ b + 10) (_ : i < 10) (hs : Stay X w w') (h' : Ar b w' (recol b w col z' i) z' s') (hz : z'.base = z.base) : ArTo b w col z s' w' := by
  refine ⟨⟨_, _, h', hz, fun k hk => ?_, fun k hk => ?_⟩, ⟨hs.os, hs.tape, hs.output, hs.size, fun k hk hl => hs.block k (fun e => hk (hX k e)) hl⟩⟩
  · unfold recol; rw [if_pos hk]
  · unfold recol
    rw [if_neg (by omega)]
    by_cases e : ow z' i k
    · rw [if_pos e]; right; omega
    · rw [if_neg e]; left; rfl
/-- What lies new beside the arena. -/
theorem Ar.below (h : Ar b w col z s) (hb : Below w.heap.size w w') : Ar b w' col z s :=
  ar_of (fun j hj => part_stay (h.part j) hb.size hb.os hb.tape hb.output (fun k hk => hb.block k (h.lt hj hk))) h.cl (fun k hk => h.nw k (by have := hb.size; omega)) (by have := h.lo; have := hb.size; omega)
theorem Ar.drewN (h : Ar b w col z s) (n : Nat) : Ar b (w.drewN n) col z s := h.below (below_drewN (Below.refl _ _) n)
theorem ArTo.refl (h : Ar b w col z s) (hb : Below w.heap.size w w') : ArTo b w col z s w' :=
  ⟨⟨col, z, h.below hb, rfl, fun _ _ => rfl, fun k hk => .inl (h.nw k hk)⟩, Stay.of_below hb⟩
/-- One step behind another. -/
theorem ArTo.trans {w2 : World} {col2 : Nat → Nat} {z2 : Pz} {s2 : Az} (hz : z2.base = z.base) (hs : Stay (fun k => b < col k ∧ col k ≤ b + 10) w w') (hc : ∀ k, k < w.heap.size → col2 k = col k) (hn : ∀ k, w.heap.size ≤ k → col2 k = 0 ∨ (b < col2 k ∧ col2 k ≤ b + 10)) (h : ArTo b w' col2 z2 s2 w2) : ArTo b w col z s2 w2 := by
  obtain ⟨⟨c3, z3, h3, hz3, h4, h5⟩, h6⟩ := h
  refine ⟨⟨c3, z3, h3, hz3.trans hz, fun k hk => (h4 k (Nat.lt_of_lt_of_le hk hs.size)).trans (hc k hk), fun k hk => ?_⟩, ⟨h6.os.trans hs.os, h6.tape.trans hs.tape, h6.output.trans hs.output, Nat.le_trans hs.size h6.size, fun k hk hl => (h6.block k (fun e => hk (by rw [hc k hl] at e; exact e)) (Nat.lt_of_lt_of_le hl hs.size)).trans (hs.block k hk hl)⟩⟩
  rcases Nat.lt_or_ge k w'.heap.size with h7 | h7
  · rw [h4 k h7]; exact hn k hk
  · exact h5 k h7

theorem Turns.stay2 {p q : Nat} (h : Turns p q w w') : Stay (fun k => k = p ∨ k = q) w w' := ⟨h.os, h.tape, h.output, h.size, fun k hk hl => h.block k (fun e => hk (.inl e)) (fun e => hk (.inr e)) hl⟩
/-- The device turned. -/
theorem Ar.setDev (h : Ar b w col z s) {d : St} (hd : DvS w' z.dp z.dq d) (ht : Turns z.dp z.dq w w') : ArTo b w col z { s with d := d } w' :=
  h.to (i := 1) (fun k hk => h.own_col (i := 1) (by omega) hk) (by omega) ht.stay2 (h.step (i := 1) (z' := z) (by omega) ht.stay2 (fun _ _ _ _ => Iff.rfl) (fun j hj hne hp hk => by
    have := part_stay hp ht.size ht.os ht.tape ht.output hk
    match j, hj, hne with
    | 0, _, _ => exact this
    | 2, _, _ => exact this
    | 3, _, _ => exact this
    | 4, _, _ => exact this
    | 5, _, _ => exact this
    | 6, _, _ => exact this
    | 7, _, _ => exact this
    | 8, _, _ => exact this
    | 9, _, _ => exact this) hd (fun k hk => .inl hk) (fun k hk => Nat.lt_of_lt_of_le (h.lt (i := 1) (by omega) hk) ht.size) (Nat.le_trans h.lo ht.size)) rfl
open Classical
section
variable {b : Nat} {w w' : World} {col : Nat → Nat} {z : Pz} {s : Az}
theorem Ar.setPool (h : Ar b w col z s) {L : List Tk} (hd : PlP w' z.pp z.pq s.n L) (hu : Turns z.pp z.pq w w') : ArTo b w col z { s with L := L } w' := by
  have ht : Stay (ow z 2) w w' := hu.stay2
  refine h.to (i := 2) (fun k hk => h.own_col (i := 2) (by omega) hk) (by omega) ht (h.step (i := 2) (z' := z) (by omega) ht (fun j k hj hne => ?_) (fun j hj hne hp hk => ?_) hd ?_ ?_ (Nat.le_trans h.lo ht.size)) rfl
  · match j, hj, hne with
    | 0, _, _ => exact Iff.rfl
    | 1, _, _ => exact Iff.rfl
    | 3, _, _ => exact Iff.rfl
    | 4, _, _ => exact Iff.rfl
    | 5, _, _ => exact Iff.rfl
    | 6, _, _ => exact Iff.rfl
    | 7, _, _ => exact Iff.rfl
    | 8, _, _ => exact Iff.rfl
    | 9, _, _ => exact Iff.rfl
  · have := part_stay hp ht.size ht.os ht.tape ht.output hk
    match j, hj, hne with
    | 0, _, _ => exact this
    | 1, _, _ => exact this
    | 3, _, _ => exact this
    | 4, _, _ => exact this
    | 5, _, _ => exact this
    | 6, _, _ => exact this
    | 7, _, _ => exact this
    | 8, _, _ => exact this
    | 9, _, _ => exact this
  · intro k hk
    exact .inl hk
  · intro k hk
    exact Nat.lt_of_lt_of_le (h.lt (i := 2) (by omega) hk) ht.size
theorem Ar.setCk (h : Ar b w col z s) {c : Ck} (hd : Cm (fullS w z.cp z.co z.lb) w' z.cp z.co c) (hu : Turns z.cp z.co w w') : ArTo b w col z { s with c := c } w' := by
  obtain ⟨lb, hc, hn⟩ := Cc.of hd
  have ht : Stay (ow z 4) w w' := ⟨hu.os, hu.tape, hu.output, hu.size, fun k hk hl => hu.block k (fun e => hk (.inl e)) (fun e => hk (.inr (.inl e))) hl⟩
  refine h.to (i := 4) (fun k hk => h.own_col (i := 4) (by omega) hk) (by omega) ht (h.step (i := 4) (z' := { z with lb := lb }) (by omega) ht (fun j k hj hne => ?_) (fun j hj hne hp hk => ?_) hc ?_ ?_ (Nat.le_trans h.lo ht.size)) rfl
  · match j, hj, hne with
    | 0, _, _ => exact Iff.rfl
    | 1, _, _ => exact Iff.rfl
    | 2, _, _ => exact Iff.rfl
    | 3, _, _ => exact Iff.rfl
    | 5, _, _ => exact Iff.rfl
    | 6, _, _ => exact Iff.rfl
    | 7, _, _ => exact Iff.rfl
    | 8, _, _ => exact Iff.rfl
    | 9, _, _ => exact Iff.rfl
  · have := part_stay hp ht.size ht.os ht.tape ht.output hk
    match j, hj, hne with
    | 0, _, _ => exact this
    | 1, _, _ => exact this
    | 2, _, _ => exact this
    | 3, _, _ => exact this
    | 5, _, _ => exact this
    | 6, _, _ => exact this
    | 7, _, _ => exact this
    | 8, _, _ => exact this
    | 9, _, _ => exact this
  · intro k hk
    rcases hk with e | e | e
    · exact .inl (.inl e)
    · exact .inl (.inr (.inl e))
    · rcases hn k e with e | e
      · exact .inl (.inr (.inr e))
      · exact .inr e
  · intro k hk
    rcases hk with e | e | e
    · exact e ▸ Nat.lt_of_lt_of_le h.ck.lt_p ht.size
    · exact e ▸ Nat.lt_of_lt_of_le h.ck.lt_o ht.size
    · exact hc.lt k e
theorem Ar.setBag (h : Ar b w col z s) {B : List En} (hd : BgTo w z.bp z.blo z.bq B w') : ArTo b w col z { s with B := B } w' := by
  obtain ⟨q, hc, hu, hq⟩ := hd
  have ht : Stay (ow z 5) w w' := hu.stay2
  refine h.to (i := 5) (fun k hk => h.own_col (i := 5) (by omega) hk) (by omega) ht (h.step (i := 5) (z' := { z with bq := q }) (by omega) ht (fun j k hj hne => ?_) (fun j hj hne hp hk => ?_) hc ?_ ?_ (Nat.le_trans h.lo ht.size)) rfl
  · match j, hj, hne with
    | 0, _, _ => exact Iff.rfl
    | 1, _, _ => exact Iff.rfl
    | 2, _, _ => exact Iff.rfl
    | 3, _, _ => exact Iff.rfl
    | 4, _, _ => exact Iff.rfl
    | 6, _, _ => exact Iff.rfl
    | 7, _, _ => exact Iff.rfl
    | 8, _, _ => exact Iff.rfl
    | 9, _, _ => exact Iff.rfl
  · have := part_stay hp ht.size ht.os ht.tape ht.output hk
    match j, hj, hne with
    | 0, _, _ => exact this
    | 1, _, _ => exact this
    | 2, _, _ => exact this
    | 3, _, _ => exact this
    | 4, _, _ => exact this
    | 6, _, _ => exact this
    | 7, _, _ => exact this
    | 8, _, _ => exact this
    | 9, _, _ => exact this
  · intro k hk
    rcases hk with e | e
    · exact .inl (.inl e)
    · rcases hq with f | f
      · exact .inl (.inr (e.trans f))
      · exact .inr (e ▸ f)
  · intro k hk
    rcases hk with e | e
    · exact e ▸ hc.lt_p
    · exact e ▸ hc.lt_q
theorem Ar.setTb (h : Ar b w col z s) {T : List Ln} (hd : TbTo w z.tp z.tm T w') : ArTo b w col z { s with T := T } w' := by
  obtain ⟨m, hc, hu, hn⟩ := hd
  have ht : Stay (ow z 6) w w' := hu
  refine h.to (i := 6) (fun k hk => h.own_col (i := 6) (by omega) hk) (by omega) ht (h.step (i := 6) (z' := { z with tm := m }) (by omega) ht (fun j k hj hne => ?_) (fun j hj hne hp hk => ?_) hc ?_ ?_ (Nat.le_trans h.lo ht.size)) rfl
  · match j, hj, hne with
    | 0, _, _ => exact Iff.rfl
    | 1, _, _ => exact Iff.rfl
    | 2, _, _ => exact Iff.rfl
    | 3, _, _ => exact Iff.rfl
    | 4, _, _ => exact Iff.rfl
    | 5, _, _ => exact Iff.rfl
    | 7, _, _ => exact Iff.rfl
    | 8, _, _ => exact Iff.rfl
    | 9, _, _ => exact Iff.rfl
  · have := part_stay hp ht.size ht.os ht.tape ht.output hk
    match j, hj, hne with
    | 0, _, _ => exact this
    | 1, _, _ => exact this
    | 2, _, _ => exact this
    | 3, _, _ => exact this
    | 4, _, _ => exact this
    | 5, _, _ => exact this
    | 7, _, _ => exact this
    | 8, _, _ => exact this
    | 9, _, _ => exact this
  · intro k hk
    exact hn k hk
  · intro k hk
    exact hc.lt hk
theorem Ar.setOd (h : Ar b w col z s) {O : List Ln} (hd : OdTo w z.op z.ov O w') : ArTo b w col z { s with O := O } w' := by
  obtain ⟨v, hc, hu, hn⟩ := hd
  have ht : Stay (ow z 7) w w' := hu
  refine h.to (i := 7) (fun k hk => h.own_col (i := 7) (by omega) hk) (by omega) ht (h.step (i := 7) (z' := { z with ov := v }) (by omega) ht (fun j k hj hne => ?_) (fun j hj hne hp hk => ?_) hc ?_ ?_ (Nat.le_trans h.lo ht.size)) rfl
  · match j, hj, hne with
    | 0, _, _ => exact Iff.rfl
    | 1, _, _ => exact Iff.rfl
    | 2, _, _ => exact Iff.rfl
    | 3, _, _ => exact Iff.rfl
    | 4, _, _ => exact Iff.rfl
    | 5, _, _ => exact Iff.rfl
    | 6, _, _ => exact Iff.rfl
    | 8, _, _ => exact Iff.rfl
    | 9, _, _ => exact Iff.rfl
  · have := part_stay hp ht.size ht.os ht.tape ht.output hk
    match j, hj, hne with
    | 0, _, _ => exact this
    | 1, _, _ => exact this
    | 2, _, _ => exact this
    | 3, _, _ => exact this
    | 4, _, _ => exact this
    | 5, _, _ => exact this
    | 6, _, _ => exact this
    | 8, _, _ => exact this
    | 9, _, _ => exact this
  · intro k hk
    exact hn k hk
  · intro k hk
    exact hc.ro.lt hk
theorem Ar.setFi (h : Ar b w col z s) {Q : List Ln} (hd : FiTo w z.lp z.lv Q w') : ArTo b w col z { s with Q := Q } w' := by
  obtain ⟨v, f, P, hc, hu, hn⟩ := hd
  have ht : Stay (ow z 8) w w' := hu
  refine h.to (i := 8) (fun k hk => h.own_col (i := 8) (by omega) hk) (by omega) ht (h.step (i := 8) (z' := { z with lv := v, lf := f, lP := P }) (by omega) ht (fun j k hj hne => ?_) (fun j hj hne hp hk => ?_) hc ?_ ?_ (Nat.le_trans h.lo ht.size)) rfl
  · match j, hj, hne with
    | 0, _, _ => exact Iff.rfl
    | 1, _, _ => exact Iff.rfl
    | 2, _, _ => exact Iff.rfl
    | 3, _, _ => exact Iff.rfl
    | 4, _, _ => exact Iff.rfl
    | 5, _, _ => exact Iff.rfl
    | 6, _, _ => exact Iff.rfl
    | 7, _, _ => exact Iff.rfl
    | 9, _, _ => exact Iff.rfl
  · have := part_stay hp ht.size ht.os ht.tape ht.output hk
    match j, hj, hne with
    | 0, _, _ => exact this
    | 1, _, _ => exact this
    | 2, _, _ => exact this
    | 3, _, _ => exact this
    | 4, _, _ => exact this
    | 5, _, _ => exact this
    | 6, _, _ => exact this
    | 7, _, _ => exact this
    | 9, _, _ => exact this
  · intro k hk
    exact hn k hk
  · intro k hk
    exact hc.lt hk
theorem Ar.setNum (h : Ar b w col z s) {on : Int} {id ver : Nat} (hd : w'.heap[z.ap]? = some (.cells (arCells z on id ver).toArray 88 (0, 0))) (hu : Stay (fun k => k = z.ap) w w') : ArTo b w col z { s with id := id, ver := ver } w' := by
  have ht : Stay (ow z 0) w w' := hu
  refine h.to (i := 0) (fun k hk => h.own_col (i := 0) (by omega) hk) (by omega) ht (h.step (i := 0) (z' := z) (by omega) ht (fun j k hj hne => ?_) (fun j hj hne hp hk => ?_) ⟨on, hd⟩ ?_ ?_ (Nat.le_trans h.lo ht.size)) rfl
  · match j, hj, hne with
    | 1, _, _ => exact Iff.rfl
    | 2, _, _ => exact Iff.rfl
    | 3, _, _ => exact Iff.rfl
    | 4, _, _ => exact Iff.rfl
    | 5, _, _ => exact Iff.rfl
    | 6, _, _ => exact Iff.rfl
    | 7, _, _ => exact Iff.rfl
    | 8, _, _ => exact Iff.rfl
    | 9, _, _ => exact Iff.rfl
  · have := part_stay hp ht.size ht.os ht.tape ht.output hk
    match j, hj, hne with
    | 1, _, _ => exact this
    | 2, _, _ => exact this
    | 3, _, _ => exact this
    | 4, _, _ => exact this
    | 5, _, _ => exact this
    | 6, _, _ => exact this
    | 7, _, _ => exact this
    | 8, _, _ => exact this
    | 9, _, _ => exact this
  · intro k hk
    exact .inl hk
  · intro k hk
    exact Nat.lt_of_lt_of_le (h.lt (i := 0) (by omega) hk) ht.size
theorem Ar.setEf (h : Ar b w col z s) {on : Int} {v : Value} {E : List Ef} (hm : w'.heap[z.ap]? = some (.cells (arCells { z with ev := v } on s.id s.ver).toArray 88 (0, 0))) (ho : w'.ownsRow 0 RE.tE RE.k v E.length (RE.enc E)) (hu : Stay (fun k => z.ev.ownBlock = some k ∨ k = z.ap) w w') (hn : ∀ k, v.ownBlock = some k → z.ev.ownBlock = some k ∨ w.heap.size ≤ k) : ArTo b w col z { s with E := E } w' := by
  have ht : Stay (fun k => ow z 9 k ∨ ow z 0 k) w w' := hu
  refine h.to (i := 9) (fun k hk => ?_) (by omega) ht (h.step2 (i := 9) (i2 := 0) (z' := { z with ev := v }) (by omega) (by omega) ht (fun j k hj hne => ?_) (fun j hj hne hne2 hp hk => ?_) ho ⟨on, hm⟩ hn ?_ (Nat.le_trans h.lo ht.size)) rfl
  · rcases hk with hk | hk
    · exact h.own_col (i := 9) (by omega) hk
    · exact h.own_col (i := 0) (by omega) hk
  · match j, hj, hne with
    | 0, _, _ => exact Iff.rfl
    | 1, _, _ => exact Iff.rfl
    | 2, _, _ => exact Iff.rfl
    | 3, _, _ => exact Iff.rfl
    | 4, _, _ => exact Iff.rfl
    | 5, _, _ => exact Iff.rfl
    | 6, _, _ => exact Iff.rfl
    | 7, _, _ => exact Iff.rfl
    | 8, _, _ => exact Iff.rfl
    | 9, _, h => exact absurd rfl h
  · have := part_stay hp ht.size ht.os ht.tape ht.output hk
    match j, hj, hne, hne2 with
    | 1, _, _, _ => exact this
    | 2, _, _, _ => exact this
    | 3, _, _, _ => exact this
    | 4, _, _, _ => exact this
    | 5, _, _, _ => exact this
    | 6, _, _, _ => exact this
    | 7, _, _, _ => exact this
    | 8, _, _, _ => exact this
    | 9, _, h, _ => exact absurd rfl h
  · intro k hk
    exact (ho.lt k hk).2
end

end Go.Proofs.YtlghphccmgmomaaGreat
