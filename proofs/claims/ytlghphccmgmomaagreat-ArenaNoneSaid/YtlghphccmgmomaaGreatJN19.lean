/-
  Proved here, joined: BagB, BagD, BagE, TableMath, SetCells
  Conditions: as each part says.
-/
import Derived.Test.YtlghphccmgmomaaGreatJN18
import Derived.Test.YtlghphccmgmomaaGreatJN1
import Derived.RangeFuncNested
import Derived.RangeFuncBound
import Derived.RangeFuncCalls
import Derived.RangeFuncLeaves
import Derived.RangeFuncBox
import Derived.Shelf.Abstract
import Derived.Shelf.RegionOpen
import Derived.WalkKit
import Derived.OwnWalkIn
import Derived.TacticsInMore
import Derived.LoopNIn
import Derived.LoopIn
import Derived.Laws.IdiomCopy
import Derived.Laws.OwnMore

/-
  Proved here: what package limbo's Put answers and leaves.
  Conditions: none.
-/
namespace Go.Proofs.YtlghphccmgmomaaGreat
open Go Go.RowKit
set_option maxRecDepth 100000

theorem turns_below {p q : Nat} {w w' : World} (h : Below w.heap.size w w') : Turns p q w w' := ⟨h.os, h.tape, h.output, h.size, fun k _ _ hk => h.block k hk⟩
/-- What a step of a bag leaves. -/
def BgTo (w : World) (p lo q : Nat) (L : List En) (w' : World) : Prop := ∃ q', BgP w' p lo q' L ∧ Turns p q w w' ∧ (q' = q ∨ w.heap.size ≤ q')
set_option maxHeartbeats 1600000 in
set_option maxRecDepth 100000 in
theorem bgput_any {w : World} {p lo q : Nat} {L : List En} (h : BgP w p lo q L) (hlo : lo ≤ w.heap.size) (e : En) :
    Calls Tryz.prog 70 #[.pointer (some ⟨p, 0, none⟩), .agg #[.int .i64 e.line, .int .i64 e.cl, .int .u64 (e.r : Nat), .int .u64 (e.d : Nat), .int .i64 e.anti]] w fun x w' => x = .returned (.int .i64 (putE L e)) ∧ BgTo w p lo q (putB L e) w' := by
  have HB : Hid (Below w.heap.size w (w.alloc (.cells #[.int .i64 e.line, .int .i64 e.cl, .int .u64 (e.r : Nat), .int .u64 (e.d : Nat), .int .i64 e.anti] 34))) := (Below.refl _ _).alloc (Nat.le_refl _) _
  have HI := Lib.hid (isentry_any e (w.alloc (.cells #[.int .i64 e.line, .int .i64 e.cl, .int .u64 (e.r : Nat), .int .u64 (e.d : Nat), .int .i64 e.anti] 34)))
  obtain ⟨A, cap, _, hA, hrd⟩ := h.reads
  have HRD := Lib.hid hrd
  have HQ : Hid (∀ w', Below w.heap.size w w' → BgTo w p lo q L w') := fun w' hb => ⟨q, h.below hb, turns_below hb, .inl rfl⟩
  rcases Classical.em e.bad with hbad | hbad
  · have hE : putE L e = 1 := by unfold putE; rw [if_pos hbad]
    have hB : putB L e = L := by unfold putB; rw [hE]; rfl
    rw [hE, hB]
    have hd : (!decide e.bad) = false := by simp [hbad]
    rw [hd] at HI
    generalize e.line = x0 at *
    generalize e.cl = x1 at *
    generalize e.anti = x4 at *
    generalize (e.r : Int) = x2 at *
    generalize (e.d : Int) = x3 at *
    clear h hrd hA hE hB hbad hd
    go_enter Tryz.func70, Tryz.ntmps70
    go_wp2_with fail
    refine HI.out.mono ?_
    rintro e w1 ⟨rfl, hb1⟩
    have HB1 : Hid (Below w.heap.size w w1) := HB.out.trans (hb1.mono HB.out.size)
    clear hb1
    go_wp2
    go_ret
    exact ⟨rfl, HQ.out _ HB1.out⟩
  · have hd : (!decide e.bad) = true := by simp [hbad]
    rw [hd] at HI
    rcases Nat.lt_or_ge L.length 258 with hlt | hge
    · have hE : putE L e = 0 := putE_ok.2 ⟨hbad, hlt⟩
      have hB : putB L e = L ++ [e] := by unfold putB; rw [hE]; rfl
      rw [hE, hB]
      obtain ⟨v, hm, hown, hne, hq⟩ := h.mem
      have HPUT : Hid (∀ wk, Below w.heap.size w wk → ∃ A2 cap2 w2, (Builtin.append_ #[143, 143] 143 #[.slice A L.length cap, .slice (some ⟨wk.heap.size, 0, none⟩) 1 1]).run Tryz.prog (wk.alloc (.cells #[.int .i64 e.line, .int .i64 e.cl, .int .u64 (e.r : Nat), .int .u64 (e.d : Nat), .int .i64 e.anti] 34)).drew = .ok (.slice A2 (L.length + 1) cap2) w2 ∧ w2.cell? ⟨p, 0, none⟩ = some (.slice A L.length cap) ∧ w2.frozen? ⟨p, 0, none⟩ = false ∧ BgTo w p lo q (L ++ [e]) (w2.setCell ⟨p, 0, none⟩ (.slice A2 (L.length + 1) cap2))) := fun wk hb => by
        have hk := h.below hb
        have hcell := (hrd w (Below.refl _ _)).1
        have hv : v = .slice A L.length cap := by
          have : w.cell? ⟨p, 0, none⟩ = some v := by simp [World.cell?, hm]
          rw [hcell] at this
          exact (Option.some.inj this).symm
        have hon : wk.drew.ownsRow lo 34 5 v L.length (encE L) := own_keep hown (below_drewN hb 1)
        obtain ⟨v', w', h1, h2, h3, h4⟩ := run_appE_one wk.drew lo v L e hon (by omega) (Nat.le_trans hlo hb.size)
        obtain ⟨_, A2, cap2, rfl, _⟩ := rowE_of_own h2 (by simp; omega)
        rw [List.length_append, List.length_singleton] at h1
        have h3w : w.grownBy w' v.ownBlock := World.grownBy.trans (grown_below (below_drewN hb 1)) h3
        obtain ⟨q', b1, b2, b3⟩ := Bg.step (w1 := w') (L' := L ++ [e]) hm hne h3w h2 (by
          rcases h4 with h4 | h4
          · exact .inl h4
          · exact .inr ⟨_, h4, by have := hb.size; show w.heap.size ≤ wk.heap.size + 1; omega⟩) (by simp; omega)
        rw [List.length_append, List.length_singleton] at b1 b2
        have hp' : w'.heap[p]? = w.heap[p]? := h3w.block p (lt_of_heap hm) (fun e => hne e.symm)
        refine ⟨A2, cap2, w', ?_, ?_, ?_, q', b1, ?_, ?_⟩
        · rw [← hv]; exact h1
        · rw [← hv]; simp [World.cell?, hp', hm]
        · simp [World.frozen?, hp', hm]
        · rw [← hq]; exact b2
        · rw [← hq]; exact b3
      have h258 : ¬ (258 : Int) ≤ (L.length : Int) := by omega
      generalize e.line = x0 at *
      generalize e.cl = x1 at *
      generalize e.anti = x4 at *
      generalize (e.r : Int) = x2 at *
      generalize (e.d : Int) = x3 at *
      generalize L.length = n at *
      clear h hrd hA hE hB hbad hd hm hown hne hq hlt HQ
      go_enter Tryz.func70, Tryz.ntmps70
      go_wp2_with fail
      refine HI.out.mono ?_
      rintro y w1 ⟨rfl, hb1⟩
      have hbx := hb1.block w.heap.size (by simp)
      have HB1 : Hid (Below w.heap.size w w1) := HB.out.trans (hb1.mono HB.out.size)
      rw [heap_alloc_new w _] at hbx
      have c0 : w1.cell? ⟨w.heap.size, 0, none⟩ = some (.int .i64 x0) := by simp [World.cell?, hbx]
      have c1 : w1.cell? ⟨w.heap.size, 1, none⟩ = some (.int .i64 x1) := by simp [World.cell?, hbx]
      have c2 : w1.cell? ⟨w.heap.size, 2, none⟩ = some (.int .u64 x2) := by simp [World.cell?, hbx]
      have c3 : w1.cell? ⟨w.heap.size, 3, none⟩ = some (.int .u64 x3) := by simp [World.cell?, hbx]
      have c4 : w1.cell? ⟨w.heap.size, 4, none⟩ = some (.int .i64 x4) := by simp [World.cell?, hbx]
      have hc := (HRD.out w1 HB1.out).1
      obtain ⟨A2, cap2, w2, e1, e2, e3, e4⟩ := HPUT.out w1 HB1.out
      have E1 := Lib.hid e1
      have E4 := Lib.hid e4
      have hb2 : Below w.heap.size w (w1.alloc (.cells #[.int .i64 x0, .int .i64 x1, .int .u64 x2, .int .u64 x3, .int .i64 x4] 34)) := HB1.out.trans ((Below.refl _ _).alloc HB1.out.size _)
      have hc2 := (HRD.out _ hb2).1
      clear e1 e4 hb1 hbx hb2
      go_wp2
      go_region_law (first
        | (refine step_app9 rfl (.tmp 22) (.tmp 24) 143 rfl rfl rfl E1.out ?_))
      all_goals
        go_wp2
        go_ret
        exact ⟨rfl, E4.out⟩
    · have hE : putE L e = 11 := by unfold putE; rw [if_neg hbad, if_pos hge]
      have hB : putB L e = L := by unfold putB; rw [hE]; rfl
      rw [hE, hB]
      have h258 : (258 : Int) ≤ (L.length : Int) := by omega
      generalize e.line = x0 at *
      generalize e.cl = x1 at *
      generalize e.anti = x4 at *
      generalize (e.r : Int) = x2 at *
      generalize (e.d : Int) = x3 at *
      generalize L.length = n at *
      clear h hrd hA hE hB hbad hd
      go_enter Tryz.func70, Tryz.ntmps70
      go_wp2_with fail
      refine HI.out.mono ?_
      rintro y w1 ⟨rfl, hb1⟩
      have HB1 : Hid (Below w.heap.size w w1) := HB.out.trans (hb1.mono HB.out.size)
      have hc := (HRD.out w1 HB1.out).1
      clear hb1
      go_wp2
      go_ret
      exact ⟨rfl, HQ.out _ HB1.out⟩

end Go.Proofs.YtlghphccmgmomaaGreat

/-
  Proved here: what package limbo's iterator over the ready entries tells its loop.
  Conditions: none.
-/
namespace Go.Proofs.YtlghphccmgmomaaGreat
open Go Go.RowKit
set_option maxRecDepth 100000

attribute [local go_sem] Oper.semAt_some
/-- What the iterator finds: its boxes, the bag and the clock. -/
structure ItE (w : World) (Bb Br Bd p lo q rp rq : Nat) (L : List En) (R : List Nat) (now D : Nat) : Prop where
  bb : Boxed w Bb 52 (.pointer (some ⟨p, 0, none⟩))
  br : Boxed w Br 48 (.pointer (some ⟨rp, 0, none⟩))
  bd : Boxed w Bd 22 (.int .u64 (D : Nat))
  bg : BgP w p lo q L
  rd : RdP w rp rq R now
theorem ItE.below {w w' : World} {Bb Br Bd p lo q rp rq : Nat} {L : List En} {R : List Nat} {now D : Nat} (h : ItE w Bb Br Bd p lo q rp rq L R now D) (hb : Below w.heap.size w w') : ItE w' Bb Br Bd p lo q rp rq L R now D :=
  ⟨(hb.block Bb h.bb.lt).trans h.bb, (hb.block Br h.br.lt).trans h.br, (hb.block Bd h.bd.lt).trans h.bd, h.bg.below hb, h.rd.below hb⟩
theorem ones5 (a b c d e : Int) : (#[.int .i64 a, .int .i64 b, .int .u64 c, .int .u64 d, .int .i64 e] : Array Value).all (·.oneCell') = true := all_oneCell_toArray (fun u hu => by
  simp only [List.mem_cons, List.not_mem_nil, or_false] at hu
  rcases hu with rfl | rfl | rfl | rfl | rfl <;> rfl)
theorem cells5 {w : World} {g : Nat} {T : TypeId} {v0 v1 v2 v3 v4 : Value} (h : w.heap[g]? = some (.cells #[v0, v1, v2, v3, v4] T (0, 0))) : w.cell? ⟨g, 0, none⟩ = some v0 ∧ w.cell? ⟨g, 1, none⟩ = some v1 ∧ w.cell? ⟨g, 2, none⟩ = some v2 ∧ w.cell? ⟨g, 3, none⟩ = some v3 ∧ w.cell? ⟨g, 4, none⟩ = some v4 := by
  refine ⟨?_, ?_, ?_, ?_, ?_⟩ <;> simp [World.cell?, h]
theorem zero_entry : (Tryz.prog.info? 34).bind (·.zero) = some (.agg #[.int .i64 0, .int .i64 0, .int .u64 0, .int .u64 0, .int .i64 0]) := by
  obtain ⟨i, hi, hz, _⟩ := entry_info'
  simp [hi, hz]
end Go.Proofs.YtlghphccmgmomaaGreat

/-
  Proved here: what package limbo's first answers.
  Conditions: none.
-/
namespace Go.Proofs.YtlghphccmgmomaaGreat
open Go Go.RowKit
set_option maxRecDepth 100000

/-- A variable that holds an entry. -/
def EBox (w : World) (g : Nat) (e : En) : Prop := w.heap[g]? = some (.cells #[.int .i64 e.line, .int .i64 e.cl, .int .u64 (e.r : Nat), .int .u64 (e.d : Nat), .int .i64 e.anti] 34 (0, 0))
def En.val (e : En) : Value := .agg #[.int .i64 e.line, .int .i64 e.cl, .int .u64 (e.r : Nat), .int .u64 (e.d : Nat), .int .i64 e.anti]
theorem EBox.load {w : World} {g : Nat} {e : En} (h : EBox w g e) : (loadVar 34 ⟨g, 0, none⟩).run Tryz.prog w = .ok e.val w :=
  run_loadVar_row (P := Tryz.prog) w g _ 34 _ _ _ h Tryz.underlying34 rfl size_entry
theorem EBox.below {w w' : World} {g B : Nat} {e : En} (h : EBox w g e) (hb : Below B w w') (hg : g < B) : EBox w' g e := (hb.block g hg).trans h
/-- What first hands back, where it lies. -/
structure Told (w : World) (g : Nat) (k : Nat) (e : En) (b : Bool) : Prop where
  c0 : Boxed w g 3 (.int .i64 (k : Nat))
  c1 : EBox w (g + 1) e
  c2 : Boxed w (g + 1 + 1) 4 (.bool b)
attribute [local go_sem] Oper.semAt_some
theorem Told.below {w w' : World} {g k B : Nat} {e : En} {b : Bool} (h : Told w g k e b) (hb : Below B w w') (hg : g + 2 < B) : Told w' g k e b :=
  ⟨(hb.block g (by omega)).trans h.c0, (hb.block (g + 1) (by omega)).trans h.c1, (hb.block (g + 1 + 1) (by omega)).trans h.c2⟩
end Go.Proofs.YtlghphccmgmomaaGreat

/-
  Proved here: links by rising keys, as lists: set, drop, get, next, buckets.
  Conditions: none.
-/
namespace Go.Proofs.YtlghphccmgmomaaGreat
open Go Go.RowKit
set_option maxRecDepth 100000

/-! ### Keys, in the order of their bytes -/
abbrev Ky := List UInt8
theorem lessK_irrefl (a : Ky) : Op.bytesLess a a = false := by
  induction a with
  | nil => rfl
  | cons x a ih => simp [Op.bytesLess, ih]
theorem lessK_trans {a b c : Ky} (h1 : Op.bytesLess a b = true) (h2 : Op.bytesLess b c = true) : Op.bytesLess a c = true := by
  induction a generalizing b c with
  | nil =>
    cases b with
    | nil => cases h1
    | cons y b =>
      cases c with
      | nil => simp [Op.bytesLess] at h2
      | cons z c => rfl
  | cons x a ih =>
    cases b with
    | nil => simp [Op.bytesLess] at h1
    | cons y b =>
      cases c with
      | nil => simp [Op.bytesLess] at h2
      | cons z c =>
        simp only [Op.bytesLess, Bool.or_eq_true, decide_eq_true_eq, Bool.and_eq_true, beq_iff_eq] at h1 h2 ⊢
        rcases h1 with h1 | ⟨rfl, h1⟩
        · rcases h2 with h2 | ⟨rfl, _⟩
          · exact .inl (UInt8.lt_trans h1 h2)
          · exact .inl h1
        · rcases h2 with h2 | ⟨rfl, h2⟩
          · exact .inl h2
          · exact .inr ⟨rfl, ih h1 h2⟩
theorem lessK_tri (a b : Ky) : Op.bytesLess a b = true ∨ a = b ∨ Op.bytesLess b a = true := by
  induction a generalizing b with
  | nil =>
    cases b with
    | nil => exact .inr (.inl rfl)
    | cons y b => exact .inl rfl
  | cons x a ih =>
    cases b with
    | nil => exact .inr (.inr rfl)
    | cons y b =>
      simp only [Op.bytesLess, Bool.or_eq_true, decide_eq_true_eq, Bool.and_eq_true, beq_iff_eq]
      rcases Nat.lt_trichotomy x.toNat y.toNat with h | h | h
      · exact .inl (.inl (UInt8.lt_iff_toNat_lt.2 h))
      · obtain rfl : x = y := UInt8.toNat_inj.1 h
        rcases ih b with h1 | rfl | h1
        · exact .inl (.inr ⟨rfl, h1⟩)
        · exact .inr (.inl rfl)
        · exact .inr (.inr (.inr ⟨rfl, h1⟩))
      · exact .inr (.inr (.inl (UInt8.lt_iff_toNat_lt.2 h)))
theorem lessK_asym {a b : Ky} (h : Op.bytesLess a b = true) : Op.bytesLess b a = false := by
  cases h2 : Op.bytesLess b a with
  | false => rfl
  | true =>
    have := lessK_trans h h2
    rw [lessK_irrefl] at this
    cases this
theorem lessK_ne {a b : Ky} (h : Op.bytesLess a b = true) : a ≠ b := fun e => by
  rw [e, lessK_irrefl] at h
  cases h
/-! ### Links by rising keys -/
structure Ln where
  k : Ky
  id : Nat
  ver : Nat
  line : Int
  cl : Int
/-- The key as a text. -/
def Ln.str (x : Ln) : ByteArray := ⟨x.k.toArray⟩
def Ln.cells (x : Ln) : List Value := [.string x.str, .int .u64 (x.id : Nat), .int .u64 (x.ver : Nat), .int .i64 x.line, .int .i64 x.cl]
def Ln.agg (x : Ln) : Value := .agg #[.string x.str, .int .u64 (x.id : Nat), .int .u64 (x.ver : Nat), .int .i64 x.line, .int .i64 x.cl]
def Ln.zero : Ln := ⟨[], 0, 0, 0, 0⟩
instance : Inhabited Ln := ⟨Ln.zero⟩
theorem Ln.agg_inj {x y : Ln} (h : x.agg = y.agg) : x = y := by
  cases x
  cases y
  simp [Ln.agg, Ln.str] at h
  obtain ⟨h1, h2, h3, h4, h5⟩ := h
  simp [h1, h4, h5, Int.ofNat_inj.1 h2, Int.ofNat_inj.1 h3]
def RisesK (L : List Ln) : Prop := L.Pairwise fun a b => Op.bytesLess a.k b.k = true
theorem risesK_nil : RisesK [] := List.Pairwise.nil
theorem risesK_one {L : List Ln} (h : RisesK L) {a b : Ln} (ha : a ∈ L) (hb : b ∈ L) (e : a.k = b.k) : a = b := by
  induction L with
  | nil => cases ha
  | cons x L ih =>
    obtain ⟨h1, h2⟩ := List.pairwise_cons.1 h
    rcases List.mem_cons.1 ha with e1 | ha'
    · rcases List.mem_cons.1 hb with e2 | hb'
      · rw [e1, e2]
      · exact absurd e (by rw [e1]; exact lessK_ne (h1 b hb'))
    · rcases List.mem_cons.1 hb with e2 | hb'
      · exact absurd e.symm (by rw [e2]; exact lessK_ne (h1 a ha'))
      · exact ih h2 ha' hb'
/-- Rising lists with the same links are the same. -/
theorem risesK_ext {L M : List Ln} (h1 : RisesK L) (h2 : RisesK M) (h : ∀ x, x ∈ L ↔ x ∈ M) : L = M := by
  induction L generalizing M with
  | nil =>
    cases M with
    | nil => rfl
    | cons y M => have := (h y).2 (by simp); cases this
  | cons x L ih =>
    cases M with
    | nil => have := (h x).1 (by simp); cases this
    | cons y M =>
      obtain ⟨a1, a2⟩ := List.pairwise_cons.1 h1
      obtain ⟨b1, b2⟩ := List.pairwise_cons.1 h2
      have hxy : x = y := by
        rcases List.mem_cons.1 ((h x).1 (by simp)) with e | hx
        · exact e
        · rcases List.mem_cons.1 ((h y).2 (by simp)) with e | hy
          · exact e.symm
          · have := lessK_asym (b1 x hx)
            rw [a1 y hy] at this
            cases this
      subst hxy
      congr 1
      refine ih a2 b2 fun z => ⟨fun hz => ?_, fun hz => ?_⟩
      · rcases List.mem_cons.1 ((h z).1 (List.mem_cons_of_mem _ hz)) with rfl | h3
        · have := a1 z hz
          rw [lessK_irrefl] at this
          cases this
        · exact h3
      · rcases List.mem_cons.1 ((h z).2 (List.mem_cons_of_mem _ hz)) with rfl | h3
        · have := b1 z hz
          rw [lessK_irrefl] at this
          cases this
        · exact h3
/-- The link of a key. -/
def getT (L : List Ln) (k : Ky) : Option Ln := L.find? fun x => x.k == k
def hasT (L : List Ln) (k : Ky) : Bool := (getT L k).isSome
def linkT (L : List Ln) (k : Ky) : Ln := (getT L k).getD Ln.zero
def dropT (L : List Ln) (k : Ky) : List Ln := L.filter fun x => !(x.k == k)
/-- A link put where its key belongs, among links of other keys. -/
def putT : List Ln → Ln → List Ln
  | [], x => [x]
  | a :: L, x => if Op.bytesLess x.k a.k then x :: a :: L else a :: putT L x
def setT (L : List Ln) (x : Ln) : List Ln := putT (dropT L x.k) x
theorem getT_some {L : List Ln} (h : RisesK L) {k : Ky} {x : Ln} : getT L k = some x ↔ x ∈ L ∧ x.k = k := by
  constructor
  · intro e
    exact ⟨List.mem_of_find?_eq_some e, by simpa using List.find?_some e⟩
  · rintro ⟨h1, h2⟩
    cases e : getT L k with
    | none =>
      have := List.find?_eq_none.1 e x h1
      simp [h2] at this
    | some y =>
      have h3 := List.mem_of_find?_eq_some e
      have h4 : y.k = k := by simpa using List.find?_some e
      rw [risesK_one h h3 h1 (h4.trans h2.symm)]
theorem getT_none {L : List Ln} {k : Ky} : getT L k = none ↔ ∀ x ∈ L, x.k ≠ k := by
  unfold getT
  rw [List.find?_eq_none]
  simp
theorem mem_dropT {L : List Ln} {k : Ky} {x : Ln} : x ∈ dropT L k ↔ x ∈ L ∧ x.k ≠ k := by simp [dropT]
theorem risesK_drop {L : List Ln} (h : RisesK L) (k : Ky) : RisesK (dropT L k) := List.Pairwise.filter _ h
theorem dropT_none {L : List Ln} {k : Ky} (h : ∀ x ∈ L, x.k ≠ k) : dropT L k = L := by
  unfold dropT
  rw [List.filter_eq_self]
  intro x hx
  simp [h x hx]
theorem mem_putT {L : List Ln} {x y : Ln} : y ∈ putT L x ↔ y = x ∨ y ∈ L := by
  induction L with
  | nil => simp [putT]
  | cons a L ih =>
    unfold putT
    split
    · simp
    · rw [List.mem_cons, ih, List.mem_cons]
      constructor
      · rintro (h | h | h)
        · exact .inr (.inl h)
        · exact .inl h
        · exact .inr (.inr h)
      · rintro (h | h | h)
        · exact .inr (.inl h)
        · exact .inl h
        · exact .inr (.inr h)
theorem putT_len (L : List Ln) (x : Ln) : (putT L x).length = L.length + 1 := by
  induction L with
  | nil => rfl
  | cons a L ih =>
    unfold putT
    split
    · rfl
    · rw [List.length_cons, List.length_cons, ih]
theorem risesK_put {L : List Ln} (h : RisesK L) {x : Ln} (hx : ∀ a ∈ L, a.k ≠ x.k) : RisesK (putT L x) := by
  induction L with
  | nil => exact List.pairwise_singleton _ _
  | cons a L ih =>
    obtain ⟨h1, h2⟩ := List.pairwise_cons.1 h
    unfold putT
    split
    · rename_i hl
      refine List.pairwise_cons.2 ⟨fun b hb => ?_, h⟩
      rcases List.mem_cons.1 hb with rfl | hb
      · exact hl
      · exact lessK_trans hl (h1 b hb)
    · rename_i hl
      refine List.pairwise_cons.2 ⟨fun b hb => ?_, ih h2 (fun b hb => hx b (List.mem_cons_of_mem _ hb))⟩
      rcases mem_putT.1 hb with rfl | hb
      · rcases lessK_tri a.k b.k with h3 | h3 | h3
        · exact h3
        · exact absurd h3 (hx a (by simp))
        · exact absurd h3 hl
      · exact h1 b hb
theorem risesK_set {L : List Ln} (h : RisesK L) (x : Ln) : RisesK (setT L x) := risesK_put (risesK_drop h _) fun _ ha => (mem_dropT.1 ha).2
theorem mem_setT {L : List Ln} {x y : Ln} : y ∈ setT L x ↔ y = x ∨ y ∈ L ∧ y.k ≠ x.k := by
  unfold setT
  rw [mem_putT, mem_dropT]
theorem dropT_len {L : List Ln} (h : RisesK L) (k : Ky) : (dropT L k).length = if hasT L k then L.length - 1 else L.length := by
  induction L with
  | nil => rfl
  | cons a L ih =>
    obtain ⟨h1, h2⟩ := List.pairwise_cons.1 h
    rcases Classical.em (a.k = k) with e | e
    · have hn : dropT L k = L := dropT_none fun x hx => by rw [← e]; exact fun e2 => lessK_ne (h1 x hx) e2.symm
      have hh : hasT (a :: L) k = true := by simp [hasT, getT, e]
      rw [hh]
      have : dropT (a :: L) k = dropT L k := by simp [dropT, e]
      rw [this, hn]
      simp
    · have hh : hasT (a :: L) k = hasT L k := by simp [hasT, getT, e]
      have : dropT (a :: L) k = a :: dropT L k := by simp [dropT, e]
      rw [hh, this, List.length_cons, ih h2]
      split
      · rename_i h3
        have : 0 < L.length := by
          cases L with
          | nil => simp [hasT, getT] at h3
          | cons b L => simp
        simp
        omega
      · rfl
/-! ### Buckets -/
/-- The links of one bucket. bk: the bucket of a key. -/
def partT (bk : Ky → Nat) (L : List Ln) (b : Nat) : List Ln := L.filter fun x => bk x.k == b
theorem mem_partT {bk : Ky → Nat} {L : List Ln} {b : Nat} {x : Ln} : x ∈ partT bk L b ↔ x ∈ L ∧ bk x.k = b := by simp [partT]
theorem risesK_part {L : List Ln} (h : RisesK L) (bk : Ky → Nat) (b : Nat) : RisesK (partT bk L b) := List.Pairwise.filter _ h
theorem partT_set {L : List Ln} (h : RisesK L) (bk : Ky → Nat) (x : Ln) (b : Nat) : partT bk (setT L x) b = if bk x.k = b then setT (partT bk L b) x else partT bk L b := by
  split
  · rename_i e
    refine risesK_ext (risesK_part (risesK_set h x) bk b) (risesK_set (risesK_part h bk b) x) fun y => ?_
    rw [mem_partT, mem_setT, mem_setT, mem_partT]
    constructor
    · rintro ⟨rfl | ⟨h1, h2⟩, h3⟩
      · exact .inl rfl
      · exact .inr ⟨⟨h1, h3⟩, h2⟩
    · rintro (rfl | ⟨⟨h1, h3⟩, h2⟩)
      · exact ⟨.inl rfl, e⟩
      · exact ⟨.inr ⟨h1, h2⟩, h3⟩
  · rename_i e
    refine risesK_ext (risesK_part (risesK_set h x) bk b) (risesK_part h bk b) fun y => ?_
    rw [mem_partT, mem_setT, mem_partT]
    constructor
    · rintro ⟨rfl | ⟨h1, _⟩, h3⟩
      · exact absurd h3 e
      · exact ⟨h1, h3⟩
    · rintro ⟨h1, h3⟩
      exact ⟨.inr ⟨h1, fun e2 => e (by rw [← e2]; exact h3)⟩, h3⟩
theorem partT_drop {L : List Ln} (h : RisesK L) (bk : Ky → Nat) (k : Ky) (b : Nat) : partT bk (dropT L k) b = if bk k = b then dropT (partT bk L b) k else partT bk L b := by
  split
  · refine risesK_ext (risesK_part (risesK_drop h k) bk b) (risesK_drop (risesK_part h bk b) k) fun y => ?_
    rw [mem_partT, mem_dropT, mem_dropT, mem_partT]
    constructor
    · rintro ⟨⟨h1, h2⟩, h3⟩; exact ⟨⟨h1, h3⟩, h2⟩
    · rintro ⟨⟨h1, h3⟩, h2⟩; exact ⟨⟨h1, h2⟩, h3⟩
  · rename_i e
    refine risesK_ext (risesK_part (risesK_drop h k) bk b) (risesK_part h bk b) fun y => ?_
    rw [mem_partT, mem_dropT, mem_partT]
    constructor
    · rintro ⟨⟨h1, _⟩, h3⟩; exact ⟨h1, h3⟩
    · rintro ⟨h1, h3⟩; exact ⟨⟨h1, fun e2 => e (by rw [← e2]; exact h3)⟩, h3⟩
theorem getT_part {L : List Ln} (h : RisesK L) (bk : Ky → Nat) (k : Ky) : getT (partT bk L (bk k)) k = getT L k := by
  cases e : getT L k with
  | none => exact getT_none.2 fun y hy => getT_none.1 e y (mem_partT.1 hy).1
  | some y =>
    obtain ⟨h1, h2⟩ := (getT_some h).1 e
    exact (getT_some (risesK_part h bk _)).2 ⟨mem_partT.2 ⟨h1, by rw [h2]⟩, h2⟩
end Go.Proofs.YtlghphccmgmomaaGreat

/-
  Proved here: cells written one behind the other in a block; copies and clears whose run is known.
  Conditions: none.
-/
namespace Go.Proofs.YtlghphccmgmomaaGreat
open Go Go.RowKit
set_option maxRecDepth 100000

/-! ### Cells written one behind the other -/
theorem toList_set (cur : Array Value) (o : Nat) (v : Value) (rest : List Value) (h : o + (v :: rest).length ≤ cur.size) :
    (cur.setIfInBounds o v).toList.take (o + 1) ++ rest ++ (cur.setIfInBounds o v).toList.drop (o + 1 + rest.length) = cur.toList.take o ++ v :: rest ++ cur.toList.drop (o + (v :: rest).length) := by
  simp only [List.length_cons] at h ⊢
  rw [Array.toList_setIfInBounds]
  have hl : o < cur.toList.length := by simp; omega
  rw [List.drop_set_of_lt (by omega), List.take_set, List.take_add_one, List.getElem?_eq_getElem hl]
  rw [show o + 1 + rest.length = o + (rest.length + 1) by omega]
  have ht : (cur.toList.take o).length = o := by rw [List.length_take]; omega
  have : (cur.toList.take o ++ (some cur.toList[o]).toList).set o v = cur.toList.take o ++ [v] := by
    rw [List.set_append_right _ _ (by omega), ht]
    simp
  rw [this]
  simp
theorem heap_setCells (T : TypeId) (g : Nat) : ∀ (vs : List Value) (o : Nat) (w : World) (cur : Array Value), w.heap[g]? = some (.cells cur T (0, 0)) → o + vs.length ≤ cur.size →
    ∃ cur', (w.setCells g o vs).heap[g]? = some (.cells cur' T (0, 0)) ∧ cur'.toList = cur.toList.take o ++ vs ++ cur.toList.drop (o + vs.length) ∧ cur'.size = cur.size
  | [], o, w, cur, h, _ => ⟨cur, h, by simp, rfl⟩
  | v :: vs, o, w, cur, h, hl => by
    have h1 := heap_setCell_same w g o cur T v h
    obtain ⟨cur', h2, h3, h4⟩ := heap_setCells T g vs (o + 1) (w.setCell ⟨g, o, none⟩ v) _ h1 (by simp at hl ⊢; omega)
    exact ⟨cur', h2, by rw [h3]; exact toList_set cur o v vs hl, by rw [h4]; simp⟩
theorem setCells_other (g : Nat) : ∀ (vs : List Value) (o : Nat) (w : World) (k : Nat), k ≠ g → (w.setCells g o vs).heap[k]? = w.heap[k]?
  | [], _, _, _, _ => rfl
  | _ :: vs, o, _, k, h => (setCells_other g vs (o + 1) _ k h).trans (Below.heap_setCell _ _ _ _ h)
theorem setCells_rest (g : Nat) : ∀ (vs : List Value) (o : Nat) (w : World), (w.setCells g o vs).os = w.os ∧ (w.setCells g o vs).tape = w.tape ∧ (w.setCells g o vs).output = w.output ∧ (w.setCells g o vs).heap.size = w.heap.size
  | [], _, _ => ⟨rfl, rfl, rfl, rfl⟩
  | v :: vs, o, w => by
    obtain ⟨h1, h2, h3, h4⟩ := setCells_rest g vs (o + 1) (w.setCell ⟨g, o, none⟩ v)
    exact ⟨h1, h2, h3, h4.trans (by simp [World.setCell])⟩
theorem grown_setCells (g : Nat) (vs : List Value) (o : Nat) (w : World) : w.grownBy (w.setCells g o vs) (some g) := by
  obtain ⟨h1, h2, h3, h4⟩ := setCells_rest g vs o w
  exact ⟨h1, h2, h3, by rw [h4]; exact Nat.le_refl _, fun k _ hk => setCells_other g vs o w k (fun e => hk (by rw [e]))⟩
theorem cell_some {w : World} {g : Nat} {T : TypeId} {cur : Array Value} (h : w.heap[g]? = some (.cells cur T (0, 0))) {j : Nat} (hj : j < cur.size) : (w.cell? ⟨g, j, none⟩).isSome = true := by
  simp [World.cell?, h, hj]
theorem own_same {w w' : World} {base size n : Nat} {e : TypeId} {u : Value} {xs : List Value} (h : w.ownsRow base e size u n xs) (hs : ∀ k, u.ownBlock = some k → w'.heap[k]? = w.heap[k]?) : w'.ownsRow base e size u n xs := by
  refine ⟨h.1, h.2.imp id ?_⟩
  rintro ⟨g, cap, cur, rfl, h2, h3, h4⟩
  exact ⟨g, cap, cur, rfl, h2, (hs g rfl).trans h3, h4⟩
theorem step_copyL {P : Program} {ops : Array Oper} {o : Oper} {a : Act} {K : Act → World → Prop} {Q : Exit → Act → World → Prop} {E : Prop} (hgd : o.guard = none) (s x : Operand) (t : TypeId)
    (ho : o.op = .call { callee := .builtin .copy, args := #[s, x], argTypes := #[t, t] }) {w w' : World} {v V v' : Value} (hs : a.eval s = v) (hx : a.eval x = V)
    (hrun : (Builtin.copy_ #[t, t] o.type #[v, V]).run P w = .ok v' w') (h : K (a.put o.dst v') w') : if Region.wanted o (yielded ops a.tmps) = true then Oper.wp P o a w K Q else E := by
  have hw : Region.wanted o (yielded ops a.tmps) = true := by simp [Region.wanted, hgd]
  rw [if_pos hw]
  unfold Oper.wp execOp
  simp only [ho, resolve, invoke, builtin, Sem.run_bind, Sem.run_pure, Result.andThen_ok, List.map_toArray, List.map_cons, List.map_nil, hs, hx, hrun]
  exact h
/-- A look-up whose run is known. -/
theorem wpList_look {P : Program} {ops : Array Oper} {rest : List Oper} {o : Oper} {a : Act} {Q : Exit → Act → World → Prop} (hgd : o.guard = none) (s x : Operand) (t : TypeId) (c : Bool)
    (ho : o.op = .lookup t s x c) {w w' : World} {v V v' : Value} (hs : a.eval s = v) (hx : a.eval x = V)
    (hrun : (Instr.lookup t v V c).run P w = .ok v' w') (h : wpList P ops Q rest (a.put o.dst v') w') : wpList P ops Q (o :: rest) a w :=
  wpList_plain hgd fun _ hK => by
    unfold Oper.wp execOp
    simp only [ho, Sem.run_bind, Sem.run_pure, Result.andThen_ok, hs, hx, hrun]
    exact hK _ _ h

end Go.Proofs.YtlghphccmgmomaaGreat
