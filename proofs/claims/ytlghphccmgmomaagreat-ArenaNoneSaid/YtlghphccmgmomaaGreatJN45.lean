/-
  Proved here, joined: EfaA16, ArXA16
  Conditions: as each part says.
-/
import Derived.Test.YtlghphccmgmomaaGreatJN44

/-
  Proved here: an effect more, package arena.
  Conditions: less than 2^20 effects.
-/
namespace Go.Proofs.YtlghphccmgmomaaGreat
open Go Go.RowKit
set_option maxRecDepth 100000

open Classical
section
variable {b : Nat} {w w' : World} {col : Nat → Nat} {z : Pz} {s : Az}
/-- An effect more. -/
theorem ef_append (h : Ar b w col z s) (x : Ef) (hE : s.E.length < 1048576) (ty : TypeId) : ∃ v' w', (Builtin.append_ #[RE.tS, RE.tS] ty #[z.ev, .slice (some ⟨w.heap.size, 0, none⟩) 1 1]).run Tryz.prog (w.alloc (.cells (RE.cells x).toArray RE.tE)) = .ok v' w' ∧
    (∃ u, w'.cell? ⟨z.ap, 13, none⟩ = some u) ∧ w'.frozen? ⟨z.ap, 13, none⟩ = false ∧ (∃ A m c, v' = .slice A m c) ∧ ArTo b w col z { s with E := s.E ++ [x] } (w'.setCell ⟨z.ap, 13, none⟩ v') := by
  obtain ⟨v', w', h1, h2, h3, h4, -⟩ := RE.run_app_one w 0 s.E.length z.ev s.E x h.ef hE (Nat.zero_le _) ty
  obtain ⟨on, hme⟩ := h.me
  have hap : z.ap < w.heap.size := lt_of_heap hme
  have hne : z.ev.ownBlock ≠ some z.ap := fun e => by
    have k1 := h.cl 0 z.ap (by omega) rfl
    have k2 := h.cl 9 z.ap (by omega) e
    omega
  have hme' : w'.heap[z.ap]? = some (.cells (arCells z on s.id s.ver).toArray 88 (0, 0)) := (h3.block z.ap hap (fun e => hne e.symm)).trans hme
  have hnv : v'.ownBlock ≠ some z.ap := fun e => by
    rcases h4 with k | k
    · exact hne (k ▸ e)
    · rw [k] at e
      have := Option.some.inj e
      omega
  refine ⟨v', w', h1, ⟨z.ev, (me_at hme' 13).1⟩, (me_at hme' 13).2, by rcases h2.2 with ⟨e, _⟩ | ⟨_, _, _, e, _⟩ <;> exact ⟨_, _, _, e⟩, ?_⟩
  refine h.setEf (on := on) (v := v') ?_ ?_ ?_ ?_
  · have := heap_setCell_same w' z.ap 13 _ _ v' hme'
    simpa [arCells, onceCells] using this
  · rw [List.length_append]
    refine own_same h2 fun k hk => Below.heap_setCell _ _ _ _ (fun e => hnv (hk.trans (congrArg some e)))
  · refine Stay.trans (b := w') ⟨h3.os, h3.tape, h3.output, h3.size, fun k hk hl => h3.block k hl (fun e => hk (.inl e.symm))⟩ (Stay.setCell _ _ _ _ (.inr rfl))
  · intro k hk
    rcases h4 with e | e
    · exact .inl (e ▸ hk)
    · rw [e] at hk
      have := Option.some.inj hk
      exact .inr (by omega)
end

end Go.Proofs.YtlghphccmgmomaaGreat

/-
  Proved here: an arena beside blocks that are written into; bools in a slice; what perform makes of an arena.
  Conditions: none.
-/
namespace Go.Proofs.YtlghphccmgmomaaGreat
open Go Go.RowKit
set_option maxRecDepth 100000

open Classical
section
variable {b : Nat} {w w' w1 w2 : World} {col : Nat → Nat} {z : Pz} {s s1 s2 : Az} {F : Nat → Prop}
/-- What steps of the arena and writes into the blocks F, which are not the arena's, leave. -/
structure ArX (b : Nat) (w : World) (col : Nat → Nat) (z : Pz) (F : Nat → Prop) (s' : Az) (w' : World) : Prop where
  ar : ∃ col' z', Ar b w' col' z' s' ∧ z'.base = z.base ∧ (∀ k, k < w.heap.size → col' k = col k) ∧ (∀ k, w.heap.size ≤ k → col' k = 0 ∨ (b < col' k ∧ col' k ≤ b + 10))
  st : Stay (fun k => (b < col k ∧ col k ≤ b + 10) ∨ F k) w w'
theorem ArX.refl (h : Ar b w col z s) (hb : Below w.heap.size w w') : ArX b w col z F s w' :=
  ⟨⟨col, z, h.below hb, rfl, fun _ _ => rfl, fun k hk => .inl (h.nw k hk)⟩, Stay.of_below hb⟩
theorem ArX.arto (k : ArX b w col z F s1 w1) {col1 : Nat → Nat} {z1 : Pz} (hz : z1.base = z.base) (hc : ∀ k, k < w.heap.size → col1 k = col k) (hn : ∀ k, w.heap.size ≤ k → col1 k = 0 ∨ (b < col1 k ∧ col1 k ≤ b + 10)) (h : ArTo b w1 col1 z1 s2 w2) : ArX b w col z F s2 w2 := by
  obtain ⟨⟨c3, z3, h3, hz3, h4, h5⟩, h6⟩ := h
  have hs := k.st
  refine ⟨⟨c3, z3, h3, hz3.trans hz, fun j hj => (h4 j (Nat.lt_of_lt_of_le hj hs.size)).trans (hc j hj), fun j hj => ?_⟩, ⟨h6.os.trans hs.os, h6.tape.trans hs.tape, h6.output.trans hs.output, Nat.le_trans hs.size h6.size, fun j hj hl => (h6.block j (fun e => hj (.inl (by rw [hc j hl] at e; exact e))) (Nat.lt_of_lt_of_le hl hs.size)).trans (hs.block j hj hl)⟩⟩
  rcases Nat.lt_or_ge j w1.heap.size with h7 | h7
  · rw [h4 j h7]; exact hn j hj
  · exact h5 j h7
/-- A method behind. -/
theorem ArX.next (h1 : ArX b w col z F s1 w1) {f : FuncId} {args : Array Value} {P : Ending → Prop} (h : ∀ col' z', Ar b w1 col' z' s1 → z'.base = z.base → Calls Tryz.prog f args w1 fun e w2 => P e ∧ ArTo b w1 col' z' s2 w2) :
    Calls Tryz.prog f args w1 fun e w2 => P e ∧ ArX b w col z F s2 w2 := by
  obtain ⟨col', z', har, hz, hc, hn⟩ := h1.ar
  refine (h col' z' har hz).mono ?_
  rintro e w2 ⟨hp, k⟩
  exact ⟨hp, h1.arto hz hc hn k⟩
theorem ArX.belowR (h1 : ArX b w col z F s1 w1) (hb : Below w1.heap.size w1 w2) : ArX b w col z F s1 w2 := by
  obtain ⟨col', z', har, hz, hc, hn⟩ := h1.ar
  exact h1.arto hz hc hn (ArTo.refl har hb)
/-- A write into blocks that are not the arena's. -/
theorem ArX.put (h1 : ArX b w col z F s1 w1) (hF : ∀ k, F k → k < w.heap.size ∧ col k = 0) (hs : Stay F w1 w2) : ArX b w col z F s1 w2 := by
  obtain ⟨col', z', har, hz, hc, hn⟩ := h1.ar
  have hk : ∀ i k, i < 10 → ow z' i k → w2.heap[k]? = w1.heap[k]? := fun i k hi ho => hs.block k (fun e => by
    have := hF k e
    have h2 := har.cl i k hi ho
    rw [hc k this.1, this.2] at h2
    omega) (har.lt hi ho)
  refine ⟨⟨col', z', ar_of (fun i hi => part_stay (har.part i) hs.size hs.os hs.tape hs.output (fun k ho => hk i k hi ho)) (fun i k hi ho => har.cl i k hi ho) (fun k hk => har.nw k (Nat.le_trans hs.size hk)) (Nat.le_trans har.lo hs.size), hz, hc, hn⟩, ?_⟩
  exact h1.st.trans ⟨hs.os, hs.tape, hs.output, hs.size, fun k hk hl => hs.block k (fun e => hk (.inr e)) hl⟩
/-- A block that is not the arena's and is not written into stays. -/
theorem ArX.free (k : ArX b w col z F s2 w2) {g : Nat} (hg : ¬ (b < col g ∧ col g ≤ b + 10)) (hF : ¬ F g) (hl : g < w.heap.size) : w2.heap[g]? = w.heap[g]? :=
  k.st.block g (fun e => e.elim hg hF) hl
theorem ArX.at_ {s' : Az} (h : ArX b w col z F s' w') : w'.cell? ⟨z.ap, 0, none⟩ = some (.pointer (some ⟨z.dp, 0, none⟩)) ∧ w'.cell? ⟨z.ap, 4, none⟩ = some (.pointer (some ⟨z.pp, 0, none⟩)) ∧ w'.cell? ⟨z.ap, 5, none⟩ = some (.pointer (some ⟨z.rp, 0, none⟩)) ∧ w'.cell? ⟨z.ap, 6, none⟩ = some (.pointer (some ⟨z.cp, 0, none⟩)) ∧ w'.cell? ⟨z.ap, 7, none⟩ = some (.pointer (some ⟨z.bp, 0, none⟩)) ∧ w'.cell? ⟨z.ap, 8, none⟩ = some (.pointer (some ⟨z.tp, 0, none⟩)) ∧ w'.cell? ⟨z.ap, 9, none⟩ = some (.pointer (some ⟨z.op, 0, none⟩)) ∧ w'.cell? ⟨z.ap, 10, none⟩ = some (.pointer (some ⟨z.lp, 0, none⟩)) := by
  obtain ⟨col', z', har, hz, hc, hn⟩ := h.ar
  have := (ArTo.refl har (Below.refl _ _)).at_
  obtain ⟨e1, e2, -, e4, -, e6, -, e8, -, e10, e11, e12, e13⟩ := base_eq hz
  rw [e1, e2, e4, e6, e8, e10, e11, e12, e13] at this
  exact this
/-- Writes into blocks that were made since are nothing to what was there. -/
theorem ArX.since (h : Ar b w col z s) (hb : Below w.heap.size w w1) (k : ArX b w1 col z F s2 w2) (hF : ∀ g, F g → w.heap.size ≤ g) : ArTo b w col z s2 w2 := by
  obtain ⟨col', z', har, hz, hc, hn⟩ := k.ar
  refine ⟨⟨col', z', har, hz, fun j hj => hc j (Nat.lt_of_lt_of_le hj hb.size), fun j hj => ?_⟩, ?_⟩
  · rcases Nat.lt_or_ge j w1.heap.size with h1 | h1
    · exact .inl ((hc j h1).trans (h.nw j hj))
    · exact hn j h1
  · have h1 := k.st
    exact ⟨h1.os.trans hb.os, h1.tape.trans hb.tape, h1.output.trans hb.output, Nat.le_trans hb.size h1.size, fun j hj hl => (h1.block j (fun e => e.elim hj (fun f => by have := hF j f; omega)) (Nat.lt_of_lt_of_le hl hb.size)).trans (hb.block j hl)⟩
end
/-! ### Bools in a slice; what perform makes of the arena -/
theorem bool_info16 : (Tryz.prog.info? 4).map (fun i => (i.zero, i.size, i.bytes)) = some (some (.bool false), 1, 1) := by kernel_rfl
def RBo : Rec Bool where
  tE := 4
  tS := 24
  k := 1
  by_ := 1
  zv := .bool false
  cells := fun b => [.bool b]
  hk := by omega
  klen := fun _ => rfl
  one := fun x u hu => by
    simp only [List.mem_cons, List.not_mem_nil, or_false] at hu
    rw [hu]
    rfl
  und := Tryz.underlying24
  info := by
    obtain ⟨i, h1, h2⟩ := Option.map_eq_some_iff.1 bool_info16
    simp only [Prod.mk.injEq] at h2
    exact ⟨i, h1, h2.1, h2.2.1, h2.2.2⟩
  zk := by kernel_rfl
  small := by omega
def hitH (c : Ch) : Bool := c.had && c.kd != 4
/-- What one change makes of the arena. -/
noncomputable def prf (s : Az) (t : Int) (gp : Nat) (c : Ch) (x : BV) : Az :=
  if needH c then { lnkS (wrS16 s t c.line x (spanN x.cl)) c x with E := s.E ++ [effH c x gp] } else s
/-- What the first k changes make of it. -/
noncomputable def prfN (s : Az) (t : Int) (gp : Nat) (G : List Ch) (N : List BV) : Nat → Az
  | 0 => s
  | k + 1 => match G[k]?, N[k]? with
    | some c, some x => prf (prfN s t gp G N k) t gp c x
    | _, _ => prfN s t gp G N k

end Go.Proofs.YtlghphccmgmomaaGreat
