/-
  Proved here: what slices.Sort leaves of a row of texts, and slices.SortFunc of a row of links, by the program's own comparison.
  Conditions: rows of at most 2^20.
-/
import Derived.Test.YtjehklmbgldfpaaTabMem
import Derived.Test.YtjehklmbgldfpaaCmp12
import Derived.Test.YtjehklmbgldfpaaLay12
import Derived.Sort.OwnSorted
import Derived.Sort.KeysCollected
namespace Go.Proofs.Ytjehklmbgldfpaa
open Go Go.RowKit
set_option maxRecDepth 100000

open Go.Proofs
/-! ### slices.Sort at texts -/
theorem sortS_own {w : World} {base g cap n : Nat} {ss : List Ky} (hn : ss.length = n) (h : w.ownsRow base 9 1 (.slice (some ⟨g, 0, none⟩) n cap) n (ss.map encStr)) (hl : n ≤ 1048576) :
    Calls Try.prog 33 #[.slice (some ⟨g, 0, none⟩) n cap] w fun e w' => e = .returned (.tuple #[]) ∧ w'.ownsRow base 9 1 (.slice (some ⟨g, 0, none⟩) n cap) n ((ss.mergeSort leB).map encStr) ∧ w.grownBy w' (some g) := by
  subst hn
  rcases h.2 with ⟨e, _⟩ | ⟨g2, cap2, cur, e, hbase, hb, h1, h2, h3, h4⟩
  · cases e
  · cases e
    refine (AnyM.slices_Sort_string laySort g 0 cap ss w (holds_of_block hb (by simpa using h4)) (lt_of_heap hb) (by omega)).mono ?_
    rintro e w' ⟨he, n, os, rfl⟩
    exact ⟨he, ownsRow_sorted (by simp) hbase hb h1 h2 h3, grownBy_sorted _⟩

/-! ### slices.SortFunc at links -/
theorem cmp_lt (a b : Ky) : decide (Lib.compareBytes a b < 0) = Op.bytesLess a b := by
  induction a generalizing b with
  | nil => cases b <;> rfl
  | cons x a ih =>
    cases b with
    | nil => rfl
    | cons y b =>
      unfold Lib.compareBytes Op.bytesLess
      by_cases h1 : x < y
      · simp [h1]
      · by_cases h2 : y < x
        · have : (x == y) = false := by
            rw [beq_eq_false_iff_ne]
            rintro rfl
            exact h1 h2
          simp [h1, h2, this]
        · have : x = y := UInt8.toNat_inj.1 (by have a : ¬ x.toNat < y.toNat := fun h => h1 (UInt8.lt_iff_toNat_lt.2 h); have b : ¬ y.toNat < x.toNat := fun h => h2 (UInt8.lt_iff_toNat_lt.2 h); omega)
          subst this
          simp [h1, ih]
def cfL (x y : Ln) : Int := Lib.compareBytes x.k y.k
theorem cfL_lt (x y : Ln) : ltOf cfL x y = Op.bytesLess x.k y.k := cmp_lt _ _
theorem cfL_swo : Go.Sort.SWO (ltOf cfL) where
  irrefl x := by rw [cfL_lt]; exact lessK_irrefl _
  trans x y z h1 h2 := by rw [cfL_lt] at *; exact lessK_trans h1 h2
  ntrans x y z h1 h2 := by
    rw [cfL_lt] at *
    cases h3 : Op.bytesLess x.k z.k with
    | false => rfl
    | true =>
      rcases lessK_tri x.k y.k with h | h | h
      · rw [h] at h1; cases h1
      · rw [h, h2] at h3; cases h3
      · have := lessK_trans h h3
        rw [h2] at this; cases this
set_option maxHeartbeats 1000000 in
theorem allcmp_any (x y : Ln) (w : World) : Calls Try.prog 30 #[.agg #[.string x.str, .int .u64 (x.id : Nat), .int .u64 (x.ver : Nat), .int .i64 x.line, .int .i64 x.cl], .agg #[.string y.str, .int .u64 (y.id : Nat), .int .u64 (y.ver : Nat), .int .i64 y.line, .int .i64 y.cl]] w fun e w' => e = .returned (.int .i64 (cfL x y)) ∧ ∃ q os', w' = Go.Sort.grow (w.drewN q) os' := by
  have HC : Hid (∀ w', Calls Try.prog 31 #[.string x.str, .string y.str] w' fun e w2 => e = .returned (.int .i64 (cfL x y)) ∧ w2 = w') := fun w' => strcmp_any x.str y.str w'
  generalize cfL x y = r at *
  generalize x.str = s0 at *
  generalize y.str = t0 at *
  generalize (x.id : Int) = s1 at *
  generalize (y.id : Int) = t1 at *
  generalize (x.ver : Int) = s2 at *
  generalize (y.ver : Int) = t2 at *
  generalize x.line = s3 at *
  generalize y.line = t3 at *
  generalize x.cl = s4 at *
  generalize y.cl = t4 at *
  go_enter Try.func30, Try.ntmps30
  go_wp2_with (go_at_call 31; refine (HC.out _).mono ?_; rintro e w' ⟨rfl, rfl⟩)
  go_ret
  exact ⟨rfl, 0, _, by rw [Go.Sort.alloc_eq_grow, Go.Sort.alloc_eq_grow, Go.Sort.grow_grow]; rfl⟩
theorem cmpLays_any (blk off size : Nat) (w : World) : CmpLays Try.prog 30 #[] Ln.cells 5 cfL blk off size w :=
  fun _ _ _ _ x y => allcmp_any x y _
theorem flatL (M : List Ln) : Go.Sort.flatK Ln.cells 5 M.toArray = (encL M).toArray := by
  refine Go.Sort.ext_get! (by simp [encL_len]) fun t ht => ?_
  have ht' : t < M.length * 5 := by simpa using ht
  rw [Go.Sort.get_flatK _ _ _ t (by simpa using ht')]
  have hi : t / 5 < M.length := by omega
  have h1 := encL_at M [] (List.getElem?_eq_getElem hi) (t % 5) (by omega)
  rw [List.append_nil, show t / 5 * 5 + t % 5 = t by omega] at h1
  have hlen : t < (encL M).length := by rw [encL_len]; exact ht'
  have h2 : (encL M).toArray[t]! = (encL M)[t] := by simp [hlen]
  have h3 : M.toArray[t / 5]! = M[t / 5] := by simp [hi]
  rw [List.getElem?_eq_getElem hlen] at h1
  rw [h2, h3, List.getElem!_eq_getElem?_getD, ← h1]
  rfl
theorem all_sorted {M M' : List Ln} (hr : RisesK M) (hp : M'.Perm M) (hs : ∀ i j (hi : i < M'.length) (hj : j < M'.length), i < j → Op.bytesLess M'[j].k M'[i].k = false) : M' = M := by
  refine risesK_ext ?_ hr fun x => hp.mem_iff
  refine List.pairwise_iff_getElem.2 fun i j hi hj hij => ?_
  rcases lessK_tri M'[i].k M'[j].k with h | h | h
  · exact h
  · exfalso
    have h1 : M'[i] ∈ M := hp.mem_iff.1 (List.getElem_mem hi)
    have h2 : M'[j] ∈ M := hp.mem_iff.1 (List.getElem_mem hj)
    have e := risesK_one hr h1 h2 h
    have hnd : M.Nodup := hr.imp fun {a b} hab e => by rw [e, lessK_irrefl] at hab; cases hab
    have hnd' : M'.Nodup := hp.symm.nodup hnd
    exact List.pairwise_iff_getElem.1 hnd' i j hi hj hij e
  · rw [hs i j hi hj hij] at h
    cases h
theorem sortL_own {w : World} {base g cap n : Nat} {M N : List Ln} (hn : M.length = n) (h : w.ownsRow base 33 5 (.slice (some ⟨g, 0, none⟩) n cap) n (encL M)) (hl : n ≤ 1048576) (hr : RisesK N) (hp : M.Perm N) :
    Calls Try.prog 29 #[.slice (some ⟨g, 0, none⟩) n cap, .func (.func 30) #[] #[]] w fun e w' => e = .returned (.tuple #[]) ∧ w'.ownsRow base 33 5 (.slice (some ⟨g, 0, none⟩) n cap) n (encL N) ∧ w.grownBy w' (some g) := by
  subst hn
  rcases h.2 with ⟨e, _⟩ | ⟨g2, cap2, cur, e, hbase, hb, h1, h2, h3, h4⟩
  · cases e
  · cases e
    have eg : ∀ args w, (callFunc 30 args).run Try.prog w = .ok (.enter 30 args) w := enters_of Try.func30 (by kernel_rfl) rfl
    have hcl : ∀ x : Ln, ∀ v ∈ x.cells, v.oneCell' = true := fun x v hv => by
      simp only [Ln.cells, List.mem_cons, List.not_mem_nil, or_false] at hv
      rcases hv with rfl | rfl | rfl | rfl | rfl <;> rfl
    have hH : Go.Sort.HoldsK Ln.cells 5 w g 0 M.toArray := by
      show Go.Sort.Holds id w g 0 (Go.Sort.flatK Ln.cells 5 M.toArray)
      rw [flatL]
      intro j hj
      have hj' : j < (encL M).length := by simpa using hj
      have hc := h.cells (g := g) rfl j _ (List.getElem?_eq_getElem hj')
      rw [add_plain] at hc
      refine ⟨?_, by simp [World.frozen?, hb]⟩
      rw [hc]
      simp [hj']
    have hcon := AnyQ.slices_SortFunc laySortFunc 5 Try.isAgg33 Try.sizeOf33 Ln.cells (fun _ => rfl) hcl cfL cfL_swo 30 #[] g 0 cap M.toArray w eg (cmpLays_any g 0 _ w) hH (lt_of_heap hb) (by simp; omega)
    refine Calls.mono (show Calls Try.prog 29 _ _ _ from hcon) ?_
    rintro e w' ⟨he, d', nn, os, hperm, hsort, rfl⟩
    obtain ⟨hsz, _, hpp⟩ := hperm
    have hsz' : d'.size = M.length := by simpa using hsz
    have hd : d'.toList = N := by
      refine all_sorted hr ?_ ?_
      · have e1 : (d'.extract 0 M.toArray.size).toList = d'.toList := by
          simp
          exact List.take_of_length_le (by simp [hsz'])
        have e2 : (M.toArray.extract 0 M.toArray.size).toList = M := by simp
        rw [e1, e2] at hpp
        exact hpp.trans hp
      · intro i j hi hj hij
        have := hsort i j (Nat.zero_le _) hij (by simp at hj ⊢; omega)
        rw [cfL_lt] at this
        simp at hi hj
        simpa [hi, hj] using this
    have hfl : Go.Sort.flatK Ln.cells 5 d' = (encL N).toArray := by
      rw [← hd, ← flatL]
    have hNl : N.length = M.length := by rw [← hd]; simpa using hsz'
    have hgl := lt_of_heap hb
    have hblk : (Go.Sort.grow (Go.Sort.putRow id (Go.Sort.ahead w nn) g 0 (encL N).toArray) os).heap[g]? = some (.cells (Go.Sort.putCells id 0 (encL N).toArray cur) 33 (0, 0)) := by
      rw [Go.Sort.heap_grow_old _ _ (by simpa using hgl)]
      simp [Go.Sort.putRow, Go.Sort.mapBlock, Go.Sort.ahead, Array.getElem?_modify, hb, Go.Sort.onCells]
    refine ⟨he, ?_, ?_⟩
    · show (Go.Sort.grow (Go.Sort.putRow id (Go.Sort.ahead w nn) g 0 (Go.Sort.flatK Ln.cells 5 d')) os).ownsRow _ _ _ _ _ _
      rw [hfl]
      refine ⟨by rw [encL_len, hNl], .inr ⟨g, cap, _, rfl, hbase, hblk, h1, h2, by simp [Go.Sort.putCells, h3], ?_⟩⟩
      apply List.ext_getElem?
      intro j
      by_cases hj : j < M.length * 5
      · have hj2 : j < (encL N).length := by rw [encL_len, hNl]; exact hj
        rw [List.getElem?_take_of_lt hj, Array.getElem?_toList]
        simp [Go.Sort.putCells, hj2, show j < cur.size by omega]
      · rw [List.getElem?_take_eq_none (by omega), List.getElem?_eq_none (by rw [encL_len, hNl]; omega)]
    · refine ⟨rfl, rfl, rfl, by simp [Go.Proofs.sortWorldK, Go.Sort.grow, Go.Sort.putRowK, Go.Sort.putRow, Go.Sort.mapBlock, Go.Sort.ahead], fun k hk hne => ?_⟩
      show (Go.Sort.grow (Go.Sort.putRow id (Go.Sort.ahead w nn) g 0 (Go.Sort.flatK Ln.cells 5 d')) os).heap[k]? = _
      rw [Go.Sort.heap_grow_old _ _ (by simpa using hk)]
      have : g ≠ k := fun e => hne (by rw [e])
      simp [Go.Sort.putRow, Go.Sort.mapBlock, Go.Sort.ahead, Array.getElem?_modify, this]

end Go.Proofs.Ytjehklmbgldfpaa
