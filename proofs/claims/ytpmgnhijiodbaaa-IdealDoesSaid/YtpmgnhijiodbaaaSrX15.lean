/-
  Proved here, joined: Cmp12, Cmp15, Lay15, Sort15
  Conditions: as each part says.
-/
import Derived.Test.YtpmgnhijiodbaaaArrs
import Derived.Lib.Bytealg
import Derived.Lib.Strings
import Derived.Lib.Walk
import Derived.Test.YtpmgnhijiodbaaaMpX15
import Derived.Sort.OwnSorted
import Derived.Sort.KeysCollected
import Derived.Test.YtpmgnhijiodbaaaRows
import Derived.Shelf.SlLaysF0
import Derived.Shelf.SlSortCmp.NoneTotal

/-
  Proved here: what strings.Compare answers; what it says of two keys.
  Conditions: none.
-/
namespace Go.Proofs.Ytpmgnhijiodbaaa
open Go Go.RowKit
set_option maxRecDepth 100000

set_option maxHeartbeats 1000000 in
theorem bytecmp_any (a b : ByteArray) (w : World) :
    Calls Try.prog 48 #[.string a, .string b] w fun e w' => e = .returned (.int .i64 (Lib.compareBytes a.data.toList b.data.toList)) ∧ w' = w := by
  go_enter Try.func48, Try.ntmps48
  go_wp2
  rw [run_callFunc_extern Try.func67 (by kernel_rfl) (by kernel_rfl) (by kernel_rfl) (e := Extern.BytealgCompare.compare) (by kernel_rfl), Lib.run_compareString]
  simp only [Result.andThen]
  rw [Oper.upon_value]
  go_wp2
  go_ret
  exact ⟨rfl, rfl⟩
set_option maxHeartbeats 1000000 in
theorem strcmp_any (a b : ByteArray) (w : World) :
    Calls Try.prog 31 #[.string a, .string b] w fun e w' => e = .returned (.int .i64 (Lib.compareBytes a.data.toList b.data.toList)) ∧ w' = w := by
  have H := Lib.hid (bytecmp_any a b w)
  go_enter Try.func31, Try.ntmps31
  go_wp2_with fail
  refine H.out.mono ?_
  rintro e w' ⟨rfl, rfl⟩
  go_wp2
  go_ret
  exact ⟨rfl, rfl⟩
/-! ### Comparing keys -/
theorem cmp_lt (a b : List UInt8) : decide (Lib.compareBytes a b < 0) = Op.bytesLess a b := by
  induction a generalizing b with
  | nil => cases b <;> rfl
  | cons x a ih =>
    cases b with
    | nil => rfl
    | cons y b =>
      unfold Lib.compareBytes Op.bytesLess
      by_cases h1 : x < y
      · simp [h1]
      · by_cases h2 : y < x
        · have : (x == y) = false := by
            rw [beq_eq_false_iff_ne]
            rintro rfl
            exact h1 h2
          simp [h1, h2, this]
        · have : x = y := UInt8.toNat_inj.1 (by have a : ¬ x.toNat < y.toNat := fun h => h1 (UInt8.lt_iff_toNat_lt.2 h); have b : ¬ y.toNat < x.toNat := fun h => h2 (UInt8.lt_iff_toNat_lt.2 h); omega)
          subst this
          simp [h1, ih]
theorem cmp_eq (a b : List UInt8) : (Lib.compareBytes a b == 0) = (a == b) := by
  induction a generalizing b with
  | nil => cases b <;> rfl
  | cons x a ih =>
    cases b with
    | nil => rfl
    | cons y b =>
      unfold Lib.compareBytes
      by_cases h1 : x < y
      · have : x ≠ y := by rintro rfl; exact absurd (UInt8.lt_iff_toNat_lt.1 h1) (Nat.lt_irrefl _)
        simp [h1, this]
      · by_cases h2 : y < x
        · have : x ≠ y := by rintro rfl; exact absurd (UInt8.lt_iff_toNat_lt.1 h2) (Nat.lt_irrefl _)
          simp [h1, h2, this]
        · have : x = y := UInt8.toNat_inj.1 (by have a : ¬ x.toNat < y.toNat := fun h => h1 (UInt8.lt_iff_toNat_lt.2 h); have b : ¬ y.toNat < x.toNat := fun h => h2 (UInt8.lt_iff_toNat_lt.2 h); omega)
          subst this
          have e : Lib.compareBytes a b = Lib.compareBytes a b := rfl
          simp only [h1, if_false]
          rw [ih]
          simp

end Go.Proofs.Ytpmgnhijiodbaaa

/-
  Proved here: pairs compared by their keys; pairs in order, of rising pairs.
  Conditions: none.
-/
namespace Go.Proofs.Ytpmgnhijiodbaaa
open Go Go.RowKit
set_option maxRecDepth 100000

/-! ### Pairs in the order of their keys -/
def cfK (x y : Kv) : Int := Lib.compareBytes x.k.toList y.k.toList
theorem cfK_lt (x y : Kv) : decide (cfK x y < 0) = ltK x.k y.k := cmp_lt _ _
set_option maxHeartbeats 1000000 in
theorem replcmp_any (x y : Kv) (w : World) : Calls Try.prog 30 #[.agg #[.string x.k, .string x.v], .agg #[.string y.k, .string y.v]] w fun e w' => e = .returned (.int .i64 (cfK x y)) ∧ ∃ q os', w' = Go.Sort.grow (w.drewN q) os' := by
  have HC : Hid (∀ w', Calls Try.prog 31 #[.string x.k, .string y.k] w' fun e w2 => e = .returned (.int .i64 (cfK x y)) ∧ w2 = w') := fun w' => by
    have := strcmp_any x.k y.k w'
    unfold cfK
    rw [Lib.toList_data, Lib.toList_data]
    exact this
  generalize cfK x y = r at *
  generalize x.k = s0 at *
  generalize y.k = t0 at *
  generalize x.v = s1 at *
  generalize y.v = t1 at *
  go_enter Try.func30, Try.ntmps30
  go_wp2_with (go_at_call 31; refine (HC.out _).mono ?_; rintro e w' ⟨rfl, rfl⟩)
  go_ret
  exact ⟨rfl, 0, _, by rw [Go.Sort.alloc_eq_grow, Go.Sort.alloc_eq_grow, Go.Sort.grow_grow]; rfl⟩
/-- Pairs that are in order, of pairs that rise, are these. -/
theorem rise_sorted {M M' : List Kv} (hr : Rise M) (hp : M'.Perm M) (hs : ∀ i j (hi : i < M'.length) (hj : j < M'.length), i < j → ltK M'[j].k M'[i].k = false) : M' = M := by
  have one : ∀ (L : List Kv), Rise L → ∀ a ∈ L, ∀ b ∈ L, a.k.toList = b.k.toList → a = b := by
    intro L hL
    induction L with
    | nil => intro a ha; cases ha
    | cons c L ih =>
      obtain ⟨h1, h2⟩ := List.pairwise_cons.1 hL
      intro a ha b hb e
      rcases List.mem_cons.1 ha with ea | ha1
      · rcases List.mem_cons.1 hb with eb | hb1
        · rw [ea, eb]
        · have := h1 b hb1
          unfold ltK at this
          rw [← ea, e, lessK_irrefl] at this
          cases this
      · rcases List.mem_cons.1 hb with eb | hb1
        · have := h1 a ha1
          unfold ltK at this
          rw [← eb, e, lessK_irrefl] at this
          cases this
        · exact ih h2 a ha1 b hb1 e
  have hr' : Rise M' := by
    refine List.pairwise_iff_getElem.2 fun i j hi hj hij => ?_
    rcases lessK_tri M'[i].k.toList M'[j].k.toList with h | h | h
    · exact h
    · exfalso
      have h1 : M'[i] ∈ M := hp.mem_iff.1 (List.getElem_mem hi)
      have h2 : M'[j] ∈ M := hp.mem_iff.1 (List.getElem_mem hj)
      have e := one M hr _ h1 _ h2 h
      have hnd : M.Nodup := hr.imp fun {a b} hab e => by
        rw [e] at hab
        unfold ltK at hab
        rw [lessK_irrefl] at hab
        cases hab
      have hnd' : M'.Nodup := hp.symm.nodup hnd
      exact List.pairwise_iff_getElem.1 hnd' i j hi hj hij e
    · have := hs i j hi hj hij
      unfold ltK at this
      rw [h] at this
      cases this
  have hr2 : M'.Pairwise fun a b : Kv => ltK a.k b.k = true := hr'
  have hr3 : M.Pairwise fun a b : Kv => ltK a.k b.k = true := hr
  refine hp.eq_of_pairwise (fun a b ha hb h1 h2 => ?_) hr2 hr3
  have := lessK_asym h1
  unfold ltK at h2
  rw [h2] at this
  cases this

end Go.Proofs.Ytpmgnhijiodbaaa

/-
  Proved here: this program bears the library's slices.SortFunc at pairs: the shelf's contract laid in plain words (wip/tools/layg.py).
  Conditions: none.
-/
namespace Go.Proofs.Ytpmgnhijiodbaaa
open Go Go.Proofs Go.RowKit
set_option maxRecDepth 100000

def laySortFunc_ren : Go.Shelf.Ren := ⟨fun | 6 => 46 | 15 => 66 | 14 => 65 | 28 => 80 | 29 => 81 | 20 => 72 | 21 => 73 | 22 => 74 | 23 => 75 | 24 => 76 | 25 => 77 | 26 => 78 | 27 => 79 | 46 => 85 | 47 => 86 | 48 => 87 | 49 => 88 | 50 => 89 | 57 => 90 | n => n, fun | 22 => 22 | 24 => 42 | 25 => 68 | 3 => 3 | 39 => 91 | 0 => 0 | 53 => 103 | 55 => 27 | 4 => 4 | 46 => 96 | 45 => 95 | 50 => 100 | 5 => 5 | 9 => 9 | 66 => 106 | 70 => 110 | 76 => 112 | 77 => 113 | n => n, fun | n => n⟩
theorem laySortFunc : Go.Proofs.SlLaysF0.n6 Try.prog laySortFunc_ren := {
  mixed := by kernel_rfl
  f6 := ⟨Try.f46.name, by decide, Try.func46.trans (congrArg some (by kernel_rfl))⟩
  f14 := ⟨Try.f65.name, by decide, Try.func65.trans (congrArg some (by kernel_rfl))⟩
  f15 := Try.func66.trans (congrArg some (by kernel_rfl))
  f20 := ⟨Try.f72.name, by decide, Try.func72.trans (congrArg some (by kernel_rfl))⟩
  f21 := ⟨Try.f73.name, by decide, Try.func73.trans (congrArg some (by kernel_rfl))⟩
  f22 := ⟨Try.f74.name, by decide, Try.func74.trans (congrArg some (by kernel_rfl))⟩
  f23 := ⟨Try.f75.name, by decide, Try.func75.trans (congrArg some (by kernel_rfl))⟩
  f24 := ⟨Try.f76.name, by decide, Try.func76.trans (congrArg some (by kernel_rfl))⟩
  f25 := ⟨Try.f77.name, by decide, Try.func77.trans (congrArg some (by kernel_rfl))⟩
  f26 := ⟨Try.f78.name, by decide, Try.func78.trans (congrArg some (by kernel_rfl))⟩
  f27 := ⟨Try.f79.name, by decide, Try.func79.trans (congrArg some (by kernel_rfl))⟩
  f28 := Try.func80.trans (congrArg some (by kernel_rfl))
  f29 := Try.func81.trans (congrArg some (by kernel_rfl))
  f46 := ⟨Try.f85.name, by decide, Try.func85.trans (congrArg some (by kernel_rfl))⟩
  f47 := Try.func86.trans (congrArg some (by kernel_rfl))
  f48 := Try.func87.trans (congrArg some (by kernel_rfl))
  f49 := ⟨Try.f88.name, by decide, Try.func88.trans (congrArg some (by kernel_rfl))⟩
  f50 := ⟨Try.f89.name, by decide, Try.func89.trans (congrArg some (by kernel_rfl))⟩
  f57 := ⟨Try.f90.name, by decide, Try.func90.trans (congrArg some (by kernel_rfl))⟩
  t0 := Try.underlying0
  a0 := Try.isAgg0
  z0 := Try.sizeOf0
  v0 := Try.zeroValue0
  t3 := Try.underlying3
  a3 := Try.isAgg3
  z3 := Try.sizeOf3
  v3 := Try.zeroValue3
  t4 := Try.underlying4
  a4 := Try.isAgg4
  z4 := Try.sizeOf4
  v4 := Try.zeroValue4
  t5 := Try.underlying5
  a5 := Try.isAgg5
  z5 := Try.sizeOf5
  v5 := Try.zeroValue5
  t9 := Try.underlying9
  a9 := Try.isAgg9
  z9 := Try.sizeOf9
  v9 := Try.zeroValue9
  t22 := Try.underlying22
  a22 := Try.isAgg22
  z22 := Try.sizeOf22
  v22 := Try.zeroValue22
  t25 := Try.underlying68
  a25 := Try.isAgg68
  z25 := Try.sizeOf68
  v25 := Try.zeroValue68
  t39 := Try.underlying91
  a39 := Try.isAgg91
  z39 := Try.sizeOf91
  v39 := Try.zeroValue91
  t45 := Try.underlying95
  a45 := Try.isAgg95
  z45 := Try.sizeOf95
  v45 := Try.zeroValue95
  t46 := Try.underlying96
  a46 := Try.isAgg96
  z46 := Try.sizeOf96
  v46 := Try.zeroValue96
  t50 := Try.underlying100
  a50 := Try.isAgg100
  z50 := Try.sizeOf100
  v50 := Try.zeroValue100
  t53 := Try.underlying103
  a53 := Try.isAgg103
  z53 := Try.sizeOf103
  v53 := Try.zeroValue103
  t55 := Try.underlying27
  a55 := Try.isAgg27
  z55 := Try.sizeOf27
  v55 := Try.zeroValue27
  t66 := Try.underlying106
  a66 := Try.isAgg106
  z66 := Try.sizeOf106
  v66 := Try.zeroValue106
  t70 := Try.underlying110
  a70 := Try.isAgg110
  z70 := Try.sizeOf110
  v70 := Try.zeroValue110
  t76 := Try.underlying112
  a76 := Try.isAgg112
  z76 := Try.sizeOf112
  v76 := Try.zeroValue112
  t77 := Try.underlying113
  a77 := Try.isAgg113
  z77 := Try.sizeOf113
  v77 := Try.zeroValue113 }

end Go.Proofs.Ytpmgnhijiodbaaa

/-
  Proved here: what slices.SortFunc leaves of a row of pairs, by the program's own comparison.
  Conditions: rows of at most 2^20.
-/
namespace Go.Proofs.Ytpmgnhijiodbaaa
open Go Go.RowKit
set_option maxRecDepth 100000

open Go.Proofs
instance : Inhabited Kv := ⟨⟨⟨#[]⟩, ⟨#[]⟩⟩⟩
theorem cfK_ltO (x y : Kv) : ltOf cfK x y = ltK x.k y.k := cfK_lt x y
theorem cfK_swo : Go.Sort.SWO (ltOf cfK) where
  irrefl x := by rw [cfK_ltO]; exact lessK_irrefl _
  trans x y z h1 h2 := by rw [cfK_ltO] at *; exact lessK_trans h1 h2
  ntrans x y z h1 h2 := by
    rw [cfK_ltO] at *
    unfold ltK at *
    cases h3 : Op.bytesLess x.k.toList z.k.toList with
    | false => rfl
    | true =>
      rcases lessK_tri x.k.toList y.k.toList with h | h | h
      · rw [h] at h1; cases h1
      · rw [h, h2] at h3; cases h3
      · have := lessK_trans h h3
        rw [h2] at this; cases this
theorem replLays_any (blk off size : Nat) (w : World) : CmpLays Try.prog 30 #[] Kv.cells 2 cfK blk off size w :=
  fun _ _ _ _ x y => replcmp_any x y _
theorem flatR {α : Type} [Inhabited α] (R : Rec α) (M : List α) : Go.Sort.flatK R.cells R.k M.toArray = (R.enc M).toArray := by
  have hk := R.hk
  refine Go.Sort.ext_get! (by simp [R.enc_len]) fun t ht => ?_
  have ht' : t < M.length * R.k := by simpa using ht
  rw [Go.Sort.get_flatK _ _ _ t (by simpa using ht')]
  have hi : t / R.k < M.length := (Nat.div_lt_iff_lt_mul hk).2 ht'
  have h1 := R.enc_at M [] (List.getElem?_eq_getElem hi) (t % R.k) (Nat.mod_lt _ hk)
  rw [List.append_nil, show t / R.k * R.k + t % R.k = t by rw [Nat.mul_comm]; exact Nat.div_add_mod t R.k] at h1
  have hlen : t < (R.enc M).length := by rw [R.enc_len]; exact ht'
  have h2 : (R.enc M).toArray[t]! = (R.enc M)[t] := by simp [hlen]
  have h3 : M.toArray[t / R.k]! = M[t / R.k] := by simp [hi]
  rw [List.getElem?_eq_getElem hlen] at h1
  rw [h2, h3, List.getElem!_eq_getElem?_getD, ← h1]
  rfl
theorem sortK_own {w : World} {base n : Nat} {v : Value} {M N : List Kv} (hn : M.length = n) (h : w.ownsRow base RP.tE RP.k v n (RP.enc M)) (hl : n ≤ 1048576) (hr : Rise N) (hp : M.Perm N) :
    Calls Try.prog 46 #[v, .func (.func 30) #[] #[]] w fun e w' => e = .returned (.tuple #[]) ∧ w'.ownsRow base RP.tE RP.k v n (RP.enc N) ∧ w.grownBy w' v.ownBlock := by
  subst hn
  rcases h.2 with ⟨e, e0⟩ | ⟨g, cap, cur, e, hbase, hb, h1, h2, h3, h4⟩
  · subst e
    obtain rfl : M = [] := List.eq_nil_of_length_eq_zero (by simpa using e0)
    obtain rfl : N = [] := hp.nil_eq.symm
    refine Calls.mono (show Calls Try.prog 46 _ _ _ from AnyF.slices_SortFunc_none laySortFunc none 0 (.func (.func 30) #[] #[]) w) ?_
    rintro e w' ⟨rfl, rfl⟩
    exact ⟨rfl, h, World.grownBy.refl _ _⟩
  · subst e
    have eg : ∀ args w, (callFunc 30 args).run Try.prog w = .ok (.enter 30 args) w := enters_of Try.func30 (by kernel_rfl) rfl
    have hcl : ∀ x : Kv, ∀ v ∈ x.cells, v.oneCell' = true := RP.one
    have hf : ∀ X : List Kv, Go.Sort.flatK Kv.cells 2 X.toArray = (RP.enc X).toArray := flatR RP
    have hkk : RP.k = 2 := rfl
    have hH : Go.Sort.HoldsK Kv.cells 2 w g 0 M.toArray := by
      show Go.Sort.Holds id w g 0 (Go.Sort.flatK Kv.cells 2 M.toArray)
      rw [hf]
      intro j hj
      have hj' : j < (RP.enc M).length := by simpa using hj
      have hc := h.cells (g := g) rfl j _ (List.getElem?_eq_getElem hj')
      rw [add_plain] at hc
      refine ⟨?_, by simp [World.frozen?, hb]⟩
      rw [hc]
      simp [hj']
    have hcon := AnyQ.slices_SortFunc laySortFunc 2 Try.isAgg42 Try.sizeOf42 Kv.cells (fun _ => rfl) hcl cfK cfK_swo 30 #[] g 0 cap M.toArray w eg (replLays_any g 0 _ w) hH (lt_of_heap hb) (by simp; omega)
    refine Calls.mono (show Calls Try.prog 46 _ _ _ from hcon) ?_
    rintro e w' ⟨he, d', nn, os, hperm, hsort, rfl⟩
    obtain ⟨hsz, _, hpp⟩ := hperm
    have hsz' : d'.size = M.length := by simpa using hsz
    have hd : d'.toList = N := by
      refine rise_sorted hr ?_ ?_
      · have e1 : (d'.extract 0 M.toArray.size).toList = d'.toList := by
          simp
          exact List.take_of_length_le (by simp [hsz'])
        have e2 : (M.toArray.extract 0 M.toArray.size).toList = M := by simp
        rw [e1, e2] at hpp
        exact hpp.trans hp
      · intro i j hi hj hij
        have := hsort i j (Nat.zero_le _) hij (by simp at hj ⊢; omega)
        rw [cfK_ltO] at this
        simp at hi hj
        simpa [hi, hj] using this
    have hfl : Go.Sort.flatK Kv.cells 2 d' = (RP.enc N).toArray := by
      rw [← hd, ← hf]
    have hNl : N.length = M.length := by rw [← hd]; simpa using hsz'
    have hgl := lt_of_heap hb
    have hel : (RP.enc N).length = M.length * RP.k := by rw [RP.enc_len, hNl]
    have hblk : (Go.Sort.grow (Go.Sort.putRow id (Go.Sort.ahead w nn) g 0 (RP.enc N).toArray) os).heap[g]? = some (.cells (Go.Sort.putCells id 0 (RP.enc N).toArray cur) RP.tE (0, 0)) := by
      rw [Go.Sort.heap_grow_old _ _ (by simpa using hgl)]
      simp [Go.Sort.putRow, Go.Sort.mapBlock, Go.Sort.ahead, Array.getElem?_modify, hb, Go.Sort.onCells]
    refine ⟨he, ?_, ?_⟩
    · show (Go.Sort.grow (Go.Sort.putRow id (Go.Sort.ahead w nn) g 0 (Go.Sort.flatK Kv.cells 2 d')) os).ownsRow _ _ _ _ _ _
      rw [hfl]
      refine ⟨hel, .inr ⟨g, cap, _, rfl, hbase, hblk, h1, h2, by simp [Go.Sort.putCells, h3], ?_⟩⟩
      apply List.ext_getElem?
      intro j
      by_cases hj : j < M.length * RP.k
      · have hj2 : j < (RP.enc N).length := by omega
        have hjc : j < cur.size := Nat.lt_of_lt_of_le hj (by rw [h3]; exact Nat.mul_le_mul_right _ h1)
        rw [List.getElem?_take_of_lt hj, Array.getElem?_toList]
        simp [Go.Sort.putCells, hj2, hjc]
      · rw [List.getElem?_take_eq_none (by omega), List.getElem?_eq_none (by omega)]
    · refine ⟨rfl, rfl, rfl, by simp [Go.Proofs.sortWorldK, Go.Sort.grow, Go.Sort.putRowK, Go.Sort.putRow, Go.Sort.mapBlock, Go.Sort.ahead], fun k hk hne => ?_⟩
      show (Go.Sort.grow (Go.Sort.putRow id (Go.Sort.ahead w nn) g 0 (Go.Sort.flatK Kv.cells 2 d')) os).heap[k]? = _
      rw [Go.Sort.heap_grow_old _ _ (by simpa using hk)]
      have : g ≠ k := fun e => hne (by rw [e]; rfl)
      simp [Go.Sort.putRow, Go.Sort.mapBlock, Go.Sort.ahead, Array.getElem?_modify, this]

end Go.Proofs.Ytpmgnhijiodbaaa
