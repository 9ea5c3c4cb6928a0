/-
  Proved here, joined: TabA, Cmp12, StoreOnly, TabB, Lay12, Sort12
  Conditions: as each part says.
-/
import Derived.Test.YtlghphccmgmomaaGreatJN20
import Derived.Deep.QuietTactic
import Derived.BigQuiet
import Derived.IntWalk
import Derived.WalkSmall
import Derived.ChangeKeysEq
import Derived.StillTailTactics
import Derived.Lib.SliceRun
import Derived.Test.YtlghphccmgmomaaGreatJN1
import Derived.Lib.Bytealg
import Derived.Lib.Strings
import Derived.Lib.Walk
import Derived.Test.YtlghphccmgmomaaGreatJN2
import Derived.Test.YtlghphccmgmomaaGreatProg
import Derived.Shelf.SlSortCmp.NoneTotal
import Derived.Sort.OwnSorted
import Derived.Sort.KeysCollected

/-
  Proved here: a link in a variable, a look-up in a map of links; what the table's New and links answer.
  Conditions: keys of at most 2^30 bytes.
-/
namespace Go.Proofs.YtlghphccmgmomaaGreat
open Go Go.RowKit
set_option maxRecDepth 100000

/-! ### A link in a variable -/
def LBox (w : World) (g : Nat) (x : Ln) : Prop := w.heap[g]? = some (.cells #[.string x.str, .int .u64 (x.id : Nat), .int .u64 (x.ver : Nat), .int .i64 x.line, .int .i64 x.cl] 29 (0, 0))
theorem LBox.load {w : World} {g : Nat} {x : Ln} (h : LBox w g x) : (loadVar 29 ⟨g, 0, none⟩).run Tryz.prog w = .ok x.agg w :=
  run_loadVar_row (P := Tryz.prog) w g _ 29 _ _ _ h Tryz.underlying29 rfl size_link
theorem LBox.below {w w' : World} {g B : Nat} {x : Ln} (h : LBox w g x) (hb : Below B w w') (hg : g < B) : LBox w' g x := (hb.block g hg).trans h
theorem onesL (s : ByteArray) (a b c d : Int) : (#[.string s, .int .u64 a, .int .u64 b, .int .i64 c, .int .i64 d] : Array Value).all (·.oneCell') = true := all_oneCell_toArray (fun u hu => by
  simp only [List.mem_cons, List.not_mem_nil, or_false] at hu
  rcases hu with rfl | rfl | rfl | rfl | rfl <;> rfl)
theorem cellsL {w : World} {g : Nat} {T : TypeId} {v0 v1 v2 v3 v4 : Value} (h : w.heap[g]? = some (.cells #[v0, v1, v2, v3, v4] T (0, 0))) : w.cell? ⟨g, 0, none⟩ = some v0 ∧ w.cell? ⟨g, 1, none⟩ = some v1 ∧ w.cell? ⟨g, 2, none⟩ = some v2 ∧ w.cell? ⟨g, 3, none⟩ = some v3 ∧ w.cell? ⟨g, 4, none⟩ = some v4 := by
  refine ⟨?_, ?_, ?_, ?_, ?_⟩ <;> simp [World.cell?, h]
theorem zero_link : (Tryz.prog.info? 29).bind (·.zero) = some (.agg #[.string ⟨#[]⟩, .int .u64 0, .int .u64 0, .int .i64 0, .int .i64 0]) := by
  obtain ⟨i, hi, hz, _⟩ := link_info'
  simp [hi, hz]
theorem results_l2 {fn : Func} {t u : Tmp} (hf : fn.results = #[.cell t 29, .tmp u]) {tmps : Array Value} {g : Nat} (ht : tmps.getD t undef = .pointer (some ⟨g, 0, none⟩)) {v : Value} (hv : tmps.getD u undef = v) {w : World} {x : Ln} (h : LBox w g x) :
    (results fn tmps).run Tryz.prog w = .ok (.tuple #[x.agg, v]) w := by
  rw [results_cell_tmp hf, ht]
  have hl := h.load
  simp [asAddr, hl, hv, Result.andThen]

/-! ### Look-ups in a map of links -/
/-- The map mb, nil too, holds the links M. -/
def MapO (w : World) (mb : Option Nat) (M : List Ln) : Prop := match mb with | none => M = [] | some b => MapL w b M
theorem Tb.mapO {w : World} {p : Nat} {m : Nat → Option Nat} {L : List Ln} (h : Tb w p m L) {i : Nat} (hi : i < 8) : MapO w (m i) (partT bkt L i) := by
  cases e : m i with
  | none => exact h.none_ i hi e
  | some b => exact h.some_ i b hi e
theorem look_run {w : World} {mb : Option Nat} {M : List Ln} (h : MapO w mb M) (s : ByteArray) (hl : s.data.toList.length ≤ 1073741824) (c : Bool) :
    (Instr.lookup 161 (.map mb) (.string s) c).run Tryz.prog w = .ok (if c then .tuple #[(linkT M s.data.toList).agg, .bool (hasT M s.data.toList)] else (linkT M s.data.toList).agg) w := by
  have hkey := key_of _ hl
  have hz := Tryz.zeroValue29 w
  cases mb with
  | none =>
    obtain rfl : M = [] := h
    exact Maps.look_nil c str_law Tryz.underlying161 hz hkey
  | some b =>
    have h' : MapL w b M := h
    have fin : ∀ v ps, linkE v = some ((Md M).atKey (.string s.data.toList) Ln.zero.dat, ps) → v = (linkT M s.data.toList).agg := fun v ps hv => by
      obtain ⟨x, rfl, hy⟩ := linkE_inv hv
      rw [md_at] at hy
      have e : x.dat = (linkT M s.data.toList).dat := by
        have := (congrArg Prod.fst hy).symm
        refine this.trans ?_
        show (Option.map Ln.dat (getT M s.data.toList)).getD Ln.zero.dat = _
        unfold linkT
        cases getT M s.data.toList <;> rfl
      rw [dat_inj e]
    cases c with
    | true =>
      obtain ⟨v, ps, hrun, hv⟩ := World.ownsMap.look_ok h' str_law Tryz.underlying161 hz (linkE_mk Ln.zero) hkey
      rw [fin v ps hv, md_has] at hrun
      exact hrun
    | false =>
      obtain ⟨v, ps, hrun, hv⟩ := World.ownsMap.lookup h' str_law Tryz.underlying161 hz (linkE_mk Ln.zero) hkey
      rw [fin v ps hv] at hrun
      exact hrun
/-! ### New, links, Get -/
set_option maxHeartbeats 400000 in
theorem tbnew_any (w : World) : Calls Tryz.prog 137 #[] w fun e w' => e = .returned (.pointer (some ⟨w.heap.size, 0, none⟩)) ∧ Tb w' w.heap.size (fun _ => none) [] ∧ Below w.heap.size w w' := by
  have HR := Lib.hid (tb_new w)
  go_enter Tryz.func137, Tryz.ntmps137
  go_wp2
  go_ret
  exact ⟨rfl, HR.out, (Below.refl _ _).alloc (Nat.le_refl _) _⟩
/-- The map of bucket b, where there is one. -/
def mAt (m : Nat → Option Nat) (b : Int) : Option Nat := if 0 ≤ b ∧ b < 8 then m b.toNat else none
set_option maxHeartbeats 400000 in
theorem tblinks_any {w : World} {p : Nat} {m : Nat → Option Nat} {L : List Ln} (h : Tb w p m L) (b : Int) : Calls Tryz.prog 74 #[.pointer (some ⟨p, 0, none⟩), .int .i64 b] w fun e w' => e = .returned (.map (mAt m b)) ∧ w = w' := by
  by_cases h0 : b < 0
  · have hm : mAt m b = none := by unfold mAt; rw [if_neg (by omega)]
    rw [hm]
    have h0' : decide (b < 0) = true := by simp [h0]
    clear h hm h0
    go_enter Tryz.func74, Tryz.ntmps74
    go_wp2
    go_ret
    exact ⟨rfl, rfl⟩
  · by_cases h8 : b < 8
    · obtain ⟨n, rfl⟩ := Int.eq_ofNat_of_zero_le (show 0 ≤ b by omega)
      have hm : mAt m (n : Int) = m n := by unfold mAt; rw [if_pos (by omega)]; rfl
      rw [hm]
      have hc := h.cell (i := n) (by omega)
      have hn8 : n < 8 := by omega
      clear h hm h0 h8
      go_enter Tryz.func74, Tryz.ntmps74
      go_wp2
      go_ret
      exact ⟨rfl, rfl⟩
    · have hm : mAt m b = none := by unfold mAt; rw [if_neg (by omega)]
      rw [hm]
      have h0' : ¬ (b < 0) := h0
      have h8' : 8 ≤ b := by omega
      clear h hm h0 h8
      go_enter Tryz.func74, Tryz.ntmps74
      go_wp2
      go_ret
      exact ⟨rfl, rfl⟩

end Go.Proofs.YtlghphccmgmomaaGreat

/-
  Proved here: what strings.Compare answers; what it says of two keys.
  Conditions: none.
-/
namespace Go.Proofs.YtlghphccmgmomaaGreat
open Go Go.RowKit
set_option maxRecDepth 100000

set_option maxHeartbeats 1000000 in
theorem bytecmp_any (a b : ByteArray) (w : World) :
    Calls Tryz.prog 122 #[.string a, .string b] w fun e w' => e = .returned (.int .i64 (Lib.compareBytes a.data.toList b.data.toList)) ∧ w' = w := by
  go_enter Tryz.func122, Tryz.ntmps122
  go_wp2
  rw [run_callFunc_extern Tryz.func173 (by kernel_rfl) (by kernel_rfl) (by kernel_rfl) (e := Extern.BytealgCompare.compare) (by kernel_rfl), Lib.run_compareString]
  simp only [Result.andThen]
  rw [Oper.upon_value]
  go_wp2
  go_ret
  exact ⟨rfl, rfl⟩
set_option maxHeartbeats 1000000 in
theorem strcmp_any (a b : ByteArray) (w : World) :
    Calls Tryz.prog 77 #[.string a, .string b] w fun e w' => e = .returned (.int .i64 (Lib.compareBytes a.data.toList b.data.toList)) ∧ w' = w := by
  have H := Lib.hid (bytecmp_any a b w)
  go_enter Tryz.func77, Tryz.ntmps77
  go_wp2_with fail
  refine H.out.mono ?_
  rintro e w' ⟨rfl, rfl⟩
  go_wp2
  go_ret
  exact ⟨rfl, rfl⟩
/-! ### Comparing keys -/
theorem cmp_lt (a b : List UInt8) : decide (Lib.compareBytes a b < 0) = Op.bytesLess a b := by
  induction a generalizing b with
  | nil => cases b <;> rfl
  | cons x a ih =>
    cases b with
    | nil => rfl
    | cons y b =>
      unfold Lib.compareBytes Op.bytesLess
      by_cases h1 : x < y
      · simp [h1]
      · by_cases h2 : y < x
        · have : (x == y) = false := by
            rw [beq_eq_false_iff_ne]
            rintro rfl
            exact h1 h2
          simp [h1, h2, this]
        · have : x = y := UInt8.toNat_inj.1 (by have a : ¬ x.toNat < y.toNat := fun h => h1 (UInt8.lt_iff_toNat_lt.2 h); have b : ¬ y.toNat < x.toNat := fun h => h2 (UInt8.lt_iff_toNat_lt.2 h); omega)
          subst this
          simp [h1, ih]
theorem cmp_eq (a b : List UInt8) : (Lib.compareBytes a b == 0) = (a == b) := by
  induction a generalizing b with
  | nil => cases b <;> rfl
  | cons x a ih =>
    cases b with
    | nil => rfl
    | cons y b =>
      unfold Lib.compareBytes
      by_cases h1 : x < y
      · have : x ≠ y := by rintro rfl; exact absurd (UInt8.lt_iff_toNat_lt.1 h1) (Nat.lt_irrefl _)
        simp [h1, this]
      · by_cases h2 : y < x
        · have : x ≠ y := by rintro rfl; exact absurd (UInt8.lt_iff_toNat_lt.1 h2) (Nat.lt_irrefl _)
          simp [h1, h2, this]
        · have : x = y := UInt8.toNat_inj.1 (by have a : ¬ x.toNat < y.toNat := fun h => h1 (UInt8.lt_iff_toNat_lt.2 h); have b : ¬ y.toNat < x.toNat := fun h => h2 (UInt8.lt_iff_toNat_lt.2 h); omega)
          subst this
          have e : Lib.compareBytes a b = Lib.compareBytes a b := rfl
          simp only [h1, if_false]
          rw [ih]
          simp

end Go.Proofs.YtlghphccmgmomaaGreat

/-
  Proved here: a store of a whole row, which turns no other block.
  Conditions: none.
-/
namespace Go.Proofs.YtlghphccmgmomaaGreat
open Go Go.RowKit
set_option maxRecDepth 100000

/-- A whole block written over: all others lie as they lay. -/
theorem wpList_store_only {P : Program} {ops : Array Oper} {rest : List Oper} {o : Oper} {a : Act} {w : World} {Q : Exit → Act → World → Prop} (hgd : o.guard = none) (ty : TypeId) (x y : Operand) (ho : o.op = .store ty x y) (hd : o.dst = none)
    (g : Nat) (cells : Array Value) (hx : a.eval x = .pointer (some ⟨g, 0, none⟩)) (hy : a.eval y = .agg cells)
    (t : TypeId) (old : Array Value) (hg : w.heap[g]? = some (.cells old t (0, 0))) (hi : (P.info? ty).map (·.size) = some cells.size) (hold : old.size = cells.size) (h1 : cells.all (·.oneCell') = true)
    (k : ∀ w', Hid (w'.heap[g]? = some (.cells cells t (0, 0))) → Hid (Turns g g w w') → wpList P ops Q rest a w') : wpList P ops Q (o :: rest) a w := by
  refine wpList_store_row hgd ty x y ho g cells hx hy t old hg hi hold h1 ?_
  rw [hd]
  exact k _ (setRow_heap w g _ _ t _ hg) ⟨rfl, rfl, rfl, by simp, fun k hk _ _ => setRow_other _ _ k _ hk⟩

end Go.Proofs.YtlghphccmgmomaaGreat

/-
  Proved here: what the table's Get answers and leaves.
  Conditions: keys of at most 2^30 bytes.
-/
namespace Go.Proofs.YtlghphccmgmomaaGreat
open Go Go.RowKit
set_option maxRecDepth 100000

theorem mAt_bkt (m : Nat → Option Nat) (k : Ky) : mAt m ((addS 0 k % 8 : Nat) : Int) = m (bkt k) := by
  unfold mAt
  have := bkt_lt k
  unfold bkt at this ⊢
  rw [if_pos (by omega)]
  rfl
theorem Tb.look {w w1 : World} {p : Nat} {m : Nat → Option Nat} {L : List Ln} (h : Tb w p m L) (hb : Below w.heap.size w w1) (s : ByteArray) (hs : s.size ≤ 1073741824) :
    (Instr.lookup 161 (.map (m (bkt s.data.toList))) (.string s) true).run Tryz.prog w1 = .ok (.tuple #[(linkT L s.data.toList).agg, .bool (hasT L s.data.toList)]) w1 := by
  have h1 := look_run ((h.below hb).mapO (bkt_lt s.data.toList)) s (by rw [Array.length_toList]; exact hs) true
  have h2 := getT_part h.rises bkt s.data.toList
  unfold linkT hasT at *
  rw [h2] at h1
  exact h1
set_option maxHeartbeats 800000 in
theorem tbget_any {w : World} {p : Nat} {m : Nat → Option Nat} {L : List Ln} (h : Tb w p m L) (s : ByteArray) (hs : s.size ≤ 1073741824) :
    Calls Tryz.prog 52 #[.pointer (some ⟨p, 0, none⟩), .string s] w fun e w' => e = .returned (.tuple #[(linkT L s.data.toList).agg, .bool (hasT L s.data.toList)]) ∧ Below w.heap.size w w' := by
  obtain ⟨g, hg⟩ : ∃ g, w.heap.size = g := ⟨_, rfl⟩
  have HG := Lib.hid hg
  have HB := Lib.hid (fun w1 => bucket_any s hs w1)
  have HLK : Hid (∀ w1, Below g w w1 → Calls Tryz.prog 74 #[.pointer (some ⟨p, 0, none⟩), .int .i64 (addS 0 s.data.toList % 8 : Nat)] w1 fun e w' => e = .returned (.map (m (bkt s.data.toList))) ∧ w1 = w') := fun w1 hb => by
    have := tblinks_any (h.below (hg.symm ▸ hb)) ((addS 0 s.data.toList % 8 : Nat) : Int)
    rwa [mAt_bkt] at this
  have HRUN : Hid (∀ w1, Below g w w1 → (Instr.lookup 161 (.map (m (bkt s.data.toList))) (.string s) true).run Tryz.prog w1 = .ok (.tuple #[.agg #[.string (linkT L s.data.toList).str, .int .u64 ((linkT L s.data.toList).id : Nat), .int .u64 ((linkT L s.data.toList).ver : Nat), .int .i64 (linkT L s.data.toList).line, .int .i64 (linkT L s.data.toList).cl], .bool (hasT L s.data.toList)]) w1) := fun w1 hb => h.look (hg.symm ▸ hb) s hs
  have HZ := Lib.hid zero_link
  obtain ⟨x, hx⟩ : ∃ x, linkT L s.data.toList = x := ⟨_, rfl⟩
  rw [hx] at HRUN ⊢
  have HEB : Hid (∀ (w' : World) (g : Nat), w'.heap[g]? = some (.cells #[.string x.str, .int .u64 (x.id : Nat), .int .u64 (x.ver : Nat), .int .i64 x.line, .int .i64 x.cl] 29 (0, 0)) → LBox w' g x) := fun w' g h => h
  obtain ⟨V, hV⟩ : ∃ V, V = x.agg := ⟨_, rfl⟩
  have HV := Lib.hid hV
  rw [← hV]
  generalize hasT L s.data.toList = hb at *
  generalize m (bkt s.data.toList) = mb at *
  generalize addS 0 s.data.toList % 8 = bk at *
  generalize x.str = x0 at *
  generalize (x.id : Int) = x1 at *
  generalize (x.ver : Int) = x2 at *
  generalize x.line = x3 at *
  generalize x.cl = x4 at *
  clear h hx hV hg
  go_enter Tryz.func52, Tryz.ntmps52
  go_wp2_with (first
    | ((with_reducible show wpList _ _ _ (⟨some 4, .alloc _, _, _, _, _⟩ :: _) _ _); refine wpList_alloc_var (o := ⟨some 4, _, _, _, _, _⟩) rfl 29 rfl g HG.out _ HZ.out ?_; intro w1 H1 B1)
    | fail)
  refine (HB.out w1).mono ?_
  rintro e w2 ⟨rfl, hb2⟩
  have hlt1 := lt_of_heap H1.out
  have HB2 : Hid (Below g w w2) := B1.out.trans (hb2.mono (by omega))
  have H2 := Lib.hid ((hb2.block g hlt1).trans H1.out)
  clear hb2 hlt1
  go_wp2_with fail
  refine (HLK.out w2 HB2.out).mono ?_
  rintro e w3 ⟨rfl, rfl⟩
  have HR2 := Lib.hid (HRUN.out w2 HB2.out)
  obtain ⟨g2, hg2⟩ : ∃ g2, w2.heap.size = g2 := ⟨_, rfl⟩
  have HG2 := Lib.hid hg2
  have HL2 : Hid (g < g2) := hg2 ▸ lt_of_heap H2.out
  clear hg2
  go_wp2_with (first
    | (at_lookup; refine wpList_look rfl (.tmp 12) (.tmp 13) 161 true rfl rfl rfl HR2.out ?_)
    | ((with_reducible show wpList _ _ _ (⟨some 6, .alloc _, _, _, _, _⟩ :: _) _ _); refine wpList_alloc_var (o := ⟨some 6, _, _, _, _, _⟩) rfl 29 rfl g2 HG2.out _ HZ.out ?_; intro w3 H3 B3)
    | (((with_reducible show wpList _ _ _ (⟨none, .store _ (.tmp 6) _, _, _, _, _⟩ :: _) _ _); refine wpList_store_whole (o := ⟨none, .store 29 (.tmp 6) (.tmp 15), _, _, _, _⟩) rfl _ _ _ rfl rfl g2 #[.string x0, .int .u64 x1, .int .u64 x2, .int .i64 x3, .int .i64 x4] rfl rfl 29 _ H3.out size_link rfl (onesL _ _ _ _ _) ?_; intro w4 H4 B4); obtain ⟨c0, c1, c2, c3, c4⟩ := cellsL H4.out; have HO := Lib.hid ((B4.out.block g HL2.out).trans ((B3.out.block g HL2.out).trans H2.out)))
    | ((with_reducible show wpList _ _ _ (⟨none, .store _ (.tmp 4) _, _, _, _, _⟩ :: _) _ _); refine wpList_store_whole (o := ⟨none, .store 29 (.tmp 4) (.tmp 17), _, _, _, _⟩) rfl _ _ _ rfl rfl g #[.string x0, .int .u64 x1, .int .u64 x2, .int .i64 x3, .int .i64 x4] rfl rfl 29 _ HO.out size_link rfl (onesL _ _ _ _ _) ?_; intro w5 H5 B5)
    | fail)
  refine bodyPost_ret (results_l2 rfl rfl rfl (HEB.out _ _ H5.out)) rfl ⟨by rw [HV.out]; rfl, ?_⟩
  rw [HG.out]
  exact HB2.out.trans (((B3.out.trans B4.out).mono (Nat.le_of_lt HL2.out)).trans B5.out)

end Go.Proofs.YtlghphccmgmomaaGreat

/-
  Proved here: this program bears the library's slices.Sort at texts (where it is reached) and slices.SortFunc at links: the shelf's contracts laid in plain words (wip/tools/layg.py).
  Conditions: none.
-/
namespace Go.Proofs.YtlghphccmgmomaaGreat
open Go Go.Proofs Go.RowKit
set_option maxRecDepth 100000

def laySortFunc_ren : Go.Shelf.Ren := ⟨fun | 6 => 75 | 15 => 121 | 14 => 120 | 28 => 171 | 29 => 172 | 20 => 163 | 21 => 164 | 22 => 165 | 23 => 166 | 24 => 167 | 25 => 168 | 26 => 169 | 27 => 170 | 46 => 197 | 47 => 198 | 48 => 199 | 49 => 200 | 50 => 201 | 57 => 224 | n => n, fun | 22 => 104 | 24 => 29 | 25 => 165 | 3 => 3 | 39 => 228 | 0 => 0 | 53 => 75 | 55 => 22 | 4 => 4 | 46 => 266 | 45 => 265 | 50 => 133 | 5 => 5 | 9 => 9 | 66 => 289 | 70 => 292 | 76 => 311 | 77 => 312 | n => n, fun | n => n⟩
theorem laySortFunc : Go.Proofs.SlLaysF0.n6 Tryz.prog laySortFunc_ren := {
  mixed := by kernel_rfl
  f6 := ⟨Tryz.f75.name, by decide, Tryz.func75.trans (congrArg some (by kernel_rfl))⟩
  f14 := ⟨Tryz.f120.name, by decide, Tryz.func120.trans (congrArg some (by kernel_rfl))⟩
  f15 := Tryz.func121.trans (congrArg some (by kernel_rfl))
  f20 := ⟨Tryz.f163.name, by decide, Tryz.func163.trans (congrArg some (by kernel_rfl))⟩
  f21 := ⟨Tryz.f164.name, by decide, Tryz.func164.trans (congrArg some (by kernel_rfl))⟩
  f22 := ⟨Tryz.f165.name, by decide, Tryz.func165.trans (congrArg some (by kernel_rfl))⟩
  f23 := ⟨Tryz.f166.name, by decide, Tryz.func166.trans (congrArg some (by kernel_rfl))⟩
  f24 := ⟨Tryz.f167.name, by decide, Tryz.func167.trans (congrArg some (by kernel_rfl))⟩
  f25 := ⟨Tryz.f168.name, by decide, Tryz.func168.trans (congrArg some (by kernel_rfl))⟩
  f26 := ⟨Tryz.f169.name, by decide, Tryz.func169.trans (congrArg some (by kernel_rfl))⟩
  f27 := ⟨Tryz.f170.name, by decide, Tryz.func170.trans (congrArg some (by kernel_rfl))⟩
  f28 := Tryz.func171.trans (congrArg some (by kernel_rfl))
  f29 := Tryz.func172.trans (congrArg some (by kernel_rfl))
  f46 := ⟨Tryz.f197.name, by decide, Tryz.func197.trans (congrArg some (by kernel_rfl))⟩
  f47 := Tryz.func198.trans (congrArg some (by kernel_rfl))
  f48 := Tryz.func199.trans (congrArg some (by kernel_rfl))
  f49 := ⟨Tryz.f200.name, by decide, Tryz.func200.trans (congrArg some (by kernel_rfl))⟩
  f50 := ⟨Tryz.f201.name, by decide, Tryz.func201.trans (congrArg some (by kernel_rfl))⟩
  f57 := ⟨Tryz.f224.name, by decide, Tryz.func224.trans (congrArg some (by kernel_rfl))⟩
  t0 := Tryz.underlying0
  a0 := Tryz.isAgg0
  z0 := Tryz.sizeOf0
  v0 := Tryz.zeroValue0
  t3 := Tryz.underlying3
  a3 := Tryz.isAgg3
  z3 := Tryz.sizeOf3
  v3 := Tryz.zeroValue3
  t4 := Tryz.underlying4
  a4 := Tryz.isAgg4
  z4 := Tryz.sizeOf4
  v4 := Tryz.zeroValue4
  t5 := Tryz.underlying5
  a5 := Tryz.isAgg5
  z5 := Tryz.sizeOf5
  v5 := Tryz.zeroValue5
  t9 := Tryz.underlying9
  a9 := Tryz.isAgg9
  z9 := Tryz.sizeOf9
  v9 := Tryz.zeroValue9
  t22 := Tryz.underlying104
  a22 := Tryz.isAgg104
  z22 := Tryz.sizeOf104
  v22 := Tryz.zeroValue104
  t25 := Tryz.underlying165
  a25 := Tryz.isAgg165
  z25 := Tryz.sizeOf165
  v25 := Tryz.zeroValue165
  t39 := Tryz.underlying228
  a39 := Tryz.isAgg228
  z39 := Tryz.sizeOf228
  v39 := Tryz.zeroValue228
  t45 := Tryz.underlying265
  a45 := Tryz.isAgg265
  z45 := Tryz.sizeOf265
  v45 := Tryz.zeroValue265
  t46 := Tryz.underlying266
  a46 := Tryz.isAgg266
  z46 := Tryz.sizeOf266
  v46 := Tryz.zeroValue266
  t50 := Tryz.underlying133
  a50 := Tryz.isAgg133
  z50 := Tryz.sizeOf133
  v50 := Tryz.zeroValue133
  t53 := Tryz.underlying75
  a53 := Tryz.isAgg75
  z53 := Tryz.sizeOf75
  v53 := Tryz.zeroValue75
  t55 := Tryz.underlying22
  a55 := Tryz.isAgg22
  z55 := Tryz.sizeOf22
  v55 := Tryz.zeroValue22
  t66 := Tryz.underlying289
  a66 := Tryz.isAgg289
  z66 := Tryz.sizeOf289
  v66 := Tryz.zeroValue289
  t70 := Tryz.underlying292
  a70 := Tryz.isAgg292
  z70 := Tryz.sizeOf292
  v70 := Tryz.zeroValue292
  t76 := Tryz.underlying311
  a76 := Tryz.isAgg311
  z76 := Tryz.sizeOf311
  v76 := Tryz.zeroValue311
  t77 := Tryz.underlying312
  a77 := Tryz.isAgg312
  z77 := Tryz.sizeOf312
  v77 := Tryz.zeroValue312 }

end Go.Proofs.YtlghphccmgmomaaGreat

/-
  Proved here: what slices.Sort leaves of a row of texts, and slices.SortFunc of a row of links, by the program's own comparison.
  Conditions: rows of at most 2^20.
-/
namespace Go.Proofs.YtlghphccmgmomaaGreat
open Go Go.RowKit
set_option maxRecDepth 100000

open Go.Proofs
/-! ### slices.Sort at texts -/
/-! ### slices.SortFunc at links -/
def cfL (x y : Ln) : Int := Lib.compareBytes x.k y.k
theorem cfL_lt (x y : Ln) : ltOf cfL x y = Op.bytesLess x.k y.k := cmp_lt _ _
theorem cfL_swo : Go.Sort.SWO (ltOf cfL) where
  irrefl x := by rw [cfL_lt]; exact lessK_irrefl _
  trans x y z h1 h2 := by rw [cfL_lt] at *; exact lessK_trans h1 h2
  ntrans x y z h1 h2 := by
    rw [cfL_lt] at *
    cases h3 : Op.bytesLess x.k z.k with
    | false => rfl
    | true =>
      rcases lessK_tri x.k y.k with h | h | h
      · rw [h] at h1; cases h1
      · rw [h, h2] at h3; cases h3
      · have := lessK_trans h h3
        rw [h2] at this; cases this
set_option maxHeartbeats 1000000 in
theorem allcmp_any (x y : Ln) (w : World) : Calls Tryz.prog 76 #[.agg #[.string x.str, .int .u64 (x.id : Nat), .int .u64 (x.ver : Nat), .int .i64 x.line, .int .i64 x.cl], .agg #[.string y.str, .int .u64 (y.id : Nat), .int .u64 (y.ver : Nat), .int .i64 y.line, .int .i64 y.cl]] w fun e w' => e = .returned (.int .i64 (cfL x y)) ∧ ∃ q os', w' = Go.Sort.grow (w.drewN q) os' := by
  have HC : Hid (∀ w', Calls Tryz.prog 77 #[.string x.str, .string y.str] w' fun e w2 => e = .returned (.int .i64 (cfL x y)) ∧ w2 = w') := fun w' => strcmp_any x.str y.str w'
  generalize cfL x y = r at *
  generalize x.str = s0 at *
  generalize y.str = t0 at *
  generalize (x.id : Int) = s1 at *
  generalize (y.id : Int) = t1 at *
  generalize (x.ver : Int) = s2 at *
  generalize (y.ver : Int) = t2 at *
  generalize x.line = s3 at *
  generalize y.line = t3 at *
  generalize x.cl = s4 at *
  generalize y.cl = t4 at *
  go_enter Tryz.func76, Tryz.ntmps76
  go_wp2_with (go_at_call 77; refine (HC.out _).mono ?_; rintro e w' ⟨rfl, rfl⟩)
  go_ret
  exact ⟨rfl, 0, _, by rw [Go.Sort.alloc_eq_grow, Go.Sort.alloc_eq_grow, Go.Sort.grow_grow]; rfl⟩
theorem cmpLays_any (blk off size : Nat) (w : World) : CmpLays Tryz.prog 76 #[] Ln.cells 5 cfL blk off size w :=
  fun _ _ _ _ x y => allcmp_any x y _
theorem flatL (M : List Ln) : Go.Sort.flatK Ln.cells 5 M.toArray = (encL M).toArray := by
  refine Go.Sort.ext_get! (by simp [encL_len]) fun t ht => ?_
  have ht' : t < M.length * 5 := by simpa using ht
  rw [Go.Sort.get_flatK _ _ _ t (by simpa using ht')]
  have hi : t / 5 < M.length := by omega
  have h1 := encL_at M [] (List.getElem?_eq_getElem hi) (t % 5) (by omega)
  rw [List.append_nil, show t / 5 * 5 + t % 5 = t by omega] at h1
  have hlen : t < (encL M).length := by rw [encL_len]; exact ht'
  have h2 : (encL M).toArray[t]! = (encL M)[t] := by simp [hlen]
  have h3 : M.toArray[t / 5]! = M[t / 5] := by simp [hi]
  rw [List.getElem?_eq_getElem hlen] at h1
  rw [h2, h3, List.getElem!_eq_getElem?_getD, ← h1]
  rfl
theorem all_sorted {M M' : List Ln} (hr : RisesK M) (hp : M'.Perm M) (hs : ∀ i j (hi : i < M'.length) (hj : j < M'.length), i < j → Op.bytesLess M'[j].k M'[i].k = false) : M' = M := by
  refine risesK_ext ?_ hr fun x => hp.mem_iff
  refine List.pairwise_iff_getElem.2 fun i j hi hj hij => ?_
  rcases lessK_tri M'[i].k M'[j].k with h | h | h
  · exact h
  · exfalso
    have h1 : M'[i] ∈ M := hp.mem_iff.1 (List.getElem_mem hi)
    have h2 : M'[j] ∈ M := hp.mem_iff.1 (List.getElem_mem hj)
    have e := risesK_one hr h1 h2 h
    have hnd : M.Nodup := hr.imp fun {a b} hab e => by rw [e, lessK_irrefl] at hab; cases hab
    have hnd' : M'.Nodup := hp.symm.nodup hnd
    exact List.pairwise_iff_getElem.1 hnd' i j hi hj hij e
  · rw [hs i j hi hj hij] at h
    cases h
theorem sortL_own {w : World} {base g cap n : Nat} {M N : List Ln} (hn : M.length = n) (h : w.ownsRow base 29 5 (.slice (some ⟨g, 0, none⟩) n cap) n (encL M)) (hl : n ≤ 1048576) (hr : RisesK N) (hp : M.Perm N) :
    Calls Tryz.prog 75 #[.slice (some ⟨g, 0, none⟩) n cap, .func (.func 76) #[] #[]] w fun e w' => e = .returned (.tuple #[]) ∧ w'.ownsRow base 29 5 (.slice (some ⟨g, 0, none⟩) n cap) n (encL N) ∧ w.grownBy w' (some g) := by
  subst hn
  rcases h.2 with ⟨e, _⟩ | ⟨g2, cap2, cur, e, hbase, hb, h1, h2, h3, h4⟩
  · cases e
  · cases e
    have eg : ∀ args w, (callFunc 76 args).run Tryz.prog w = .ok (.enter 76 args) w := enters_of Tryz.func76 (by kernel_rfl) rfl
    have hcl : ∀ x : Ln, ∀ v ∈ x.cells, v.oneCell' = true := fun x v hv => by
      simp only [Ln.cells, List.mem_cons, List.not_mem_nil, or_false] at hv
      rcases hv with rfl | rfl | rfl | rfl | rfl <;> rfl
    have hH : Go.Sort.HoldsK Ln.cells 5 w g 0 M.toArray := by
      show Go.Sort.Holds id w g 0 (Go.Sort.flatK Ln.cells 5 M.toArray)
      rw [flatL]
      intro j hj
      have hj' : j < (encL M).length := by simpa using hj
      have hc := h.cells (g := g) rfl j _ (List.getElem?_eq_getElem hj')
      rw [add_plain] at hc
      refine ⟨?_, by simp [World.frozen?, hb]⟩
      rw [hc]
      simp [hj']
    have hcon := AnyQ.slices_SortFunc laySortFunc 5 Tryz.isAgg29 Tryz.sizeOf29 Ln.cells (fun _ => rfl) hcl cfL cfL_swo 76 #[] g 0 cap M.toArray w eg (cmpLays_any g 0 _ w) hH (lt_of_heap hb) (by simp; omega)
    refine Calls.mono (show Calls Tryz.prog 75 _ _ _ from hcon) ?_
    rintro e w' ⟨he, d', nn, os, hperm, hsort, rfl⟩
    obtain ⟨hsz, _, hpp⟩ := hperm
    have hsz' : d'.size = M.length := by simpa using hsz
    have hd : d'.toList = N := by
      refine all_sorted hr ?_ ?_
      · have e1 : (d'.extract 0 M.toArray.size).toList = d'.toList := by
          simp
          exact List.take_of_length_le (by simp [hsz'])
        have e2 : (M.toArray.extract 0 M.toArray.size).toList = M := by simp
        rw [e1, e2] at hpp
        exact hpp.trans hp
      · intro i j hi hj hij
        have := hsort i j (Nat.zero_le _) hij (by simp at hj ⊢; omega)
        rw [cfL_lt] at this
        simp at hi hj
        simpa [hi, hj] using this
    have hfl : Go.Sort.flatK Ln.cells 5 d' = (encL N).toArray := by
      rw [← hd, ← flatL]
    have hNl : N.length = M.length := by rw [← hd]; simpa using hsz'
    have hgl := lt_of_heap hb
    have hblk : (Go.Sort.grow (Go.Sort.putRow id (Go.Sort.ahead w nn) g 0 (encL N).toArray) os).heap[g]? = some (.cells (Go.Sort.putCells id 0 (encL N).toArray cur) 29 (0, 0)) := by
      rw [Go.Sort.heap_grow_old _ _ (by simpa using hgl)]
      simp [Go.Sort.putRow, Go.Sort.mapBlock, Go.Sort.ahead, Array.getElem?_modify, hb, Go.Sort.onCells]
    refine ⟨he, ?_, ?_⟩
    · show (Go.Sort.grow (Go.Sort.putRow id (Go.Sort.ahead w nn) g 0 (Go.Sort.flatK Ln.cells 5 d')) os).ownsRow _ _ _ _ _ _
      rw [hfl]
      refine ⟨by rw [encL_len, hNl], .inr ⟨g, cap, _, rfl, hbase, hblk, h1, h2, by simp [Go.Sort.putCells, h3], ?_⟩⟩
      apply List.ext_getElem?
      intro j
      by_cases hj : j < M.length * 5
      · have hj2 : j < (encL N).length := by rw [encL_len, hNl]; exact hj
        rw [List.getElem?_take_of_lt hj, Array.getElem?_toList]
        simp [Go.Sort.putCells, hj2, show j < cur.size by omega]
      · rw [List.getElem?_take_eq_none (by omega), List.getElem?_eq_none (by rw [encL_len, hNl]; omega)]
    · refine ⟨rfl, rfl, rfl, by simp [Go.Proofs.sortWorldK, Go.Sort.grow, Go.Sort.putRowK, Go.Sort.putRow, Go.Sort.mapBlock, Go.Sort.ahead], fun k hk hne => ?_⟩
      show (Go.Sort.grow (Go.Sort.putRow id (Go.Sort.ahead w nn) g 0 (Go.Sort.flatK Ln.cells 5 d')) os).heap[k]? = _
      rw [Go.Sort.heap_grow_old _ _ (by simpa using hk)]
      have : g ≠ k := fun e => hne (by rw [e])
      simp [Go.Sort.putRow, Go.Sort.mapBlock, Go.Sort.ahead, Array.getElem?_modify, this]

end Go.Proofs.YtlghphccmgmomaaGreat
