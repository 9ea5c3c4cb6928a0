/-
  Proved here, joined: OrdMem, Search13, Cmp13, OrdA, Delete13
  Conditions: as each part says.
-/
import Derived.Test.YtlghphccmgmomaaGreatJN24
import Derived.Test.YtlghphccmgmomaaGreatJN20
import Derived.Test.YtlghphccmgmomaaGreatJN21
import Derived.Shelf.Abstract
import Derived.Deep.QuietTactic
import Derived.BigQuiet
import Derived.IntWalk
import Derived.WalkSmall
import Derived.Lib.SliceRun
import Derived.Test.YtlghphccmgmomaaGreatJN23

/-
  Proved here: how an order of links lies in memory.
  Conditions: none.
-/
namespace Go.Proofs.YtlghphccmgmomaaGreat
open Go Go.RowKit
set_option maxRecDepth 100000

/-! ### The order in memory -/
def upd {α : Type} (f : Nat → α) (i : Nat) (a : α) : Nat → α := fun j => if j = i then a else f j
theorem upd_same {α : Type} (f : Nat → α) (i : Nat) (a : α) : upd f i a i = a := if_pos rfl
theorem upd_ne {α : Type} (f : Nat → α) {i j : Nat} (a : α) (h : j ≠ i) : upd f i a j = f j := if_neg h
def vcells (v : Nat → Value) : List Value := (List.range 4).map v
theorem vcells_at (v : Nat → Value) {i : Nat} (h : i < 4) : (vcells v)[i]? = some (v i) := by simp [vcells, h]
theorem vcells_set (v : Nat → Value) {i : Nat} (h : i < 4) (b : Value) : (vcells v).set i b = vcells (upd v i b) := by
  apply List.ext_getElem?
  intro j
  rw [List.getElem?_set]
  split
  · rename_i e
    subst e
    rw [if_pos (by simp [vcells]; exact h), vcells_at _ h, upd_same]
  · rename_i e
    rcases Nat.lt_or_ge j 4 with hj | hj
    · rw [vcells_at _ hj, vcells_at _ hj, upd_ne _ _ (fun x => e x.symm)]
    · rw [List.getElem?_eq_none (by simp [vcells]; exact hj), List.getElem?_eq_none (by simp [vcells]; exact hj)]
/-- The order at p: its slices v, with the links M. -/
structure Ro (w : World) (p : Nat) (v : Nat → Value) (M : Nat → List Ln) : Prop where
  mem : w.heap[p]? = some (.cells (vcells v).toArray 254 (0, 0))
  row : ∀ i, i < 4 → w.ownsRow 0 29 5 (v i) (M i).length (encL (M i))
  apart : ∀ i j b, i < 4 → j < 4 → (v i).ownBlock = some b → (v j).ownBlock = some b → i = j
  self : ∀ i, i < 4 → (v i).ownBlock ≠ some p
/-- The order's own blocks. -/
def odOwn (p : Nat) (v : Nat → Value) (k : Nat) : Prop := k = p ∨ ∃ i, i < 4 ∧ (v i).ownBlock = some k
section
variable {w w' w1 : World} {p : Nat} {v v' : Nat → Value} {M M' : Nat → List Ln} {L L' : List Ln}
theorem Ro.lt (h : Ro w p v M) {k : Nat} (hk : odOwn p v k) : k < w.heap.size := by
  rcases hk with rfl | ⟨i, hi, e⟩
  · exact lt_of_heap h.mem
  · exact ((h.row i hi).lt k e).2
theorem Ro.stay {S : Nat → Prop} (h : Ro w p v M) (hs : Stay S w w') (hn : ∀ k, odOwn p v k → ¬ S k) : Ro w' p v M :=
  ⟨(hs.block p (hn p (.inl rfl)) (h.lt (.inl rfl))).trans h.mem, fun i hi => own_same (h.row i hi) fun k hk => hs.block k (hn k (.inr ⟨i, hi, hk⟩)) (h.lt (.inr ⟨i, hi, hk⟩)), h.apart, h.self⟩
theorem Ro.below (h : Ro w p v M) (hb : Below w.heap.size w w') : Ro w' p v M := h.stay (S := fun _ => False) (Stay.of_below hb) (fun _ _ => id)
theorem Ro.drewN (h : Ro w p v M) (k : Nat) : Ro (w.drewN k) p v M := h.below (below_drewN (Below.refl _ _) k)
theorem Ro.cell (h : Ro w p v M) {i : Nat} (hi : i < 4) : w.cell? ⟨p, i, none⟩ = some (v i) := by
  have := vcells_at v hi
  simp [World.cell?, h.mem, this]
theorem Ro.frozen (h : Ro w p v M) (i : Nat) : w.frozen? ⟨p, i, none⟩ = false := by simp [World.frozen?, h.mem]
/-- One level's row has moved, and is noted. -/
theorem Ro.moved (h : Ro w p v M) {i : Nat} (hi : i < 4) {u : Value} {N : List Ln} (ho : w1.ownsRow 0 29 5 u N.length (encL N)) (hg : w.grownBy w1 (v i).ownBlock) (hu : ∀ k, u.ownBlock = some k → (v i).ownBlock = some k ∨ w.heap.size ≤ k) :
    Ro (w1.setCell ⟨p, i, none⟩ u) p (upd v i u) (upd M i N) ∧ Stay (odOwn p v) w (w1.setCell ⟨p, i, none⟩ u) ∧ ∀ k, odOwn p (upd v i u) k → odOwn p v k ∨ w.heap.size ≤ k := by
  have hp : p < w.heap.size := lt_of_heap h.mem
  have hm1 : w1.heap[p]? = some (.cells (vcells v).toArray 254 (0, 0)) := (hg.block p hp (fun e => h.self i hi e.symm)).trans h.mem
  have hup : u.ownBlock ≠ some p := fun e => by
    rcases hu p e with e2 | e2
    · exact h.self i hi e2
    · omega
  have hs1 : Stay (fun k => (v i).ownBlock = some k) w w1 := ⟨hg.os, hg.tape, hg.output, hg.size, fun k hk hl => hg.block k hl (fun e => hk e.symm)⟩
  have hs2 : Stay (fun k => k = p) w1 (w1.setCell ⟨p, i, none⟩ u) := Stay.setCell w1 p i u rfl
  refine ⟨⟨?_, fun j hj => ?_, fun j l b hj hl ej el => ?_, fun j hj => ?_⟩, ?_, fun k hk => ?_⟩
  · rw [heap_setCell_same w1 p i _ 254 _ hm1, ← vcells_set v hi u]
    simp
  · by_cases e : j = i
    · subst e
      rw [upd_same, upd_same]
      exact own_same ho fun k hk => Below.heap_setCell _ _ _ _ (fun e2 => hup (by rw [hk, e2]))
    · rw [upd_ne _ _ e, upd_ne _ _ e]
      exact own_same (h.row j hj) fun k hk => (Below.heap_setCell _ _ _ _ (fun e2 => h.self j hj (by rw [hk, e2]))).trans (hs1.block k (fun e2 => e (h.apart j i k hj hi hk e2)) ((h.row j hj).lt k hk).2)
  · have key : ∀ j, j < 4 → j ≠ i → ∀ b, (v j).ownBlock = some b → u.ownBlock = some b → False := fun j hj hne b h1 h2 => by
      rcases hu b h2 with e2 | e2
      · exact hne (h.apart j i b hj hi h1 e2)
      · have := ((h.row j hj).lt b h1).2; omega
    by_cases e : j = i
    · by_cases e2 : l = i
      · exact e.trans e2.symm
      · rw [e, upd_same] at ej
        rw [upd_ne _ _ e2] at el
        exact (key l hl e2 b el ej).elim
    · rw [upd_ne _ _ e] at ej
      by_cases e2 : l = i
      · rw [e2, upd_same] at el
        exact (key j hj e b ej el).elim
      · rw [upd_ne _ _ e2] at el
        exact h.apart j l b hj hl ej el
  · by_cases e : j = i
    · rw [e, upd_same]; exact hup
    · rw [upd_ne _ _ e]; exact h.self j hj
  · exact (hs1.mono fun k _ hk => (.inr ⟨i, hi, hk⟩ : odOwn p v k)).trans (hs2.mono fun k _ hk => (.inl hk : odOwn p v k))
  · rcases hk with rfl | ⟨j, hj, e⟩
    · exact .inl (.inl rfl)
    · by_cases e2 : j = i
      · rw [e2, upd_same] at e
        rcases hu k e with e3 | e3
        · exact .inl (.inr ⟨i, hi, e3⟩)
        · exact .inr e3
      · rw [upd_ne _ _ e2] at e
        exact .inl (.inr ⟨j, hj, e⟩)
/-- One level's row has been written to, where it lies. -/
theorem Ro.wrote (h : Ro w p v M) {i : Nat} (hi : i < 4) {N : List Ln} (ho : w1.ownsRow 0 29 5 (v i) N.length (encL N)) (hg : w.grownBy w1 (v i).ownBlock) :
    Ro w1 p v (upd M i N) ∧ Stay (odOwn p v) w w1 := by
  have hp : p < w.heap.size := lt_of_heap h.mem
  have hs1 : Stay (fun k => (v i).ownBlock = some k) w w1 := ⟨hg.os, hg.tape, hg.output, hg.size, fun k hk hl => hg.block k hl (fun e => hk e.symm)⟩
  refine ⟨⟨(hs1.block p (h.self i hi) hp).trans h.mem, fun j hj => ?_, h.apart, h.self⟩, hs1.mono fun k _ hk => (.inr ⟨i, hi, hk⟩ : odOwn p v k)⟩
  by_cases e : j = i
  · subst e
    rw [upd_same]
    exact ho
  · rw [upd_ne _ _ e]
    exact own_same (h.row j hj) fun k hk => hs1.block k (fun e2 => e (h.apart j i k hj hi hk e2)) ((h.row j hj).lt k hk).2
theorem Ro.congr (h : Ro w p v M) (he : ∀ i, i < 4 → M i = M' i) : Ro w p v M' := ⟨h.mem, fun i hi => by rw [← he i hi]; exact h.row i hi, h.apart, h.self⟩
/-- The order at p with the links L, by rising keys. -/
structure Od (w : World) (p : Nat) (v : Nat → Value) (L : List Ln) : Prop where
  rises : RisesK L
  keys : ∀ x ∈ L, x.k.length ≤ 1073741824
  ro : Ro w p v fun i => lev i L
theorem Od.lt (h : Od w p v L) {k : Nat} (hk : odOwn p v k) : k < w.heap.size := h.ro.lt hk
theorem Od.stay {S : Nat → Prop} (h : Od w p v L) (hs : Stay S w w') (hn : ∀ k, odOwn p v k → ¬ S k) : Od w' p v L := ⟨h.rises, h.keys, h.ro.stay hs hn⟩
theorem Od.below (h : Od w p v L) (hb : Below w.heap.size w w') : Od w' p v L := ⟨h.rises, h.keys, h.ro.below hb⟩
theorem Od.drewN (h : Od w p v L) (k : Nat) : Od (w.drewN k) p v L := ⟨h.rises, h.keys, h.ro.drewN k⟩
/-- The row of a level, to be read. -/
theorem Ro.reads (h : Ro w p v M) {i : Nat} (hi : i < 4) (hl : (M i).length ≤ 1048576) : ∃ A cap, v i = .slice A (M i).length cap ∧ (M i).length ≤ cap ∧ (A = none → (M i).length = 0 ∧ cap = 0) ∧ RowL w A (M i) := by
  obtain ⟨_, A, cap, e, h1, h2, h3, _⟩ := rowL_of_own (h.row i hi) hl
  exact ⟨A, cap, e, h1, h3, h2⟩
end
theorem od_new (w : World) : Od (w.alloc (.cells #[.slice none 0 0, .slice none 0 0, .slice none 0 0, .slice none 0 0] 254)) w.heap.size (fun _ => .slice none 0 0) [] :=
  ⟨risesK_nil, fun _ h => (by cases h), ⟨heap_alloc_new w _, fun _ _ => World.ownsRow_nil _ _ _ _, fun _ _ _ _ _ h => (by cases h), fun _ _ h => (by cases h)⟩⟩
/-- What a step of an order leaves. -/
def OdTo (w : World) (p : Nat) (v : Nat → Value) (L : List Ln) (w' : World) : Prop :=
  ∃ v', Od w' p v' L ∧ Stay (odOwn p v) w w' ∧ ∀ k, odOwn p v' k → odOwn p v k ∨ w.heap.size ≤ k
end Go.Proofs.YtlghphccmgmomaaGreat

/-
  Proved here: what slices.BinarySearchFunc answers on a row of links.
  Conditions: the comparison's own.
-/
namespace Go.Proofs.YtlghphccmgmomaaGreat
open Go Go.RowKit
set_option maxRecDepth 100000

/-! ### slices.BinarySearchFunc at links -/
/-- What a comparison with what is looked for answers, in every world that has come of w. -/
def CmpOk (g : Nat) (cb : Array Value) (s : ByteArray) (cft : Ln → Int) (w : World) : Prop :=
  ∀ W, Below w.heap.size w W → ∀ x : Ln, Calls Tryz.prog g (#[.agg #[.string x.str, .int .u64 (x.id : Nat), .int .u64 (x.ver : Nat), .int .i64 x.line, .int .i64 x.cl], .string s] ++ cb) W fun e w' => e = .returned (.int .i64 (cft x)) ∧ Below W.heap.size W w'
theorem count_bound {p : Ln → Bool} {l : List Ln} {i : Nat} (hi : i ≤ l.length) (h1 : ∀ t x, t < i → l[t]? = some x → p x = true) (h2 : ∀ t x, i ≤ t → l[t]? = some x → p x = false) : l.countP p = i := by
  induction l generalizing i with
  | nil => simp at hi; simp [hi]
  | cons a l ih =>
    cases i with
    | zero =>
      rw [List.countP_eq_zero]
      intro x hx
      obtain ⟨t, ht⟩ := List.getElem?_of_mem hx
      simp [h2 t x (Nat.zero_le _) ht]
    | succ i =>
      rw [List.countP_cons_of_pos (h1 0 a (by omega) rfl), ih (by simpa using hi) (fun t x ht hx => h1 (t + 1) x (by omega) (by simpa using hx)) (fun t x ht hx => h2 (t + 1) x (by omega) (by simpa using hx))]
/-- Whether what is looked for is at its place. -/
def isAt (cft : Ln → Int) (l : List Ln) (i : Nat) : Bool := match l[i]? with | some x => cft x == 0 | none => false
set_option maxHeartbeats 1600000 in
set_option maxRecDepth 100000 in
theorem search_any {w : World} {A : Option Addr} {l : List Ln} (n cap : Nat) (hn : l.length = n) (hr : RowL w A l) (s : ByteArray) (g : Nat) (cb : Array Value) (lb : Array Value) (cft : Ln → Int) (hlb : lb = #[])
    (eg : ∀ args w, (callFunc g args).run Tryz.prog w = .ok (.enter g args) w) (hc : CmpOk g cb s cft w) (hm : l.Pairwise fun a b => cft b < 0 → cft a < 0) :
    Calls Tryz.prog 189 #[.slice A n cap, .string s, .func (.func g) lb cb] w fun e w' =>
      e = .returned (.tuple #[.int .i64 (l.countP fun x => decide (cft x < 0) : Nat), .bool (isAt cft l (l.countP fun x => decide (cft x < 0)))]) ∧ Below w.heap.size w w' := by
  subst hlb
  have hmax := hr.1
  rw [hn] at hmax
  obtain ⟨B, hB⟩ : ∃ B, w.heap.size = B := ⟨_, rfl⟩
  obtain ⟨cnt, hcnt⟩ : ∃ cnt, (l.countP fun x => decide (cft x < 0)) = cnt := ⟨_, rfl⟩
  obtain ⟨fin, hfin⟩ : ∃ fin, isAt cft l cnt = fin := ⟨_, rfl⟩
  rw [hcnt, hfin, hB]
  have HR := Lib.hid hr
  have HN := Lib.hid hn
  have HC : Hid (∀ W, Below B w W → ∀ x : Ln, Calls Tryz.prog g (#[.agg #[.string x.str, .int .u64 (x.id : Nat), .int .u64 (x.ver : Nat), .int .i64 x.line, .int .i64 x.cl], .string s] ++ cb) W fun e w' => e = .returned (.int .i64 (cft x)) ∧ Below W.heap.size W w') := hB ▸ hc
  have HBS := Lib.hid hB
  have HCN := Lib.hid hcnt
  have HF := Lib.hid hfin
  have HM : Hid (∀ a b x y, a < b → l[a]? = some x → l[b]? = some y → cft y < 0 → cft x < 0) := fun a b x y hab hx hy => by
    obtain ⟨ha, rfl⟩ := List.getElem?_eq_some_iff.1 hx
    obtain ⟨hb, rfl⟩ := List.getElem?_eq_some_iff.1 hy
    exact List.pairwise_iff_getElem.1 hm a b ha hb hab
  clear hr hn hc hcnt hfin hm hB
  have eg2 := eg
  go_enter Tryz.func189, Tryz.ntmps189
  go_wp2
  go_loopg [9, 10] n (fun gk s9 s10 wx => ∃ lo hi : Nat, s9 = .int .i64 lo ∧ s10 = .int .i64 hi ∧ lo ≤ hi ∧ hi ≤ n ∧ hi - lo ≤ gk ∧ Hid (Below B w wx) ∧ Hid (∀ t x, t < lo → l[t]? = some x → cft x < 0) ∧ Hid (∀ t x, hi ≤ t → l[t]? = some x → 0 ≤ cft x))
  case atStart => exact ⟨0, n, rfl, rfl, Nat.zero_le _, Nat.le_refl _, by omega, Below.refl _ _, fun t x ht => by omega, fun t x ht hx => by have := (List.getElem?_eq_some_iff.1 hx).1; have := HN.out; omega⟩
  case round =>
    obtain ⟨lo, hi, rfl, rfl, hlh, hin, hgk, HB, H1, H2⟩ := hrel
    by_cases hlt : lo < hi
    · have hmid : (lo + hi) / 2 < l.length := by have := HN.out; omega
      have hgi := List.getElem?_eq_getElem hmid
      generalize l[(lo + hi) / 2]'hmid = x at *
      obtain ⟨b, off, rfl, -, c0, c1, c2, c3, c4⟩ := (HR.out.below (HBS.out.symm ▸ HB.out)).at_ hgi
      have HG := Lib.hid hgi
      have HCX := Lib.hid (HC.out wr HB.out x)
      have hbw : B ≤ wr.heap.size := by have := HB.out.size; have := HBS.out; omega
      clear hgi hmid
      by_cases hx : cft x < 0
      · have H1' : Hid (∀ t y, t < (lo + hi) / 2 + 1 → l[t]? = some y → cft y < 0) := fun t y ht hy => by
          rcases Nat.lt_or_ge t ((lo + hi) / 2) with h | h
          · exact HM.out t _ y x h hy HG.out hx
          · obtain rfl : t = (lo + hi) / 2 := by omega
            rw [HG.out] at hy
            cases hy
            exact hx
        generalize cft x = cx at *
        generalize x.str = x0 at *
        generalize (x.id : Int) = x1 at *
        generalize (x.ver : Int) = x2 at *
        generalize x.line = x3 at *
        generalize x.cl = x4 at *
        go_wp2_with (go_at_fn g; refine HCX.out.mono ?_; rintro e w' ⟨rfl, hb'⟩)
        go_roundg (hi - ((lo + hi) / 2 + 1))
        case measure => omega
        case rel => exact ⟨(lo + hi) / 2 + 1, hi, by go_num, rfl, by omega, hin, Nat.le_refl _, HB.out.trans (hb'.mono hbw), H1', H2⟩
      · have H2' : Hid (∀ t y, (lo + hi) / 2 ≤ t → l[t]? = some y → 0 ≤ cft y) := fun t y ht hy => by
          rcases Nat.lt_or_ge ((lo + hi) / 2) t with h | h
          · refine Int.not_lt.1 fun e => hx (HM.out _ t x y h HG.out hy e)
          · obtain rfl : t = (lo + hi) / 2 := by omega
            rw [HG.out] at hy
            cases hy
            omega
        generalize cft x = cx at *
        generalize x.str = x0 at *
        generalize (x.id : Int) = x1 at *
        generalize (x.ver : Int) = x2 at *
        generalize x.line = x3 at *
        generalize x.cl = x4 at *
        go_wp2_with (go_at_fn g; refine HCX.out.mono ?_; rintro e w' ⟨rfl, hb'⟩)
        go_roundg ((lo + hi) / 2 - lo)
        case measure => omega
        case rel => exact ⟨lo, (lo + hi) / 2, rfl, by go_num, by omega, by omega, Nat.le_refl _, HB.out.trans (hb'.mono hbw), H1, H2'⟩
    · obtain rfl : hi = lo := by omega
      have ecnt : cnt = hi := by
        rw [← HCN.out]
        exact count_bound (by have := HN.out; omega) (fun t x ht hx => decide_eq_true (H1.out t x ht hx)) (fun t x ht hx => decide_eq_false (by have := H2.out t x ht hx; omega))
      subst ecnt
      by_cases hln : cnt < n
      · have hgi := List.getElem?_eq_getElem (show cnt < l.length by have := HN.out; omega)
        generalize l[cnt]'(by have := HN.out; omega) = x at *
        obtain ⟨b, off, rfl, -, c0, c1, c2, c3, c4⟩ := (HR.out.below (HBS.out.symm ▸ HB.out)).at_ hgi
        have HCX := Lib.hid (HC.out wr HB.out x)
        have hbw : B ≤ wr.heap.size := by have := HB.out.size; have := HBS.out; omega
        have hf2 : (cft x == 0) = fin := by rw [← HF.out]; unfold isAt; rw [hgi]
        clear hgi
        generalize cft x = cx at *
        generalize x.str = x0 at *
        generalize (x.id : Int) = x1 at *
        generalize (x.ver : Int) = x2 at *
        generalize x.line = x3 at *
        generalize x.cl = x4 at *
        go_wp2_with (go_at_fn g; refine HCX.out.mono ?_; rintro e w' ⟨rfl, hb'⟩)
        all_goals
          go_ret2
          exact ⟨by first | rfl | simp [hf2], HB.out.trans (hb'.mono hbw)⟩
      · obtain rfl : fin = false := by rw [← HF.out]; unfold isAt; rw [List.getElem?_eq_none (by have := HN.out; omega)]
        have hln2 : ¬ (cnt : Int) < (n : Int) := by omega
        go_wp2
        go_ret2
        exact ⟨rfl, HB.out⟩

end Go.Proofs.YtlghphccmgmomaaGreat

/-
  Proved here: what the comparisons answer that the order hands on.
  Conditions: none.
-/
namespace Go.Proofs.YtlghphccmgmomaaGreat
open Go Go.RowKit
set_option maxRecDepth 100000

/-! ### The comparisons that the order hands on -/
/-- By key. -/
def byK (s : ByteArray) (x : Ln) : Int := Lib.compareBytes x.k s.data.toList
set_option maxHeartbeats 1000000 in
theorem find1_any (x : Ln) (s : ByteArray) (w : World) : Calls Tryz.prog 190 #[.agg #[.string x.str, .int .u64 (x.id : Nat), .int .u64 (x.ver : Nat), .int .i64 x.line, .int .i64 x.cl], .string s] w fun e w' => e = .returned (.int .i64 (byK s x)) ∧ Below w.heap.size w w' := by
  have HC : Hid (∀ w', Calls Tryz.prog 77 #[.string x.str, .string s] w' fun e w2 => e = .returned (.int .i64 (byK s x)) ∧ w2 = w') := fun w' => strcmp_any x.str s w'
  generalize byK s x = r at *
  generalize x.str = s0 at *
  generalize (x.id : Int) = s1 at *
  generalize (x.ver : Int) = s2 at *
  generalize x.line = s3 at *
  generalize x.cl = s4 at *
  go_enter Tryz.func190, Tryz.ntmps190
  go_wp2_with (go_at_call 77; refine (HC.out _).mono ?_; rintro e w' ⟨rfl, rfl⟩)
  go_ret
  exact ⟨rfl, (Below.refl _ _).alloc (Nat.le_refl _) _⟩
end Go.Proofs.YtlghphccmgmomaaGreat

/-
  Proved here: what the order's New, links, find, Len and All answer.
  Conditions: at most 2^20 links.
-/
namespace Go.Proofs.YtlghphccmgmomaaGreat
open Go Go.RowKit
set_option maxRecDepth 100000

set_option maxHeartbeats 400000 in
theorem odnew_any (w : World) : Calls Tryz.prog 138 #[] w fun e w' => e = .returned (.pointer (some ⟨w.heap.size, 0, none⟩)) ∧ Od w' w.heap.size (fun _ => .slice none 0 0) [] ∧ Below w.heap.size w w' := by
  have HR := Lib.hid (od_new w)
  go_enter Tryz.func138, Tryz.ntmps138
  go_wp2
  go_ret
  exact ⟨rfl, HR.out, (Below.refl _ _).alloc (Nat.le_refl _) _⟩
theorem isAt_has {M : List Ln} (h : RisesK M) (s : ByteArray) : isAt (byK s) M (posT M s.data.toList) = hasT M s.data.toList := by
  cases hk : hasT M s.data.toList with
  | true =>
    obtain ⟨y, hy, e⟩ := pos_yes h hk
    unfold isAt
    rw [hy]
    show (Lib.compareBytes y.k s.data.toList == 0) = true
    rw [cmp_eq, e]
    simp
  | false =>
    unfold isAt
    split
    · rename_i y hy
      have hl := pos_no h hk hy
      show (Lib.compareBytes y.k s.data.toList == 0) = false
      rw [cmp_eq]
      have := lessK_ne hl
      simp
      exact fun e => this e.symm
    · rfl
set_option maxHeartbeats 400000 in
theorem odfind_any {w : World} {A : Option Addr} {l : List Ln} (n cap : Nat) (hn : l.length = n) (hr : RowL w A l) (hri : RisesK l) (s : ByteArray) :
    Calls Tryz.prog 153 #[.slice A n cap, .string s] w fun e w' => e = .returned (.tuple #[.int .i64 (posT l s.data.toList : Nat), .bool (hasT l s.data.toList)]) ∧ Below w.heap.size w w' := by
  have eg : ∀ args w, (callFunc 190 args).run Tryz.prog w = .ok (.enter 190 args) w := enters_of Tryz.func190 (by kernel_rfl) rfl
  have hlt : ∀ x : Ln, decide (byK s x < 0) = Op.bytesLess x.k s.data.toList := fun x => cmp_lt _ _
  have hm : l.Pairwise fun a b => byK s b < 0 → byK s a < 0 := hri.imp fun {a b} hab hb => by
    have h1 := hlt a
    have h2 := hlt b
    rw [decide_eq_true hb] at h2
    rw [lessK_trans hab h2.symm] at h1
    exact of_decide_eq_true h1
  have HS := search_any n cap hn hr s 190 #[] #[] (byK s) rfl eg (fun W _ x => find1_any x s W) hm
  have hcnt : (l.countP fun x => decide (byK s x < 0)) = posT l s.data.toList := by
    unfold posT
    congr 1
    funext x
    exact hlt x
  rw [hcnt, isAt_has hri] at HS
  have H := Lib.hid HS
  generalize posT l s.data.toList = c at *
  generalize hasT l s.data.toList = b at *
  clear HS hcnt hm hlt eg hr hri
  go_enter Tryz.func153, Tryz.ntmps153
  go_wp2_with (go_at_call 189; refine H.out.mono ?_; rintro e w' ⟨rfl, hb⟩)
  go_ret2
  exact ⟨rfl, hb⟩
end Go.Proofs.YtlghphccmgmomaaGreat

/-
  Proved here: what slices.Delete leaves of a row of links.
  Conditions: at most 2^20 links.
-/
namespace Go.Proofs.YtlghphccmgmomaaGreat
open Go Go.RowKit
set_option maxRecDepth 100000

set_option maxHeartbeats 1600000 in
set_option maxRecDepth 100000 in
theorem delete_some {w : World} {g n cap : Nat} {l : List Ln} (hn : l.length = n) (hown : w.ownsRow 0 29 5 (.slice (some ⟨g, 0, none⟩) n cap) n (encL l)) (hl : n ≤ 1048576) (i : Nat) (hi : i < n) :
    Calls Tryz.prog 155 #[.slice (some ⟨g, 0, none⟩) n cap, .int .i64 (i : Int), .int .i64 ((i : Int) + 1)] w fun e w' => e = .returned (.slice (some ⟨g, 0, none⟩) (n - 1) cap) ∧ w'.ownsRow 0 29 5 (.slice (some ⟨g, 0, none⟩) (n - 1) cap) (n - 1) (encL (l.take i ++ l.drop (i + 1))) ∧ w.grownBy w' (some g) := by
  obtain ⟨inf, hinf, _, hs5, _⟩ := link_info'
  obtain ⟨cur, hb1, hb2, hb3, hb4, hb5⟩ := own_block hown
  have hcell : ∀ j u, (encL l)[j]? = some u → w.cell? ⟨g, j, none⟩ = some u := fun j u hu => by
    have := hown.cells (g := g) rfl j u hu
    rwa [add_plain, Nat.zero_add] at this
  have happ : ∀ a2 c : Nat, (i + 1 < n → a2 = (i + 1) * 5) → ∃ w1, (Builtin.append_ #[104, 104] 104 #[.slice (some ⟨g, 0, none⟩) i cap, .slice (some ⟨g, a2, none⟩) (n - (i + 1)) c]).run Tryz.prog w.drew = .ok (.slice (some ⟨g, 0, none⟩) (n - 1) cap) w1 ∧
      w1.ownsRow 0 29 5 (.slice (some ⟨g, 0, none⟩) (n - 1) cap) (n - 1) (encL (l.take i ++ l.drop (i + 1))) ∧ w.grownBy w1 (some g) := fun a2 c ha => by
    have h1 := own_take hown (Nat.le_of_lt hi)
    obtain ⟨w1, e1, e2, e3⟩ := run_append_fits (P := Tryz.prog) w.drew 0 104 104 29 inf 5 Tryz.underlying104 hinf hs5 g i cap _ (own_keep (w := w) h1 ((Below.refl _ _).drew)) ⟨g, a2, none⟩ (n - (i + 1)) c (encL (l.drop (i + 1)))
      (by rw [encL_len, List.length_drop, hn]) (fun j u hu => by
        rw [add_plain]
        have hj : j < (l.drop (i + 1)).length * 5 := by rw [← encL_len]; exact (List.getElem?_eq_some_iff.1 hu).1
        rw [List.length_drop, hn] at hj
        obtain rfl := ha (by omega)
        rw [← encL_drop, List.getElem?_drop] at hu
        exact hcell _ u hu) encL_one (by omega)
    rw [show i + (n - (i + 1)) = n - 1 by omega, encL_append] at *
    exact ⟨w1, e1, e2, ⟨e3.os, e3.tape, e3.output, e3.size, e3.block⟩⟩
  have hcl : (i : Int) + 1 ≤ (n : Int) := by omega
  have hne : ((i : Int) == (i : Int) + 1) = false := by simp; omega
  have hw1 : IntKind.i64.wrap ((i : Int) + 1) = (i : Int) + 1 := by rw [IntKind.wrap_i64]; omega
  have htn : ((i : Int) + 1).toNat = i + 1 := by omega
  have hb0 : (0 : Int) ≤ (i : Int) + 1 := by omega
  have hb1' : (i : Int) ≤ (i : Int) + 1 := by omega
  have hnc : (n : Int) ≤ (cap : Int) := by omega
  have hni : ¬ n = i := by omega
  have hmx : cap ≤ 9223372036854775807 := hb3
  have hic : (i : Int) ≤ (cap : Int) := by omega
  obtain ⟨m, hm⟩ : ∃ m, m + 1 = n := ⟨n - 1, by omega⟩
  have hm1 : n - 1 = m := by omega
  have hnm : n - m = 1 := by omega
  have hcm : ¬ cap = m := by omega
  have hmn : (m : Int) ≤ (n : Int) := by omega
  by_cases hcap : cap = i + 1
  · subst hcap
    obtain ⟨w1, e1, e2, e3⟩ := happ 0 0 (by omega)
    obtain ⟨cur1, q1, q2, q3, q4, q5⟩ := own_block e2
    rw [hm1] at e1 e2 ⊢
    have hclr := run_clearL w1 0 g (m * 5) ((i + 1) - m) cur1 q1 (by omega)
    have E1 := Lib.hid e1
    have EC := Lib.hid hclr
    have HFIN : Hid ((w1.setCells g (m * 5) Ln.zero.cells).ownsRow 0 29 5 (.slice (some ⟨g, 0, none⟩) m (i + 1)) m (encL (l.take i ++ l.drop (i + 1))) ∧ w.grownBy (w1.setCells g (m * 5) Ln.zero.cells) (some g)) := ⟨own_behind e2 _ (Nat.le_refl _) (by show m * 5 + 5 ≤ _; omega), ⟨e3.os, e3.tape, e3.output, Nat.le_trans e3.size (grown_setCells g _ _ w1).size, fun k hk hne => ((grown_setCells g _ _ w1).block k (Nat.lt_of_lt_of_le hk e3.size) hne).trans (e3.block k hk hne)⟩⟩
    clear e1 e2 e3 hclr q1 q2 q3 q4 q5 happ hcell hb1 hb2 hb3 hb4 hb5 hown
    go_enter Tryz.func155, Tryz.ntmps155
    go_wp2
    go_region_law (refine step_app9 rfl (.tmp 22) (.tmp 25) 104 rfl (by simp [Act.eval, Act.put]) (by simp [Act.eval, Act.put]) E1.out ?_)
    go_wp2
    rw [EC.out]
    simp only [Result.andThen]
    rw [Oper.upon_value]
    go_wp2
    go_ret
    exact ⟨rfl, HFIN.out⟩
  · obtain ⟨w1, e1, e2, e3⟩ := happ ((i + 1) * 5) (cap - (i + 1)) (fun _ => rfl)
    obtain ⟨cur1, q1, q2, q3, q4, q5⟩ := own_block e2
    rw [hm1] at e1 e2 ⊢
    have hclr := run_clearL w1 0 g (m * 5) (cap - m) cur1 q1 (by omega)
    have E1 := Lib.hid e1
    have EC := Lib.hid hclr
    have HFIN : Hid ((w1.setCells g (m * 5) Ln.zero.cells).ownsRow 0 29 5 (.slice (some ⟨g, 0, none⟩) m cap) m (encL (l.take i ++ l.drop (i + 1))) ∧ w.grownBy (w1.setCells g (m * 5) Ln.zero.cells) (some g)) := ⟨own_behind e2 _ (Nat.le_refl _) (by show m * 5 + 5 ≤ _; omega), ⟨e3.os, e3.tape, e3.output, Nat.le_trans e3.size (grown_setCells g _ _ w1).size, fun k hk hne => ((grown_setCells g _ _ w1).block k (Nat.lt_of_lt_of_le hk e3.size) hne).trans (e3.block k hk hne)⟩⟩
    clear e1 e2 e3 hclr q1 q2 q3 q4 q5 happ hcell hb1 hb2 hb3 hb4 hb5 hown
    go_enter Tryz.func155, Tryz.ntmps155
    go_wp2
    go_region_law (refine step_app9 rfl (.tmp 22) (.tmp 25) 104 rfl (by simp [Act.eval, Act.put]) (by simp [Act.eval, Act.put]) E1.out ?_)
    go_wp2
    rw [EC.out]
    simp only [Result.andThen]
    rw [Oper.upon_value]
    go_wp2
    go_ret
    exact ⟨rfl, HFIN.out⟩
theorem delete_any {w : World} {v : Value} {l : List Ln} (hown : w.ownsRow 0 29 5 v l.length (encL l)) (hl : l.length ≤ 1048576) (i : Nat) (hi : i < l.length) :
    Calls Tryz.prog 155 #[v, .int .i64 (i : Int), .int .i64 ((i : Int) + 1)] w fun e w' => ∃ u, e = .returned u ∧ w'.ownsRow 0 29 5 u (l.take i ++ l.drop (i + 1)).length (encL (l.take i ++ l.drop (i + 1))) ∧ w.grownBy w' v.ownBlock ∧ ∀ k, u.ownBlock = some k → v.ownBlock = some k ∨ w.heap.size ≤ k := by
  rcases hown.2 with ⟨_, e0⟩ | ⟨g, cap, cur, e, _⟩
  · omega
  · subst e
    refine (delete_some rfl hown hl i hi).mono ?_
    rintro e w' ⟨rfl, h1, h2⟩
    exact ⟨_, rfl, by rw [show (l.take i ++ l.drop (i + 1)).length = l.length - 1 by simp; omega]; exact h1, h2, fun k hk => .inl hk⟩

end Go.Proofs.YtlghphccmgmomaaGreat
