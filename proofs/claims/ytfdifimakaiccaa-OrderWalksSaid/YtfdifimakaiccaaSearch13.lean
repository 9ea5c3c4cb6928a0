/-
  Proved here: what slices.BinarySearchFunc answers on a row of links.
  Conditions: the comparison's own.
-/
import Derived.Test.YtfdifimakaiccaaOrdMem
import Derived.Shelf.Abstract
import Derived.Deep.QuietTactic
import Derived.BigQuiet
import Derived.IntWalk
import Derived.WalkSmall
namespace Go.Proofs.Ytfdifimakaiccaa
open Go Go.RowKit
set_option maxRecDepth 100000

/-! ### slices.BinarySearchFunc at links -/
/-- What a comparison with what is looked for answers, in every world that has come of w. -/
def CmpOk (g : Nat) (cb : Array Value) (s : ByteArray) (cft : Ln → Int) (w : World) : Prop :=
  ∀ W, Below w.heap.size w W → ∀ x : Ln, Calls Try.prog g (#[.agg #[.string x.str, .int .u64 (x.id : Nat), .int .u64 (x.ver : Nat), .int .i64 x.line, .int .i64 x.cl], .string s] ++ cb) W fun e w' => e = .returned (.int .i64 (cft x)) ∧ Below W.heap.size W w'
theorem count_bound {p : Ln → Bool} {l : List Ln} {i : Nat} (hi : i ≤ l.length) (h1 : ∀ t x, t < i → l[t]? = some x → p x = true) (h2 : ∀ t x, i ≤ t → l[t]? = some x → p x = false) : l.countP p = i := by
  induction l generalizing i with
  | nil => simp at hi; simp [hi]
  | cons a l ih =>
    cases i with
    | zero =>
      rw [List.countP_eq_zero]
      intro x hx
      obtain ⟨t, ht⟩ := List.getElem?_of_mem hx
      simp [h2 t x (Nat.zero_le _) ht]
    | succ i =>
      rw [List.countP_cons_of_pos (h1 0 a (by omega) rfl), ih (by simpa using hi) (fun t x ht hx => h1 (t + 1) x (by omega) (by simpa using hx)) (fun t x ht hx => h2 (t + 1) x (by omega) (by simpa using hx))]
/-- Whether what is looked for is at its place. -/
def isAt (cft : Ln → Int) (l : List Ln) (i : Nat) : Bool := match l[i]? with | some x => cft x == 0 | none => false
set_option maxHeartbeats 1600000 in
set_option maxRecDepth 100000 in
theorem search_any {w : World} {A : Option Addr} {l : List Ln} (n cap : Nat) (hn : l.length = n) (hr : RowL w A l) (s : ByteArray) (g : Nat) (cb : Array Value) (lb : Array Value) (cft : Ln → Int) (hlb : lb = #[])
    (eg : ∀ args w, (callFunc g args).run Try.prog w = .ok (.enter g args) w) (hc : CmpOk g cb s cft w) (hm : l.Pairwise fun a b => cft b < 0 → cft a < 0) :
    Calls Try.prog 29 #[.slice A n cap, .string s, .func (.func g) lb cb] w fun e w' =>
      e = .returned (.tuple #[.int .i64 (l.countP fun x => decide (cft x < 0) : Nat), .bool (isAt cft l (l.countP fun x => decide (cft x < 0)))]) ∧ Below w.heap.size w w' := by
  subst hlb
  have hmax := hr.1
  rw [hn] at hmax
  obtain ⟨B, hB⟩ : ∃ B, w.heap.size = B := ⟨_, rfl⟩
  obtain ⟨cnt, hcnt⟩ : ∃ cnt, (l.countP fun x => decide (cft x < 0)) = cnt := ⟨_, rfl⟩
  obtain ⟨fin, hfin⟩ : ∃ fin, isAt cft l cnt = fin := ⟨_, rfl⟩
  rw [hcnt, hfin, hB]
  have HR := Lib.hid hr
  have HN := Lib.hid hn
  have HC : Hid (∀ W, Below B w W → ∀ x : Ln, Calls Try.prog g (#[.agg #[.string x.str, .int .u64 (x.id : Nat), .int .u64 (x.ver : Nat), .int .i64 x.line, .int .i64 x.cl], .string s] ++ cb) W fun e w' => e = .returned (.int .i64 (cft x)) ∧ Below W.heap.size W w') := hB ▸ hc
  have HBS := Lib.hid hB
  have HCN := Lib.hid hcnt
  have HF := Lib.hid hfin
  have HM : Hid (∀ a b x y, a < b → l[a]? = some x → l[b]? = some y → cft y < 0 → cft x < 0) := fun a b x y hab hx hy => by
    obtain ⟨ha, rfl⟩ := List.getElem?_eq_some_iff.1 hx
    obtain ⟨hb, rfl⟩ := List.getElem?_eq_some_iff.1 hy
    exact List.pairwise_iff_getElem.1 hm a b ha hb hab
  clear hr hn hc hcnt hfin hm hB
  have eg2 := eg
  go_enter Try.func29, Try.ntmps29
  go_wp2
  go_loopg [9, 10] n (fun gk s9 s10 wx => ∃ lo hi : Nat, s9 = .int .i64 lo ∧ s10 = .int .i64 hi ∧ lo ≤ hi ∧ hi ≤ n ∧ hi - lo ≤ gk ∧ Hid (Below B w wx) ∧ Hid (∀ t x, t < lo → l[t]? = some x → cft x < 0) ∧ Hid (∀ t x, hi ≤ t → l[t]? = some x → 0 ≤ cft x))
  case atStart => exact ⟨0, n, rfl, rfl, Nat.zero_le _, Nat.le_refl _, by omega, Below.refl _ _, fun t x ht => by omega, fun t x ht hx => by have := (List.getElem?_eq_some_iff.1 hx).1; have := HN.out; omega⟩
  case round =>
    obtain ⟨lo, hi, rfl, rfl, hlh, hin, hgk, HB, H1, H2⟩ := hrel
    by_cases hlt : lo < hi
    · have hmid : (lo + hi) / 2 < l.length := by have := HN.out; omega
      have hgi := List.getElem?_eq_getElem hmid
      generalize l[(lo + hi) / 2]'hmid = x at *
      obtain ⟨b, off, rfl, -, c0, c1, c2, c3, c4⟩ := (HR.out.below (HBS.out.symm ▸ HB.out)).at_ hgi
      have HG := Lib.hid hgi
      have HCX := Lib.hid (HC.out wr HB.out x)
      have hbw : B ≤ wr.heap.size := by have := HB.out.size; have := HBS.out; omega
      clear hgi hmid
      by_cases hx : cft x < 0
      · have H1' : Hid (∀ t y, t < (lo + hi) / 2 + 1 → l[t]? = some y → cft y < 0) := fun t y ht hy => by
          rcases Nat.lt_or_ge t ((lo + hi) / 2) with h | h
          · exact HM.out t _ y x h hy HG.out hx
          · obtain rfl : t = (lo + hi) / 2 := by omega
            rw [HG.out] at hy
            cases hy
            exact hx
        generalize cft x = cx at *
        generalize x.str = x0 at *
        generalize (x.id : Int) = x1 at *
        generalize (x.ver : Int) = x2 at *
        generalize x.line = x3 at *
        generalize x.cl = x4 at *
        go_wp2_with (go_at_fn g; refine HCX.out.mono ?_; rintro e w' ⟨rfl, hb'⟩)
        go_roundg (hi - ((lo + hi) / 2 + 1))
        case measure => omega
        case rel => exact ⟨(lo + hi) / 2 + 1, hi, by go_num, rfl, by omega, hin, Nat.le_refl _, HB.out.trans (hb'.mono hbw), H1', H2⟩
      · have H2' : Hid (∀ t y, (lo + hi) / 2 ≤ t → l[t]? = some y → 0 ≤ cft y) := fun t y ht hy => by
          rcases Nat.lt_or_ge ((lo + hi) / 2) t with h | h
          · refine Int.not_lt.1 fun e => hx (HM.out _ t x y h HG.out hy e)
          · obtain rfl : t = (lo + hi) / 2 := by omega
            rw [HG.out] at hy
            cases hy
            omega
        generalize cft x = cx at *
        generalize x.str = x0 at *
        generalize (x.id : Int) = x1 at *
        generalize (x.ver : Int) = x2 at *
        generalize x.line = x3 at *
        generalize x.cl = x4 at *
        go_wp2_with (go_at_fn g; refine HCX.out.mono ?_; rintro e w' ⟨rfl, hb'⟩)
        go_roundg ((lo + hi) / 2 - lo)
        case measure => omega
        case rel => exact ⟨lo, (lo + hi) / 2, rfl, by go_num, by omega, by omega, Nat.le_refl _, HB.out.trans (hb'.mono hbw), H1, H2'⟩
    · obtain rfl : hi = lo := by omega
      have ecnt : cnt = hi := by
        rw [← HCN.out]
        exact count_bound (by have := HN.out; omega) (fun t x ht hx => decide_eq_true (H1.out t x ht hx)) (fun t x ht hx => decide_eq_false (by have := H2.out t x ht hx; omega))
      subst ecnt
      by_cases hln : cnt < n
      · have hgi := List.getElem?_eq_getElem (show cnt < l.length by have := HN.out; omega)
        generalize l[cnt]'(by have := HN.out; omega) = x at *
        obtain ⟨b, off, rfl, -, c0, c1, c2, c3, c4⟩ := (HR.out.below (HBS.out.symm ▸ HB.out)).at_ hgi
        have HCX := Lib.hid (HC.out wr HB.out x)
        have hbw : B ≤ wr.heap.size := by have := HB.out.size; have := HBS.out; omega
        have hf2 : (cft x == 0) = fin := by rw [← HF.out]; unfold isAt; rw [hgi]
        clear hgi
        generalize cft x = cx at *
        generalize x.str = x0 at *
        generalize (x.id : Int) = x1 at *
        generalize (x.ver : Int) = x2 at *
        generalize x.line = x3 at *
        generalize x.cl = x4 at *
        go_wp2_with (go_at_fn g; refine HCX.out.mono ?_; rintro e w' ⟨rfl, hb'⟩)
        all_goals
          go_ret2
          exact ⟨by first | rfl | simp [hf2], HB.out.trans (hb'.mono hbw)⟩
      · obtain rfl : fin = false := by rw [← HF.out]; unfold isAt; rw [List.getElem?_eq_none (by have := HN.out; omega)]
        have hln2 : ¬ (cnt : Int) < (n : Int) := by omega
        go_wp2
        go_ret2
        exact ⟨rfl, HB.out⟩

end Go.Proofs.Ytfdifimakaiccaa
