/-
  Proved here: a list of acts that came in, read as a list; what the statements' own played leaves.
  Conditions: none.
-/
import Derived.Test.YtjebpggoajfjkaaPoolF
import Derived.Deep.Slices
import Derived.Deep.Fields
import Derived.ChangeSame
import Derived.Deep.RegionWith
namespace Go.Proofs.Ytjebpggoajfjkaa
open Go Go.RowKit

/-- An act of the statements', as it came in. -/
structure ActP where
  kd : Int
  line : Int
  cl : Int
def ActP.cells (x : ActP) : List Value := [.int .i64 x.kd, .int .i64 x.line, .int .i64 x.cl]
def IsActs (w : World) (a : Option Addr) (len : Nat) (xs : List ActP) : Prop :=
  xs.length = len ∧ len ≤ maxLen ∧ (0 < len → ∃ b off, a = some ⟨b, off, none⟩ ∧ b < w.heap.size ∧ ∀ i x, xs[i]? = some x → ∀ j v, x.cells[j]? = some v → w.cell? ⟨b, off + (i * 3 + j), none⟩ = some v)
theorem IsActs.below {w w' : World} {a : Option Addr} {len : Nat} {xs : List ActP} (h : IsActs w a len xs) (hb : Below w.heap.size w w') : IsActs w' a len xs :=
  ⟨h.1, h.2.1, fun hl => by
    obtain ⟨b, off, e, hlt, hc⟩ := h.2.2 hl
    exact ⟨b, off, e, Nat.lt_of_lt_of_le hlt hb.size, fun i x hx j v hv => (hb.cell (p := ⟨b, off + (i * 3 + j), none⟩) hlt).trans (hc i x hx j v hv)⟩⟩
theorem IsActs.at_ {w : World} {a : Option Addr} {len : Nat} {xs : List ActP} (h : IsActs w a len xs) {i : Nat} (hi : i < len) : ∃ x b off, xs[i]? = some x ∧ a = some ⟨b, off, none⟩ ∧ b < w.heap.size ∧ w.cell? ⟨b, off + i * 3, none⟩ = some (.int .i64 x.kd) ∧ w.cell? ⟨b, off + i * 3 + 1, none⟩ = some (.int .i64 x.line) ∧ w.cell? ⟨b, off + i * 3 + 2, none⟩ = some (.int .i64 x.cl) := by
  obtain ⟨b, off, e, hb, hc⟩ := h.2.2 (by omega)
  have hi' : i < xs.length := by rw [h.1]; exact hi
  have hx := hc i _ (List.getElem?_eq_getElem hi')
  exact ⟨xs[i], b, off, List.getElem?_eq_getElem hi', e, hb, hx 0 _ rfl, by rw [Nat.add_assoc]; exact hx 1 _ rfl, by rw [Nat.add_assoc]; exact hx 2 _ rfl⟩
theorem list_of {α : Type} (Q : Nat → α → Prop) (n : Nat) (h : ∀ i, i < n → ∃ x, Q i x) : ∃ xs : List α, xs.length = n ∧ ∀ i x, xs[i]? = some x → Q i x := by
  induction n with
  | zero => exact ⟨[], rfl, fun i x h => by cases h⟩
  | succ n ih =>
    obtain ⟨xs, hl, hx⟩ := ih (fun i hi => h i (by omega))
    obtain ⟨y, hy⟩ := h n (by omega)
    refine ⟨xs ++ [y], by simp [hl], fun i x hi => ?_⟩
    rcases Nat.lt_or_ge i xs.length with h1 | h1
    · rw [List.getElem?_append_left h1] at hi
      exact hx i x hi
    · rw [List.getElem?_append_right h1] at hi
      obtain ⟨h2, rfl⟩ := List.getElem?_eq_some_iff.1 hi
      have : i = n := by simp at h2; omega
      subst this
      simpa [hl] using hy
section
open Go.ChangeShapes Go.WideShapes Go.Deep
variable {H : Type} {enc : TypeId × Value → H} {P : Program} {w : World} {base : Nat} {spare : Nat → Bool} {held : Bool}
theorem open_slice_fields {t e : TypeId} {fs : Array Field} {fuel : Nat} {cs : List Value} {x : DataW H × List MemPlace} (ht : P.underlying t = some (.slice e)) (he : P.underlying e = some (.struct fs))
    (hone : oneCellFields P fs = true) (hC : P.cellsOf e = fs.size) (h : DataW.trod enc P w base spare held fuel t cs = some x) :
    (cs = [.slice none 0 0]) ∨
    ∃ (a : Addr) (len cap : Nat), cs = [.slice (some a) len cap] ∧ len ≤ cap ∧ cap ≤ maxLen ∧
      ∀ i, i < len → ∃ n, ∀ (j : Nat) (f : Field), fs[j]? = some f → ∃ (v : Value) (y : DataW H × List MemPlace), w.cell? (a.add (i * fs.size + j)) = some v ∧ DataW.trod enc P w base spare held n f.type [v] = some y := by
  rcases open_slice ht h with h0 | ⟨a, len, cap, m, n, D, Pl, hcs, hb, hl, hm, hmm, hx, hi⟩
  · exact .inl h0.1
  · refine .inr ⟨a, len, cap, hcs, hl, hm, fun i him => ?_⟩
    obtain ⟨cs', hc, ht'⟩ := hi i (by rw [hmm]; split <;> omega)
    rw [hC] at hc
    obtain ⟨ys, n', hn', hy, hlen, hyl, hf⟩ := DataW.trod_struct he ht'
    obtain ⟨_, hcl, hat⟩ := World.cells?_some hc
    refine ⟨n', fun j f hj => ?_⟩
    obtain ⟨ho, hk⟩ := hone_of hone j f hj
    have hjl : j < fs.size := (Array.getElem?_eq_some_iff.1 hj).1
    have hcell := hat j hjl
    have hv : cs'[j]? = some (cs'[j]'(by omega)) := List.getElem?_eq_getElem (by omega)
    have h1 := hf j f hj
    rw [ho, hk] at h1
    have hone' : (cs'.drop j).take 1 = [cs'[j]'(by omega)] := by
      rw [List.drop_eq_getElem_cons (by omega)]
      rfl
    rw [hone'] at h1
    have hys : ys[j]? = some (ys[j]'(by omega)) := List.getElem?_eq_getElem (by omega)
    refine ⟨_, _, ?_, h1.trans hys⟩
    rw [← Go.Deep.add_add, hcell, hv]
end
theorem isActs_of {H : Type} {enc : TypeId × Value → H} {w : World} {base : Nat} {held : Bool} {fuel : Nat} {a : Option Addr} {len cap : Nat} {x : DataW H × List MemPlace}
    (h : DataW.trod enc Try.prog w base (fun _ => true) held fuel 22 [.slice a len cap] = some x) : ∃ xs, IsActs w a len xs := by
  rcases open_slice_fields Try.underlying22 Try.underlying33 (by kernel_rfl) (by kernel_rfl) h with h0 | ⟨ad, l, c, hcs, hl, hm, hf⟩
  · simp only [List.cons.injEq, Value.slice.injEq, and_true] at h0
    obtain ⟨rfl, rfl, rfl⟩ := h0
    exact ⟨[], rfl, by simp, fun h => by omega⟩
  · simp only [List.cons.injEq, Value.slice.injEq, and_true] at hcs
    obtain ⟨rfl, rfl, rfl⟩ := hcs
    have hall : ∀ i, i < len → ∃ x : ActP, ∀ j v, x.cells[j]? = some v → w.cell? (ad.add (i * 3 + j)) = some v := by
      intro i hi
      obtain ⟨n, hfi⟩ := hf i hi
      obtain ⟨v0, y0, c0, t0⟩ := hfi 0 _ rfl
      obtain ⟨v1, y1, c1, t1⟩ := hfi 1 _ rfl
      obtain ⟨v2, y2, c2, t2⟩ := hfi 2 _ rfl
      obtain ⟨z0, e0, _⟩ := DataW.trod_int Try.underlying3 t0
      obtain ⟨z1, e1, _⟩ := DataW.trod_int Try.underlying3 t1
      obtain ⟨z2, e2, _⟩ := DataW.trod_int Try.underlying3 t2
      obtain rfl : v0 = .int .i64 z0 := by simpa using e0
      obtain rfl : v1 = .int .i64 z1 := by simpa using e1
      obtain rfl : v2 = .int .i64 z2 := by simpa using e2
      refine ⟨⟨z0, z1, z2⟩, fun j v hv => ?_⟩
      match j, hv with
      | 0, hv => rw [← hv]; exact c0
      | 1, hv => rw [← hv]; exact c1
      | 2, hv => rw [← hv]; exact c2
      | j + 3, hv => simp [ActP.cells] at hv
    obtain ⟨xs, hxl, hx⟩ := list_of _ len hall
    refine ⟨xs, hxl, by omega, fun hpos => ?_⟩
    obtain ⟨x0, h0⟩ := hall 0 hpos
    have h00 := h0 0 _ rfl
    obtain ⟨b, off, spot⟩ := ad
    have hspot : spot = none := by simpa [Addr.add] using World.cell?_spot h00
    subst hspot
    refine ⟨b, off, rfl, by simpa [Addr.add] using World.block_lt_of_cell? _ _ h00, fun i x hi j v hv => ?_⟩
    rw [← add_plain]
    exact hx i x hi j v hv
/-- A pool behind an act. -/
def playL (n : Nat) (L : List Tk) (x : ActP) : List Tk := if x.kd = 0 then takeL n L x.cl else if x.kd = 1 then giveL L x.line else if x.kd = 2 then markL n L x.line x.cl else L
def playedL (n : Nat) (xs : List ActP) : List Tk := xs.foldl (playL n) []
/-- A pool behind acts, in memory of its own. -/
def PlayedTo (w : World) (n : Nat) (L : List Tk) (e : Ending) (w' : World) : Prop := ∃ p q, e = .returned (.pointer (some ⟨p, 0, none⟩)) ∧ w.heap.size ≤ p ∧ w.heap.size ≤ q ∧ PlP w' p q n L ∧ Below w.heap.size w w'
theorem playedL_step (n : Nat) (xs : List ActP) (i : Nat) (x : ActP) (h : xs[i]? = some x) : playedL n (xs.take (i + 1)) = playL n (playedL n (xs.take i)) x := by
  obtain ⟨hi, rfl⟩ := List.getElem?_eq_some_iff.1 h
  unfold playedL
  rw [List.take_succ_eq_append_getElem hi, List.foldl_append]
  rfl
set_option maxHeartbeats 1600000 in
theorem played_any (w : World) (s : Int) (a : Option Addr) (len cap : Nat) (xs : List ActP) (h : IsActs w a len xs) : Calls Try.prog 24 #[.int .i64 s, .slice a len cap] w (PlayedTo w (1 + low s 32) (playedL (1 + low s 32) xs)) := by
  have HL : Hid (Calls Try.prog 30 #[.int .i64 s, .int .i64 32] w fun e w' => e = .returned (.int .i64 (low s 32 : Nat)) ∧ w = w') := low_any s 32 w (by omega) (by omega)
  have hlt := low_lt s (n := 32) (by omega)
  have hlen := h.2.1
  unfold maxLen at hlen
  obtain ⟨n, hn⟩ : ∃ n, 1 + low s 32 = n := ⟨_, rfl⟩
  have hn1 : 1 + ((low s 32 : Nat) : Int) = (n : Int) := by omega
  rw [hn]
  have HN := Lib.hid (fun w' => new_ok n (by omega) (by omega) w')
  unfold MadeP at HN
  have HA := Lib.hid h
  have hn32 : n ≤ 32 := by omega
  have HFIN : Hid (∀ p q w', w.heap.size ≤ p → w.heap.size ≤ q → PlP w' p q n (playedL n (xs.take len)) → Below w.heap.size w w' → PlayedTo w n (playedL n xs) (.returned (.pointer (some ⟨p, 0, none⟩))) w') := fun p q w' a b c d => ⟨p, q, rfl, a, b, by rw [List.take_of_length_le (by have := h.1; omega)] at c; exact c, d⟩
  obtain ⟨R, hR⟩ : ∃ R, PlayedTo w n (playedL n xs) = R := ⟨_, rfl⟩
  rw [hR] at HFIN ⊢
  obtain ⟨g, hg⟩ : ∃ g, w.heap.size = g := ⟨_, rfl⟩
  have HG := Lib.hid hg
  rw [hg] at HFIN
  clear hR hn hlt h hg
  go_enter Try.func24, Try.ntmps24
  go_wp2_with fail
  refine HL.out.mono ?_
  rintro e w' ⟨rfl, rfl⟩
  go_wp2_with fail
  refine (HN.out _).mono ?_
  rintro e w1 ⟨p, q, rfl, hp, hq, hpl, hb⟩
  have HP : Hid (g ≤ p) := by show g ≤ p; rw [← HG.out]; exact hp
  have HQ : Hid (g ≤ q) := by show g ≤ q; rw [← HG.out]; exact hq
  have HPL := Lib.hid hpl
  have HB : Hid (Below g w w1) := by show Below g w w1; rw [← HG.out]; exact hb
  clear hp hq hpl hb hn1
  go_wp2
  go_loopg [7] len (fun gk s7 wx => ∃ i : Nat, i + gk = len ∧ s7 = .int .i64 i ∧ Hid (PlP wx p q n (playedL n (xs.take i))) ∧ Hid (Below g w wx))
  case atStart => exact ⟨0, by omega, rfl, HPL, HB⟩
  case round =>
    obtain ⟨i, hin, rfl, HPr, HW⟩ := hrel
    cases gk with
    | zero =>
      obtain rfl : i = len := by omega
      have hii : ¬ (i : Int) < (i : Int) := by omega
      go_wp2
      exact HFIN.out _ _ _ HP.out HQ.out HPr.out HW.out
    | succ gk =>
      have hii : (i : Int) < (len : Int) := by omega
      have HAr : Hid (IsActs wr a len xs) := HA.out.below (HG.out ▸ HW.out)
      obtain ⟨x, b, off, hx, rfl, hbs, c0, c1, c2⟩ := HAr.out.at_ (i := i) (by omega)
      have HST := Lib.hid (playedL_step n xs i x hx)
      have HBT : Hid (∀ w', Turns p q wr w' → Below g w w') := fun w' ht => HW.out.trans (ht.below HP.out HQ.out (by have := HG.out; have := HW.out.size; omega))
      clear hx hbs
      generalize playedL n (xs.take i) = L at *
      have HT := Lib.hid (take_any HPr.out x.cl)
      have HGV := Lib.hid (give_any HPr.out x.line)
      have HMK := Lib.hid (mark_any HPr.out.drew x.line x.cl)
      unfold MarkTo at HMK
      unfold playL at HST
      rcases Classical.em (x.kd = 0) with h0 | h0
      · have k0 : (x.kd == 0) = true := by simpa using h0
        rw [if_pos h0] at HST
        clear h0
        go_wp2_with fail
        refine HT.out.mono ?_
        rintro e w2 ⟨rfl, hp2, ht2⟩
        have HP2 := Lib.hid hp2
        have HT2 := Lib.hid ht2
        clear hp2 ht2
        go_wp2
        go_roundg gk
        case measure => omega
        case rel => exact ⟨i + 1, by omega, by go_num, (by rw [HST.out]; exact HP2), HBT.out _ HT2.out⟩
      · have k0 : (x.kd == 0) = false := by simpa using h0
        rw [if_neg h0] at HST
        clear h0
        rcases Classical.em (x.kd = 1) with h1 | h1
        · have k1 : (x.kd == 1) = true := by simpa using h1
          rw [if_pos h1] at HST
          clear h1
          go_wp2_with fail
          refine HGV.out.mono ?_
          rintro e w2 ⟨rfl, hp2, ht2⟩
          have HP2 := Lib.hid hp2
          have HT2 := Lib.hid ht2
          clear hp2 ht2
          go_wp2
          go_roundg gk
          case measure => omega
          case rel => exact ⟨i + 1, by omega, by go_num, (by rw [HST.out]; exact HP2), HBT.out _ HT2.out⟩
        · have k1 : (x.kd == 1) = false := by simpa using h1
          rw [if_neg h1] at HST
          clear h1
          rcases Classical.em (x.kd = 2) with h2 | h2
          · have k2 : (x.kd == 2) = true := by simpa using h2
            rw [if_pos h2] at HST
            clear h2
            go_wp2
            go_region_with ((go_at_call 19; refine HMK.out.mono ?_; rintro e w2 ⟨rfl, hp2, ht2⟩))
            all_goals
              have HP2 := Lib.hid hp2
              have HT2 : Hid (Turns p q wr w2) := (Turns.refl p q wr).drew.trans ht2
              clear hp2 ht2
              go_wp2
              go_roundg gk
              case measure => omega
              case rel => exact ⟨i + 1, by omega, by go_num, (by rw [HST.out]; exact HP2), HBT.out _ HT2.out⟩
          · have k2 : (x.kd == 2) = false := by simpa using h2
            rw [if_neg h2] at HST
            clear h2
            go_wp2
            go_roundg gk
            case measure => omega
            case rel => exact ⟨i + 1, by omega, by go_num, (by rw [HST.out]; exact HPr), HW⟩

end Go.Proofs.Ytjebpggoajfjkaa
