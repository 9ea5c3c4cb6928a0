/-
  Proved here: what the statements' own large and played answer and leave.
  Conditions: none.
-/
import Derived.Test.YtfdifimakaiccaaTg13
import Derived.Test.YtfdifimakaiccaaActs13
namespace Go.Proofs.Ytfdifimakaiccaa
open Go Go.RowKit
set_option maxRecDepth 100000


def largeB (xs : List ActP) : Bool := decide (120 < xs.length) || xs.any fun x => decide (200 < x.l.k.length)
theorem large_no {xs : List ActP} (h : largeB xs = false) : xs.length ≤ 120 ∧ ∀ x ∈ xs, x.l.k.length ≤ 200 := by
  simp only [largeB, Bool.or_eq_false_iff, decide_eq_false_iff_not, List.any_eq_false, decide_eq_true_eq] at h
  exact ⟨by omega, fun x hx => by have := h.2 x hx; omega⟩
theorem any_at {α : Type} (p : α → Bool) (L : List α) (i : Nat) (x : α) (hx : L[i]? = some x) (hp : p x = true) : L.any p = true := List.any_eq_true.2 ⟨x, List.mem_of_getElem? hx, hp⟩
theorem any_no {α : Type} (p : α → Bool) (L : List α) (h : ∀ j, j < L.length → ∃ a, L[j]? = some a ∧ p a = false) : L.any p = false := by
  rw [List.any_eq_false]
  intro x hx
  obtain ⟨j, hj, e⟩ := List.getElem_of_mem hx
  obtain ⟨a, ha, hp⟩ := h j hj
  rw [List.getElem?_eq_getElem hj, e] at ha
  cases ha
  simp [hp]
theorem str_size (x : Ln) : x.str.size = x.k.length := by show x.k.toArray.size = _; simp
set_option maxHeartbeats 800000 in
theorem large_any {w : World} {a : Option Addr} {len cap : Nat} {xs : List ActP} (h : IsActs w a len xs) : Calls Try.prog 8 #[.slice a len cap] w fun e w' => e = .returned (.bool (largeB xs)) ∧ w = w' := by
  obtain ⟨R, hR⟩ : ∃ R : Ending → World → Prop, (fun e w' => e = .returned (.bool (largeB xs)) ∧ w = w') = R := ⟨_, rfl⟩
  rw [hR]
  have hlen := h.1.1
  have hmax := h.2.1
  have HA := Lib.hid h
  have HN := Lib.hid hlen
  rcases Nat.lt_or_ge 120 len with hbig | hsm
  · have h1 : (120 : Int) < (len : Int) := by omega
    have HR : Hid (R (.returned (.bool true)) w) := by rw [← hR]; exact ⟨by rw [largeB, hlen]; simp [hbig], rfl⟩
    clear hR h hlen hbig
    go_enter Try.func8, Try.ntmps8
    go_wp2
    exact HR.out
  · have h1 : ¬ (120 : Int) < (len : Int) := by omega
    have HY : Hid (∀ (i : Nat) (x : ActP), xs[i]? = some x → 200 < x.l.k.length → R (.returned (.bool true)) w) := fun i x hx hk => by
      rw [← hR]
      exact ⟨by rw [largeB, any_at _ xs i x hx (by simpa using hk)]; simp, rfl⟩
    have HNO : Hid ((∀ j, j < xs.length → ∃ a, xs[j]? = some a ∧ decide (200 < a.l.k.length) = false) → R (.returned (.bool false)) w) := fun hh => by
      rw [← hR]
      exact ⟨by rw [largeB, any_no _ xs hh, hlen]; simp; omega, rfl⟩
    clear hR h hlen
    go_enter Try.func8, Try.ntmps8
    go_wp2
    go_loopg [3] len (fun gk s3 wx => ∃ i : Nat, i + gk = len ∧ s3 = .int .i64 i ∧ w = wx ∧ Hid (∀ j, j < i → ∃ a, xs[j]? = some a ∧ decide (200 < a.l.k.length) = false))
    case atStart => exact ⟨0, by omega, rfl, rfl, fun j hj => by omega⟩
    case round =>
      obtain ⟨i, hig, rfl, rfl, HT⟩ := hrel
      cases gk with
      | zero =>
        obtain rfl : i = len := by omega
        have hii : ¬ (i : Int) < (i : Int) := by omega
        go_wp2
        exact HNO.out (HN.out.symm ▸ HT.out)
      | succ gk =>
        have hii : (i : Int) < (len : Int) := by omega
        obtain ⟨x, b, off, hx, hkl, rfl, _, c0, c1, c2, c3, c4, c5, c6, c7⟩ := HA.out.at_ (i := i) (by omega)
        have hsz := str_size x.l
        have HX := Lib.hid hx
        have hkm : x.l.str.size ≤ 9223372036854775807 := by rw [hsz]; unfold maxLen at hkl; omega
        rcases Nat.lt_or_ge 200 x.l.k.length with hb | hb
        · have HYY := Lib.hid (HY.out i x hx hb)
          have hk2 : (200 : Int) < (x.l.str.size : Int) := by rw [hsz]; omega
          generalize x.l.str = s at *
          clear hx hkl hsz hb
          go_wp2
          exact HYY.out
        · have hk2 : ¬ (200 : Int) < (x.l.str.size : Int) := by rw [hsz]; omega
          have HT2 : Hid (∀ j, j < i + 1 → ∃ a, xs[j]? = some a ∧ decide (200 < a.l.k.length) = false) := fun j hj => by
            rcases Nat.lt_or_ge j i with h | h
            · exact HT.out j h
            · obtain rfl : j = i := by omega
              exact ⟨x, HX.out, by simp; omega⟩
          generalize x.l.str = s at *
          clear hx hkl hsz hb HT
          go_wp2
          go_roundg gk
          case measure => omega
          case rel => exact ⟨i + 1, by omega, by go_num, rfl, HT2⟩
/-- A table's links behind an act. -/
def stepT (L : List Ln) (x : ActP) : List Ln := if x.kd = 0 then setT L x.l else if x.kd = 1 then dropT L x.l.k else L
def playT (xs : List ActP) : List Ln := xs.foldl stepT []
theorem playT_snoc (xs : List ActP) (x : ActP) : playT (xs ++ [x]) = stepT (playT xs) x := by simp [playT]
theorem stepT_rises {L : List Ln} (h : RisesK L) (x : ActP) : RisesK (stepT L x) := by
  unfold stepT
  split
  · exact risesK_set h _
  · split
    · exact risesK_drop h _
    · exact h
theorem stepT_len {L : List Ln} (h : RisesK L) (x : ActP) : (stepT L x).length ≤ L.length + 1 := by
  unfold stepT
  split
  · rw [setT_len h]; split <;> omega
  · split
    · exact Nat.le_trans (List.length_filter_le _ _) (Nat.le_succ _)
    · omega
theorem play_take {xs : List ActP} {i : Nat} {x : ActP} (h : xs[i]? = some x) : playT (xs.take (i + 1)) = stepT (playT (xs.take i)) x := by
  have hi := (List.getElem?_eq_some_iff.1 h).1
  rw [List.take_add_one, h]
  exact playT_snoc _ _
theorem OdTo.below {w0 w w' : World} {g p : Nat} {m : Nat → Value} {L L' : List Ln} (h : Tg w0 g w p m L) (hb : OdTo w p m L' w') : Below g w w' := by
  obtain ⟨m', h1, h2, h3⟩ := hb
  exact h2.below h.own h.gw
set_option maxRecDepth 100000 in
set_option maxHeartbeats 1600000 in
theorem played_any {w : World} {a : Option Addr} {len cap : Nat} {xs : List ActP} (h : IsActs w a len xs) (hs : largeB xs = false) : Calls Try.prog 21 #[.slice a len cap] w fun e w' => e = .returned (.pointer (some ⟨w.heap.size, 0, none⟩)) ∧ ∃ m, Tg w w.heap.size w' w.heap.size m (playT xs) := by
  obtain ⟨hl1, hl2⟩ := large_no hs
  have hlen := h.1.1
  obtain ⟨g, hg⟩ : ∃ g, w.heap.size = g := ⟨_, rfl⟩
  have HG := Lib.hid hg
  have HA := Lib.hid h
  have HN := Lib.hid (odnew_any w)
  rw [hg] at HN ⊢
  have HK : Hid (∀ x ∈ xs, x.l.k.length ≤ 200) := hl2
  have HE : Hid (xs.take len = xs) := by show _ = _; rw [← hlen]; exact List.take_length
  have hlen2 : len ≤ 120 := by omega
  clear h hs hl1 hl2 hlen hg
  go_enter Try.func21, Try.ntmps21
  go_wp2_with fail
  refine HN.out.mono ?_
  rintro e w1 ⟨rfl, ht1, hb1⟩
  have HT1 := Lib.hid (tg_new HG.out ht1 hb1)
  clear ht1 hb1
  go_wp2
  go_loopg [4] len (fun gk s4 wx => ∃ (i : Nat) (m : Nat → Value), i + gk = len ∧ s4 = .int .i64 i ∧ Hid (Tg w g wx g m (playT (xs.take i))) ∧ Hid ((playT (xs.take i)).length ≤ i))
  case atStart => exact ⟨0, _, by omega, rfl, HT1, Nat.zero_le _⟩
  case round =>
    obtain ⟨i, m, hig, rfl, HT, HL⟩ := hrel
    cases gk with
    | zero =>
      obtain rfl : i = len := by omega
      have hii : ¬ (i : Int) < (i : Int) := by omega
      go_wp2
      go_ret
      rw [← HE.out]
      exact ⟨rfl, m, HT.out⟩
    | succ gk =>
      have hii : (i : Int) < (len : Int) := by omega
      obtain ⟨x, b, off, hx, _, rfl, hbl, c0, c1, c2, c3, c4, c5, c6, c7⟩ := (HA.out.below (HG.out.symm ▸ HT.out.bel)).at_ (i := i) (by omega)
      have hpt := play_take hx
      have hkx := HK.out x (List.mem_of_getElem? hx)
      have hst := stepT_len HT.out.tb.rises x
      have hL := HL.out
      have HL2 : Hid ((stepT (playT (xs.take i)) x).length ≤ i + 1) := by show _ ≤ _; omega
      obtain ⟨L, hLe⟩ : ∃ L, playT (xs.take i) = L := ⟨_, rfl⟩
      rw [hLe] at hpt HT HL2 hL
      have HPT := Lib.hid hpt
      by_cases h0 : x.kd = 0
      · have hst0 : stepT L x = setT L x.l := by unfold stepT; rw [if_pos h0]
        have k0 : (x.kd == 0) = true := by simpa using h0
        have HS : Hid (Calls Try.prog 11 #[.pointer (some ⟨g, 0, none⟩), .agg #[.string x.l.str, .int .u64 (x.l.id : Nat), .int .u64 (x.l.ver : Nat), .int .i64 x.l.line, .int .i64 x.l.cl]] wr fun y w' => y = .returned (.bool (hasT L x.l.k)) ∧ OdTo wr g m (stepT L x) w') := by
          rw [hst0]
          exact odset_any HT.out.tb x.l (by omega) (by omega)
        generalize hasT L x.l.k = hh at *
        generalize stepT L x = L' at *
        clear hst0 h0 hx hst hLe hpt hkx
        generalize x.l.str = x0 at *
        generalize (x.l.id : Int) = x1 at *
        generalize (x.l.ver : Int) = x2 at *
        generalize x.l.line = x3 at *
        generalize x.l.cl = x4 at *
        generalize x.kd = kd at *
        go_wp2_with fail
        refine HS.out.mono ?_
        rintro e w2 ⟨rfl, hb2⟩
        obtain ⟨m2, ht2⟩ := HT.out.moved hb2
        have HT2 := Lib.hid ht2
        clear hb2 ht2
        go_wp2
        go_roundg gk
        case measure => omega
        case rel => exact ⟨i + 1, m2, by omega, by go_num, by rw [HPT.out]; exact HT2, by rw [HPT.out]; exact HL2⟩
      · have k0 : (x.kd == 0) = false := by simpa using h0
        by_cases h1 : x.kd = 1
        · have hst0 : stepT L x = dropT L x.l.k := by unfold stepT; rw [if_neg h0, if_pos h1]
          have k1 : (x.kd == 1) = true := by simpa using h1
          have HS : Hid (Calls Try.prog 13 #[.pointer (some ⟨g, 0, none⟩), .string x.l.str] wr fun y w' => y = .returned (.bool (hasT L x.l.k)) ∧ OdTo wr g m (stepT L x) w') := by
            rw [hst0]
            exact oddrop_any HT.out.tb x.l.str (by rw [str_size]; omega) (by omega)
          generalize hasT L x.l.k = hh at *
          generalize stepT L x = L' at *
          clear hst0 h0 h1 hx hst hLe hpt hkx
          generalize x.l.str = x0 at *
          generalize x.kd = kd at *
          go_wp2_with fail
          refine HS.out.mono ?_
          rintro e w2 ⟨rfl, hb2⟩
          obtain ⟨m2, ht2⟩ := HT.out.moved hb2
          have HT2 := Lib.hid ht2
          clear hb2 ht2
          go_wp2
          go_roundg gk
          case measure => omega
          case rel => exact ⟨i + 1, m2, by omega, by go_num, by rw [HPT.out]; exact HT2, by rw [HPT.out]; exact HL2⟩
        · have hst0 : stepT L x = L := by unfold stepT; rw [if_neg h0, if_neg h1]
          have k1 : (x.kd == 1) = false := by simpa using h1
          rw [hst0] at HPT HL2
          clear hst0 h0 h1 hx hst hLe hpt hkx
          generalize x.kd = kd at *
          go_wp2
          go_roundg gk
          case measure => omega
          case rel => exact ⟨i + 1, m, by omega, by go_num, by rw [HPT.out]; exact HT, by rw [HPT.out]; exact HL2⟩
theorem playT_len (xs : List ActP) : (playT xs).length ≤ xs.length := by
  have key : ∀ (xs : List ActP) (L : List Ln), RisesK L → (xs.foldl stepT L).length ≤ L.length + xs.length := by
    intro xs
    induction xs with
    | nil => intro L _; simp
    | cons x xs ih =>
      intro L hr
      have h1 := stepT_len hr x
      have h2 := ih (stepT L x) (stepT_rises hr x)
      simp only [List.foldl_cons, List.length_cons]
      omega
  simpa [playT] using key xs [] risesK_nil


end Go.Proofs.Ytfdifimakaiccaa
