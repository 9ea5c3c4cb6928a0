/-
  Proved here: what package palloc's freeIn and next answer and leave.
  Conditions: none.
-/
import Derived.Test.YtjebpggoajfjkaaPoolB
namespace Go.Proofs.Ytjebpggoajfjkaa
open Go Go.RowKit

/-- What freeIn and Free leave: a new row of the numbers l. -/
def RowTo7 (w : World) (l : List Int) (e : Ending) (w' : World) : Prop := ∃ v, e = .returned v ∧ w'.ownsRow w.heap.size 3 1 v l.length (encI l) ∧ Below w.heap.size w w'
theorem rowTo_nil (w : World) (m : Nat) : RowTo7 w [] (.returned (.slice none 0 0)) (w.drewN m) := ⟨_, rfl, World.ownsRow_nil _ _ _ _, below_drewN (Below.refl _ _) m⟩
theorem filter_step (f : Int → Bool) (l : List Int) (i : Nat) (hi : i < l.length) : (l.take (i + 1)).filter f = if f (l.getD i 0) then (l.take i).filter f ++ [l.getD i 0] else (l.take i).filter f := by
  rw [List.take_succ_eq_append_getElem hi, List.filter_append]
  have : l.getD i 0 = l[i] := by simp [List.getD, List.getElem?_eq_getElem hi]
  rw [this]
  by_cases h : f l[i] = true
  · rw [if_pos h]; simp [h]
  · rw [if_neg h]; simp [h]
set_option maxHeartbeats 1600000 in
theorem freein_any {w : World} {p q n : Nat} {L : List Tk} (h : PlP w p q n L) (k : Nat) (hk : k < n) (c : Int) : Calls Try.prog 52 #[.pointer (some ⟨p, 0, none⟩), .int .i64 k, .int .i64 c] w (RowTo7 w (freeAt L k c)) := by
  have hn := h.most
  have HP := Lib.hid h
  have hsl := h.slice
  have hkn : (k : Int) < (n : Int) := by omega
  have HB := Lib.hid (fun w' => slab_any k w')
  have hsb : slabN k = 2 + 8 * (k : Int) := by unfold slabN; rw [if_pos (by omega)]
  rw [hsb] at HB
  have HEM : Hid (∀ m, Calls Try.prog 42 #[.pointer (some ⟨q, k * 9, none⟩)] (w.drewN m) fun e w' => e = .returned (.bool (clsAt L k == -1)) ∧ w.drewN m = w') := fun m => isempty_any (h.drewN m) hk
  obtain ⟨z, hz, hc⟩ := h.cls hk
  clear hsb
  have HNIL : Hid (freeAt L k c = [] → ∀ m, RowTo7 w (freeAt L k c) (.returned (.slice none 0 0)) (w.drewN m)) := fun e m => by rw [e]; exact rowTo_nil w m
  rcases Classical.em (clsAt L k = -1) with he | he
  · have hcl : (clsAt L k == -1) = true := by simpa using he
    have e : freeAt L k c = [] := by
      unfold freeAt
      split
      · rename_i h1
        rw [startsN_none (spanN_none (by omega))]
        rfl
      · rfl
    have HE := Lib.hid (HNIL.out e)
    obtain ⟨R, hR⟩ : ∃ R, RowTo7 w (freeAt L k c) = R := ⟨_, rfl⟩
    rw [hR] at HE ⊢
    generalize clsAt L k = cl at *
    clear hc h hz HNIL e hR HP he
    go_enter Try.func52, Try.ntmps52
    go_wp2
    go_quiet ((go_at_call 51; exact (HB.out _).mono fun _ _ hh => ⟨hh.1, _, hh.2.symm⟩))
    go_wp2_with fail
    refine (HEM.out _).mono ?_
    rintro e w' ⟨rfl, rfl⟩
    go_wp2
    exact HE.out nq
  · have hcl : (clsAt L k == -1) = false := by simpa using he
    have hzc := hc he
    rcases Classical.em (z = c) with hz2 | hz2
    · have hne : (z != c) = false := by simpa using hz2
      have e : freeAt L k c = (startsN k c).filter fun s => (ofL L s).isNone := by unfold freeAt; rw [if_pos (by omega)]
      have HST : Hid (∀ s ∈ startsN k c, ∃ j : Nat, j < 8 ∧ s = 2 + 8 * (k : Int) + j ∧ w.cell? ⟨q, k * 9 + j, none⟩ = some (.bool (ofL L s).isSome)) := by
        intro s hs
        obtain ⟨_, _, h3, h4, h5, h6⟩ := mem_starts hs
        have h7 := (home_cls h4).2.1
        refine ⟨(s - (2 + 8 * (k : Int))).toNat, by omega, by omega, ?_⟩
        have := h.taken (j := (s - (2 + 8 * (k : Int))).toNat) hk (by omega)
        rw [this]
        rw [show 2 + 8 * (k : Int) + ((s - (2 + 8 * (k : Int))).toNat : Int) = s by omega]
      have HLQ := Lib.hid h.lt_q
      have hlen := startsN_le k c
      have HSS := Lib.hid (fun w' => starts_any k c w')
      unfold StartsAt at HSS
      have HRU : Hid (∀ v w', w'.ownsRow w.heap.size 3 1 v (freeAt L k c).length (encI (freeAt L k c)) → Below w.heap.size w w' → RowTo7 w (freeAt L k c) (.returned v) w') := fun v w' a b => ⟨v, rfl, a, b⟩
      rw [e] at HRU ⊢
      obtain ⟨R, hR⟩ : ∃ R, RowTo7 w ((startsN k c).filter fun s => (ofL L s).isNone) = R := ⟨_, rfl⟩
      rw [hR] at HRU ⊢
      generalize clsAt L k = cl at *
      generalize startsN k c = l at *
      clear hc h HNIL e hR he hzc hz2 HP
      go_enter Try.func52, Try.ntmps52
      go_wp2
      go_quiet ((go_at_call 51; exact (HB.out _).mono fun _ _ hh => ⟨hh.1, _, hh.2.symm⟩))
      go_wp2_with fail
      refine (HEM.out _).mono ?_
      rintro e w' ⟨rfl, rfl⟩
      go_wp2_with fail
      refine (HSS.out _).mono ?_
      rintro e w1 ⟨v, rfl, hown, hb⟩
      obtain ⟨A, cap, rfl, hrow, _, _⟩ := rowI_of_own hown (by omega)
      have HROW := Lib.hid hrow
      have HB1 : Hid (Below w.heap.size w w1) := (below_drewN (Below.refl _ _) nq).trans hb
      obtain ⟨ln, hln⟩ : ∃ ln, l.length = ln := ⟨_, rfl⟩
      rw [hln] at hlen ⊢
      have HLN := Lib.hid hln
      clear hown hrow hb hln hsl hz
      go_wp2
      obtain ⟨g, hg⟩ : ∃ g, w1.heap.size = g := ⟨_, rfl⟩
      have HG := Lib.hid hg
      clear hg
      go_loopg [9, 34] ln (fun gk s9 s34 wx => ∃ (i : Nat) (V : Value), i + gk = ln ∧ s34 = .int .i64 i ∧ V = s9 ∧ Hid (wx.ownsRow g 3 1 V ((l.take i).filter fun s => (ofL L s).isNone).length (encI ((l.take i).filter fun s => (ofL L s).isNone))) ∧ Hid (Below g w1 wx))
      case atStart => exact ⟨0, _, by omega, rfl, rfl, World.ownsRow_nil _ _ _ _, Below.refl _ _⟩
      case round =>
        obtain ⟨i, V, hin, rfl, rfl, HO, HW⟩ := hrel
        cases gk with
        | zero =>
          obtain rfl : i = ln := by omega
          have hii : ¬ (i : Int) < (i : Int) := by omega
          go_wp2
          refine HRU.out _ _ ?_ (HB1.out.trans (HW.out.mono (HG.out ▸ HB1.out.size)))
          have := HO.out
          rw [List.take_of_length_le (by have := HLN.out; omega)] at this
          exact own_mono this (HG.out ▸ HB1.out.size)
        | succ gk =>
          have hii : (i : Int) < (ln : Int) := by omega
          have hil : i < l.length := by have := HLN.out; omega
          obtain ⟨b, off, rfl, hbs, hcl⟩ := HROW.out.2 (by omega)
          have hcell : wr.cell? ⟨b, off + i, none⟩ = some (.int .i64 (l.getD i 0)) := (HW.out.cell (p := ⟨b, off + i, none⟩) (by have := HG.out; show b < g; omega)).trans (hcl i hil)
          have hmem : l.getD i 0 ∈ l := by rw [getD_in _ _ hil]; exact List.getElem_mem _
          obtain ⟨j, hj, hs, hct⟩ := HST.out _ hmem
          have hct2 : wr.cell? ⟨q, k * 9 + j, none⟩ = some (.bool (ofL L (l.getD i 0)).isSome) := by
            have h1 := HLQ.out
            have h2 := HB1.out.size
            exact (HW.out.cell (p := ⟨q, k * 9 + j, none⟩) (by have := HG.out; show q < g; omega)).trans ((HB1.out.cell (p := ⟨q, k * 9 + j, none⟩) h1).trans hct)
          have HF := Lib.hid (filter_step (fun s => (ofL L s).isNone) l i hil)
          have hjj : (j : Int) < 8 := by omega
          have hle : ((l.take i).filter fun s => (ofL L s).isNone).length ≤ i := Nat.le_trans (List.length_filter_le _ _) (by rw [List.length_take]; omega)
          obtain ⟨V', w', hrun, ho', hb'⟩ := run_appI_one wr g V _ (l.getD i 0) HO.out (by omega) (by have := HW.out.size; have := HG.out; omega)
          rw [hs] at hcell hrun ho' HF hct2
          have HRUN : Hid (Sem.run Try.prog (Builtin.append_ #[49, 49] 49 #[V, .slice (some ⟨wr.heap.size, 0, none⟩) 1 1]) (wr.alloc (.cells #[.int .i64 (2 + 8 * (k : Int) + (j : Int))] 3)) = .ok V' w') := hrun
          have HO' := Lib.hid ho'
          have HB' := Lib.hid hb'
          have hsub : 2 + 8 * (k : Int) + (j : Int) - (2 + 8 * (k : Int)) = j := by omega
          cases htk : (ofL L (2 + 8 * (k : Int) + j)).isSome with
          | true =>
            rw [htk] at hct2
            have hno : (ofL L (2 + 8 * (k : Int) + j)).isNone = false := by rw [← Option.not_isSome, htk]; rfl
            rw [hno, if_neg (by simp)] at HF
            clear hcl hs hct hmem hrun ho' hb' hle htk hno HRUN HO' HB'
            go_wp2
            go_roundg gk
            case measure => omega
            case rel => exact ⟨i + 1, V, by omega, by go_num, rfl, (by rw [HF.out]; exact HO), HW⟩
          | false =>
            rw [htk] at hct2
            have hno : (ofL L (2 + 8 * (k : Int) + j)).isNone = true := by rw [← Option.not_isSome, htk]; rfl
            rw [hno, if_pos rfl] at HF
            clear hcl hs hct hmem hrun ho' hb' hle htk hno
            go_wp2_with (at_builtin; refine wpList_app rfl (.tmp 47) (.tmp 49) 49 rfl rfl rfl HRUN.out ?_)
            go_roundg gk
            case measure => omega
            case rel =>
              refine ⟨i + 1, V', by omega, by go_num, rfl, ?_, HW.out.trans HB'.out⟩
              rw [HF.out, List.length_append]
              exact HO'
    · have hne : (z != c) = true := by simpa using hz2
      have e : freeAt L k c = [] := by unfold freeAt; rw [if_neg (by omega)]
      have HE := Lib.hid (HNIL.out e)
      obtain ⟨R, hR⟩ : ∃ R, RowTo7 w (freeAt L k c) = R := ⟨_, rfl⟩
      rw [hR] at HE ⊢
      generalize clsAt L k = cl at *
      clear hc h HNIL e hR he hzc hz2 HP
      go_enter Try.func52, Try.ntmps52
      go_wp2
      go_quiet ((go_at_call 51; exact (HB.out _).mono fun _ _ hh => ⟨hh.1, _, hh.2.symm⟩))
      go_wp2_with fail
      refine (HEM.out _).mono ?_
      rintro e w' ⟨rfl, rfl⟩
      go_wp2
      exact HE.out nq
theorem free_first {n : Nat} {L : List Tk} {c : Int} {i : Nat} (hi : i < n) (h : ∀ j : Nat, j < i → freeAt L j c = []) {x : Int} {r : List Int} (e : freeAt L i c = x :: r) : ∃ r', freeL n L c = x :: r' := by
  obtain ⟨d, rfl⟩ : ∃ d, n = i + 1 + d := ⟨n - (i + 1), by omega⟩
  unfold freeL
  rw [List.range_add, List.range_succ, List.flatMap_append, List.flatMap_append]
  have h1 : (List.range i).flatMap (fun k : Nat => freeAt L k c) = [] := by
    rw [List.flatMap_eq_nil_iff]
    exact fun j hj => h j (List.mem_range.1 hj)
  rw [h1]
  simp only [List.nil_append, List.flatMap_cons, List.flatMap_nil, List.append_nil, e, List.cons_append]
  exact ⟨_, rfl⟩
theorem free_all {n : Nat} {L : List Tk} {c : Int} (h : ∀ j : Nat, j < n → freeAt L j c = []) : freeL n L c = [] := by
  unfold freeL
  rw [List.flatMap_eq_nil_iff]
  exact fun j hj => h j (List.mem_range.1 hj)
theorem whole_first {n : Nat} {L : List Tk} {i : Nat} (hi : i < n) (h : ∀ j : Nat, j < i → clsAt L j ≠ -1) (e : clsAt L i = -1) : wholeL n L = some i := by
  cases e2 : wholeL n L with
  | none => exact absurd e (whole_none e2 i hi)
  | some k =>
    obtain ⟨h1, h2, h3⟩ := whole_some e2
    rcases Nat.lt_trichotomy k i with h4 | h4 | h4
    · exact absurd h2 (h k h4)
    · rw [h4]
    · exact absurd e (h3 i h4)
theorem whole_no {n : Nat} {L : List Tk} (h : ∀ j : Nat, j < n → clsAt L j ≠ -1) : wholeL n L = none := by
  cases e2 : wholeL n L with
  | none => rfl
  | some k =>
    obtain ⟨h1, h2, _⟩ := whole_some e2
    exact absurd h2 (h k h1)
def NextTo (w : World) (n : Nat) (L : List Tk) (c : Int) (e : Ending) (w' : World) : Prop :=
  e = .returned (.tuple #[.int .i64 (if 0 ≤ nextL n L c then nextL n L c else 0), .bool (decide (0 ≤ nextL n L c))]) ∧ Below w.heap.size w w'
set_option maxHeartbeats 1600000 in
theorem next_any {w : World} {p q n : Nat} {L : List Tk} (h : PlP w p q n L) (c : Int) : Calls Try.prog 37 #[.pointer (some ⟨p, 0, none⟩), .int .i64 c] w (NextTo w n L c) := by
  have hn := h.most
  have HP := Lib.hid h
  have hsl := h.slice
  have HYES : Hid (∀ x w', 0 ≤ x → nextL n L c = x → Below w.heap.size w w' → NextTo w n L c (.returned (.tuple #[.int .i64 x, .bool true])) w') := fun x w' h0 e hb => ⟨by rw [e, if_pos h0, decide_eq_true h0], hb⟩
  have HNO : Hid (∀ w', nextL n L c = -1 → Below w.heap.size w w' → NextTo w n L c (.returned (.tuple #[.int .i64 0, .bool false])) w') := fun w' e hb => ⟨by rw [e]; rfl, hb⟩
  obtain ⟨R, hR⟩ : ∃ R, NextTo w n L c = R := ⟨_, rfl⟩
  rw [hR] at HYES HNO ⊢
  obtain ⟨g, hg⟩ : ∃ g, w.heap.size = g := ⟨_, rfl⟩
  rw [hg] at HYES HNO
  have HG := Lib.hid hg
  clear hR h hg
  go_enter Try.func37, Try.ntmps37
  go_wp2
  clear hsl
  go_loopg [14] n (fun gk s14 wx => ∃ i : Nat, i + gk = n ∧ s14 = .int .i64 i ∧ Hid (Below g w wx) ∧ Hid (∀ j : Nat, j < i → freeAt L j c = []))
  case atStart => exact ⟨0, by omega, rfl, Below.refl _ _, fun j hj => by omega⟩
  case round =>
    obtain ⟨i, hin, rfl, HW, HFN⟩ := hrel
    have HPr : Hid (PlP wr p q n L) := HP.out.below (HG.out ▸ HW.out)
    cases gk with
    | zero =>
      obtain rfl : i = n := by omega
      have hii : ¬ (i : Int) < (i : Int) := by omega
      have HFA := Lib.hid (free_all HFN.out)
      have hsl := HPr.out.slice
      clear HFN
      go_wp2
      clear hsl
      go_loopg [33] i (fun gk s33 wx => ∃ k : Nat, k + gk = i ∧ s33 = .int .i64 k ∧ wr = wx ∧ Hid (∀ j : Nat, j < k → clsAt L j ≠ -1))
      case atStart => exact ⟨0, by omega, rfl, rfl, fun j hj => by omega⟩
      case round =>
        obtain ⟨k, hin2, rfl, rfl, HFN⟩ := hrel
        cases gk with
        | zero =>
          obtain rfl : k = i := by omega
          have hii : ¬ (k : Int) < (k : Int) := by omega
          go_wp2
          exact HNO.out _ (next_none HFA.out (whole_no HFN.out)) HW.out
        | succ gk =>
          have hii : (k : Int) < (i : Int) := by omega
          have hk : k < i := by omega
          have hsl := HPr.out.slice
          have HEM := Lib.hid (isempty_any HPr.out hk)
          rcases Classical.em (clsAt L k = -1) with he | he
          · have hcl : (clsAt L k == -1) = true := by simpa using he
            have HNX := Lib.hid (next_whole HFA.out (whole_first hk HFN.out he) hn)
            have HSB := Lib.hid (fun w' => slab_any k w')
            have hsb : slabN k = 2 + 8 * (k : Int) := by unfold slabN; rw [if_pos (by omega)]
            rw [hsb] at HSB
            rw [hcl] at HEM
            clear he hcl hsb
            go_wp2_with fail
            refine HEM.out.mono ?_
            rintro e w' ⟨rfl, rfl⟩
            go_wp2_with fail
            refine (HSB.out _).mono ?_
            rintro e w' ⟨rfl, rfl⟩
            go_wp2
            exact HYES.out _ _ (by omega) HNX.out HW.out
          · have hcl : (clsAt L k == -1) = false := by simpa using he
            have HF2 : Hid (∀ j : Nat, j < k + 1 → clsAt L j ≠ -1) := fun j hj => by
              rcases Nat.lt_or_ge j k with h1 | h1
              · exact HFN.out j h1
              · obtain rfl : j = k := by omega
                exact he
            rw [hcl] at HEM
            clear he hcl
            go_wp2_with fail
            refine HEM.out.mono ?_
            rintro e w' ⟨rfl, rfl⟩
            go_wp2
            go_roundg gk
            case measure => omega
            case rel => exact ⟨k + 1, by omega, by go_num, rfl, HF2⟩
    | succ gk =>
      have hii : (i : Int) < (n : Int) := by omega
      have hi : i < n := by omega
      have HFI := Lib.hid (freein_any HPr.out i hi c)
      unfold RowTo7 at HFI
      cases e : freeAt L i c with
      | nil =>
        have HF2 : Hid (∀ j : Nat, j < i + 1 → freeAt L j c = []) := fun j hj => by
          rcases Nat.lt_or_ge j i with h1 | h1
          · exact HFN.out j h1
          · obtain rfl : j = i := by omega
            exact e
        rw [e] at HFI
        clear e
        go_wp2_with fail
        refine HFI.out.mono ?_
        rintro e w' ⟨v, rfl, ho, hb⟩
        obtain ⟨A, cap, rfl, _, _, _⟩ := rowI_of_own ho (by simp)
        have HB : Hid (Below g w w') := HW.out.trans (hb.mono (by have := HG.out; have := HW.out.size; omega))
        clear ho hb
        simp only [List.length_nil]
        go_wp2
        go_roundg gk
        case measure => omega
        case rel => exact ⟨i + 1, by omega, by go_num, HB, HF2⟩
      | cons x r =>
        obtain ⟨r', e2⟩ := free_first hi HFN.out e
        have HNX := Lib.hid (next_free e2)
        have HX : Hid (0 ≤ x) := by
          have := (mem_starts (mem_freeAt.1 (show x ∈ freeAt L i c by rw [e]; simp)).2.1)
          show 0 ≤ x
          omega
        have hr8 : (x :: r).length ≤ 8 := by
          rw [← e]
          unfold freeAt
          split
          · exact Nat.le_trans (List.length_filter_le _ _) (startsN_le _ _)
          · simp
        rw [e] at HFI
        clear e e2
        go_wp2_with fail
        refine HFI.out.mono ?_
        rintro e w' ⟨v, rfl, ho, hb⟩
        obtain ⟨A, cap, rfl, hrow, _, _⟩ := rowI_of_own ho (by omega)
        obtain ⟨b, off, rfl, _, hcl⟩ := hrow.2 (by simp)
        have hcell : w'.cell? ⟨b, off, none⟩ = some (.int .i64 x) := hcl 0 (by simp)
        have HB : Hid (Below g w w') := HW.out.trans (hb.mono (by have := HG.out; have := HW.out.size; omega))
        obtain ⟨ln, hln⟩ : ∃ ln, r.length = ln := ⟨_, rfl⟩
        simp only [List.length_cons, hln] at hr8 ⊢
        have hpos : (0 : Int) < ((ln + 1 : Nat) : Int) := by omega
        clear ho hb hrow hcl hln
        go_wp2
        exact HYES.out _ _ HX.out HNX.out HB.out

end Go.Proofs.Ytjebpggoajfjkaa
