/-
  Proved here, joined: PoolC, PoolD, PoolE, RdMath, Atom
  Conditions: as each part says.
-/
import Derived.Test.YtlghphccmgmomaaGreatJN14
import Derived.Test.YtlghphccmgmomaaGreatJN2
import Derived.Laws.LoneSync
import Derived.Lib.Hide
import Derived.Deep.QuietTactic
import Derived.BigQuiet
import Derived.IntWalk
import Derived.WalkSmall
import Derived.ChangeKeysEq
import Derived.StillTailTactics

/-
  Proved here: what package palloc's freeIn and next answer and leave.
  Conditions: none.
-/
namespace Go.Proofs.YtlghphccmgmomaaGreat
open Go Go.RowKit
set_option maxRecDepth 100000

/-- What freeIn and Free leave: a new row of the numbers l. -/
def RowTo7 (w : World) (l : List Int) (e : Ending) (w' : World) : Prop := ∃ v, e = .returned v ∧ w'.ownsRow w.heap.size 3 1 v l.length (encI l) ∧ Below w.heap.size w w'
theorem rowTo_nil (w : World) (m : Nat) : RowTo7 w [] (.returned (.slice none 0 0)) (w.drewN m) := ⟨_, rfl, World.ownsRow_nil _ _ _ _, below_drewN (Below.refl _ _) m⟩
theorem filter_step (f : Int → Bool) (l : List Int) (i : Nat) (hi : i < l.length) : (l.take (i + 1)).filter f = if f (l.getD i 0) then (l.take i).filter f ++ [l.getD i 0] else (l.take i).filter f := by
  rw [List.take_succ_eq_append_getElem hi, List.filter_append]
  have : l.getD i 0 = l[i] := by simp [List.getD, List.getElem?_eq_getElem hi]
  rw [this]
  by_cases h : f l[i] = true
  · rw [if_pos h]; simp [h]
  · rw [if_neg h]; simp [h]
set_option maxHeartbeats 1600000 in
theorem freein_any {w : World} {p q n : Nat} {L : List Tk} (h : PlP w p q n L) (k : Nat) (hk : k < n) (c : Int) : Calls Tryz.prog 143 #[.pointer (some ⟨p, 0, none⟩), .int .i64 k, .int .i64 c] w (RowTo7 w (freeAt L k c)) := by
  have hn := h.most
  have HP := Lib.hid h
  have hsl := h.slice
  have hkn : (k : Int) < (n : Int) := by omega
  have HB := Lib.hid (fun w' => slab_any k w')
  have hsb : slabN k = 2 + 8 * (k : Int) := by unfold slabN; rw [if_pos (by omega)]
  rw [hsb] at HB
  have HEM : Hid (∀ m, Calls Tryz.prog 144 #[.pointer (some ⟨q, k * 9, none⟩)] (w.drewN m) fun e w' => e = .returned (.bool (clsAt L k == -1)) ∧ w.drewN m = w') := fun m => isempty_any (h.drewN m) hk
  obtain ⟨z, hz, hc⟩ := h.cls hk
  clear hsb
  have HNIL : Hid (freeAt L k c = [] → ∀ m, RowTo7 w (freeAt L k c) (.returned (.slice none 0 0)) (w.drewN m)) := fun e m => by rw [e]; exact rowTo_nil w m
  rcases Classical.em (clsAt L k = -1) with he | he
  · have hcl : (clsAt L k == -1) = true := by simpa using he
    have e : freeAt L k c = [] := by
      unfold freeAt
      split
      · rename_i h1
        rw [startsN_none (spanN_none (by omega))]
        rfl
      · rfl
    have HE := Lib.hid (HNIL.out e)
    obtain ⟨R, hR⟩ : ∃ R, RowTo7 w (freeAt L k c) = R := ⟨_, rfl⟩
    rw [hR] at HE ⊢
    generalize clsAt L k = cl at *
    clear hc h hz HNIL e hR HP he
    go_enter Tryz.func143, Tryz.ntmps143
    go_wp2
    go_quiet ((go_at_call 83; exact (HB.out _).mono fun _ _ hh => ⟨hh.1, _, hh.2.symm⟩))
    go_wp2_with fail
    refine (HEM.out _).mono ?_
    rintro e w' ⟨rfl, rfl⟩
    go_wp2
    exact HE.out nq
  · have hcl : (clsAt L k == -1) = false := by simpa using he
    have hzc := hc he
    rcases Classical.em (z = c) with hz2 | hz2
    · have hne : (z != c) = false := by simpa using hz2
      have e : freeAt L k c = (startsN k c).filter fun s => (ofL L s).isNone := by unfold freeAt; rw [if_pos (by omega)]
      have HST : Hid (∀ s ∈ startsN k c, ∃ j : Nat, j < 8 ∧ s = 2 + 8 * (k : Int) + j ∧ w.cell? ⟨q, k * 9 + j, none⟩ = some (.bool (ofL L s).isSome)) := by
        intro s hs
        obtain ⟨_, _, h3, h4, h5, h6⟩ := mem_starts hs
        have h7 := (home_cls h4).2.1
        refine ⟨(s - (2 + 8 * (k : Int))).toNat, by omega, by omega, ?_⟩
        have := h.taken (j := (s - (2 + 8 * (k : Int))).toNat) hk (by omega)
        rw [this]
        rw [show 2 + 8 * (k : Int) + ((s - (2 + 8 * (k : Int))).toNat : Int) = s by omega]
      have HLQ := Lib.hid h.lt_q
      have hlen := startsN_le k c
      have HSS := Lib.hid (fun w' => starts_any k c w')
      unfold StartsAt at HSS
      have HRU : Hid (∀ v w', w'.ownsRow w.heap.size 3 1 v (freeAt L k c).length (encI (freeAt L k c)) → Below w.heap.size w w' → RowTo7 w (freeAt L k c) (.returned v) w') := fun v w' a b => ⟨v, rfl, a, b⟩
      rw [e] at HRU ⊢
      obtain ⟨R, hR⟩ : ∃ R, RowTo7 w ((startsN k c).filter fun s => (ofL L s).isNone) = R := ⟨_, rfl⟩
      rw [hR] at HRU ⊢
      generalize clsAt L k = cl at *
      generalize startsN k c = l at *
      clear hc h HNIL e hR he hzc hz2 HP
      go_enter Tryz.func143, Tryz.ntmps143
      go_wp2
      go_quiet ((go_at_call 83; exact (HB.out _).mono fun _ _ hh => ⟨hh.1, _, hh.2.symm⟩))
      go_wp2_with fail
      refine (HEM.out _).mono ?_
      rintro e w' ⟨rfl, rfl⟩
      go_wp2_with fail
      refine (HSS.out _).mono ?_
      rintro e w1 ⟨v, rfl, hown, hb⟩
      obtain ⟨A, cap, rfl, hrow, _, _⟩ := rowI_of_own hown (by omega)
      have HROW := Lib.hid hrow
      have HB1 : Hid (Below w.heap.size w w1) := (below_drewN (Below.refl _ _) nq).trans hb
      obtain ⟨ln, hln⟩ : ∃ ln, l.length = ln := ⟨_, rfl⟩
      rw [hln] at hlen ⊢
      have HLN := Lib.hid hln
      clear hown hrow hb hln hsl hz
      go_wp2
      obtain ⟨g, hg⟩ : ∃ g, w1.heap.size = g := ⟨_, rfl⟩
      have HG := Lib.hid hg
      clear hg
      go_loopg [9, 34] ln (fun gk s9 s34 wx => ∃ (i : Nat) (V : Value), i + gk = ln ∧ s34 = .int .i64 i ∧ V = s9 ∧ Hid (wx.ownsRow g 3 1 V ((l.take i).filter fun s => (ofL L s).isNone).length (encI ((l.take i).filter fun s => (ofL L s).isNone))) ∧ Hid (Below g w1 wx))
      case atStart => exact ⟨0, _, by omega, rfl, rfl, World.ownsRow_nil _ _ _ _, Below.refl _ _⟩
      case round =>
        obtain ⟨i, V, hin, rfl, rfl, HO, HW⟩ := hrel
        cases gk with
        | zero =>
          obtain rfl : i = ln := by omega
          have hii : ¬ (i : Int) < (i : Int) := by omega
          go_wp2
          refine HRU.out _ _ ?_ (HB1.out.trans (HW.out.mono (HG.out ▸ HB1.out.size)))
          have := HO.out
          rw [List.take_of_length_le (by have := HLN.out; omega)] at this
          exact own_mono this (HG.out ▸ HB1.out.size)
        | succ gk =>
          have hii : (i : Int) < (ln : Int) := by omega
          have hil : i < l.length := by have := HLN.out; omega
          obtain ⟨b, off, rfl, hbs, hcl⟩ := HROW.out.2 (by omega)
          have hcell : wr.cell? ⟨b, off + i, none⟩ = some (.int .i64 (l.getD i 0)) := (HW.out.cell (p := ⟨b, off + i, none⟩) (by have := HG.out; show b < g; omega)).trans (hcl i hil)
          have hmem : l.getD i 0 ∈ l := by rw [getD_in _ _ hil]; exact List.getElem_mem _
          obtain ⟨j, hj, hs, hct⟩ := HST.out _ hmem
          have hct2 : wr.cell? ⟨q, k * 9 + j, none⟩ = some (.bool (ofL L (l.getD i 0)).isSome) := by
            have h1 := HLQ.out
            have h2 := HB1.out.size
            exact (HW.out.cell (p := ⟨q, k * 9 + j, none⟩) (by have := HG.out; show q < g; omega)).trans ((HB1.out.cell (p := ⟨q, k * 9 + j, none⟩) h1).trans hct)
          have HF := Lib.hid (filter_step (fun s => (ofL L s).isNone) l i hil)
          have hjj : (j : Int) < 8 := by omega
          have hle : ((l.take i).filter fun s => (ofL L s).isNone).length ≤ i := Nat.le_trans (List.length_filter_le _ _) (by rw [List.length_take]; omega)
          obtain ⟨V', w', hrun, ho', hb'⟩ := run_appI_one wr g V _ (l.getD i 0) HO.out (by omega) (by have := HW.out.size; have := HG.out; omega)
          rw [hs] at hcell hrun ho' HF hct2
          have HRUN : Hid (Sem.run Tryz.prog (Builtin.append_ #[120, 120] 120 #[V, .slice (some ⟨wr.heap.size, 0, none⟩) 1 1]) (wr.alloc (.cells #[.int .i64 (2 + 8 * (k : Int) + (j : Int))] 3)) = .ok V' w') := hrun
          have HO' := Lib.hid ho'
          have HB' := Lib.hid hb'
          have hsub : 2 + 8 * (k : Int) + (j : Int) - (2 + 8 * (k : Int)) = j := by omega
          cases htk : (ofL L (2 + 8 * (k : Int) + j)).isSome with
          | true =>
            rw [htk] at hct2
            have hno : (ofL L (2 + 8 * (k : Int) + j)).isNone = false := by rw [← Option.not_isSome, htk]; rfl
            rw [hno, if_neg (by simp)] at HF
            clear hcl hs hct hmem hrun ho' hb' hle htk hno HRUN HO' HB'
            go_wp2
            go_roundg gk
            case measure => omega
            case rel => exact ⟨i + 1, V, by omega, by go_num, rfl, (by rw [HF.out]; exact HO), HW⟩
          | false =>
            rw [htk] at hct2
            have hno : (ofL L (2 + 8 * (k : Int) + j)).isNone = true := by rw [← Option.not_isSome, htk]; rfl
            rw [hno, if_pos rfl] at HF
            clear hcl hs hct hmem hrun ho' hb' hle htk hno
            go_wp2_with (at_builtin; refine wpList_app rfl (.tmp 47) (.tmp 49) 120 rfl rfl rfl HRUN.out ?_)
            go_roundg gk
            case measure => omega
            case rel =>
              refine ⟨i + 1, V', by omega, by go_num, rfl, ?_, HW.out.trans HB'.out⟩
              rw [HF.out, List.length_append]
              exact HO'
    · have hne : (z != c) = true := by simpa using hz2
      have e : freeAt L k c = [] := by unfold freeAt; rw [if_neg (by omega)]
      have HE := Lib.hid (HNIL.out e)
      obtain ⟨R, hR⟩ : ∃ R, RowTo7 w (freeAt L k c) = R := ⟨_, rfl⟩
      rw [hR] at HE ⊢
      generalize clsAt L k = cl at *
      clear hc h HNIL e hR he hzc hz2 HP
      go_enter Tryz.func143, Tryz.ntmps143
      go_wp2
      go_quiet ((go_at_call 83; exact (HB.out _).mono fun _ _ hh => ⟨hh.1, _, hh.2.symm⟩))
      go_wp2_with fail
      refine (HEM.out _).mono ?_
      rintro e w' ⟨rfl, rfl⟩
      go_wp2
      exact HE.out nq
theorem free_first {n : Nat} {L : List Tk} {c : Int} {i : Nat} (hi : i < n) (h : ∀ j : Nat, j < i → freeAt L j c = []) {x : Int} {r : List Int} (e : freeAt L i c = x :: r) : ∃ r', freeL n L c = x :: r' := by
  obtain ⟨d, rfl⟩ : ∃ d, n = i + 1 + d := ⟨n - (i + 1), by omega⟩
  unfold freeL
  rw [List.range_add, List.range_succ, List.flatMap_append, List.flatMap_append]
  have h1 : (List.range i).flatMap (fun k : Nat => freeAt L k c) = [] := by
    rw [List.flatMap_eq_nil_iff]
    exact fun j hj => h j (List.mem_range.1 hj)
  rw [h1]
  simp only [List.nil_append, List.flatMap_cons, List.flatMap_nil, List.append_nil, e, List.cons_append]
  exact ⟨_, rfl⟩
theorem free_all {n : Nat} {L : List Tk} {c : Int} (h : ∀ j : Nat, j < n → freeAt L j c = []) : freeL n L c = [] := by
  unfold freeL
  rw [List.flatMap_eq_nil_iff]
  exact fun j hj => h j (List.mem_range.1 hj)
theorem whole_first {n : Nat} {L : List Tk} {i : Nat} (hi : i < n) (h : ∀ j : Nat, j < i → clsAt L j ≠ -1) (e : clsAt L i = -1) : wholeL n L = some i := by
  cases e2 : wholeL n L with
  | none => exact absurd e (whole_none e2 i hi)
  | some k =>
    obtain ⟨h1, h2, h3⟩ := whole_some e2
    rcases Nat.lt_trichotomy k i with h4 | h4 | h4
    · exact absurd h2 (h k h4)
    · rw [h4]
    · exact absurd e (h3 i h4)
theorem whole_no {n : Nat} {L : List Tk} (h : ∀ j : Nat, j < n → clsAt L j ≠ -1) : wholeL n L = none := by
  cases e2 : wholeL n L with
  | none => rfl
  | some k =>
    obtain ⟨h1, h2, _⟩ := whole_some e2
    exact absurd h2 (h k h1)
def NextTo (w : World) (n : Nat) (L : List Tk) (c : Int) (e : Ending) (w' : World) : Prop :=
  e = .returned (.tuple #[.int .i64 (if 0 ≤ nextL n L c then nextL n L c else 0), .bool (decide (0 ≤ nextL n L c))]) ∧ Below w.heap.size w w'
set_option maxHeartbeats 1600000 in
theorem next_any {w : World} {p q n : Nat} {L : List Tk} (h : PlP w p q n L) (c : Int) : Calls Tryz.prog 94 #[.pointer (some ⟨p, 0, none⟩), .int .i64 c] w (NextTo w n L c) := by
  have hn := h.most
  have HP := Lib.hid h
  have hsl := h.slice
  have HYES : Hid (∀ x w', 0 ≤ x → nextL n L c = x → Below w.heap.size w w' → NextTo w n L c (.returned (.tuple #[.int .i64 x, .bool true])) w') := fun x w' h0 e hb => ⟨by rw [e, if_pos h0, decide_eq_true h0], hb⟩
  have HNO : Hid (∀ w', nextL n L c = -1 → Below w.heap.size w w' → NextTo w n L c (.returned (.tuple #[.int .i64 0, .bool false])) w') := fun w' e hb => ⟨by rw [e]; rfl, hb⟩
  obtain ⟨R, hR⟩ : ∃ R, NextTo w n L c = R := ⟨_, rfl⟩
  rw [hR] at HYES HNO ⊢
  obtain ⟨g, hg⟩ : ∃ g, w.heap.size = g := ⟨_, rfl⟩
  rw [hg] at HYES HNO
  have HG := Lib.hid hg
  clear hR h hg
  go_enter Tryz.func94, Tryz.ntmps94
  go_wp2
  clear hsl
  go_loopg [14] n (fun gk s14 wx => ∃ i : Nat, i + gk = n ∧ s14 = .int .i64 i ∧ Hid (Below g w wx) ∧ Hid (∀ j : Nat, j < i → freeAt L j c = []))
  case atStart => exact ⟨0, by omega, rfl, Below.refl _ _, fun j hj => by omega⟩
  case round =>
    obtain ⟨i, hin, rfl, HW, HFN⟩ := hrel
    have HPr : Hid (PlP wr p q n L) := HP.out.below (HG.out ▸ HW.out)
    cases gk with
    | zero =>
      obtain rfl : i = n := by omega
      have hii : ¬ (i : Int) < (i : Int) := by omega
      have HFA := Lib.hid (free_all HFN.out)
      have hsl := HPr.out.slice
      clear HFN
      go_wp2
      clear hsl
      go_loopg [33] i (fun gk s33 wx => ∃ k : Nat, k + gk = i ∧ s33 = .int .i64 k ∧ wr = wx ∧ Hid (∀ j : Nat, j < k → clsAt L j ≠ -1))
      case atStart => exact ⟨0, by omega, rfl, rfl, fun j hj => by omega⟩
      case round =>
        obtain ⟨k, hin2, rfl, rfl, HFN⟩ := hrel
        cases gk with
        | zero =>
          obtain rfl : k = i := by omega
          have hii : ¬ (k : Int) < (k : Int) := by omega
          go_wp2
          exact HNO.out _ (next_none HFA.out (whole_no HFN.out)) HW.out
        | succ gk =>
          have hii : (k : Int) < (i : Int) := by omega
          have hk : k < i := by omega
          have hsl := HPr.out.slice
          have HEM := Lib.hid (isempty_any HPr.out hk)
          rcases Classical.em (clsAt L k = -1) with he | he
          · have hcl : (clsAt L k == -1) = true := by simpa using he
            have HNX := Lib.hid (next_whole HFA.out (whole_first hk HFN.out he) hn)
            have HSB := Lib.hid (fun w' => slab_any k w')
            have hsb : slabN k = 2 + 8 * (k : Int) := by unfold slabN; rw [if_pos (by omega)]
            rw [hsb] at HSB
            rw [hcl] at HEM
            clear he hcl hsb
            go_wp2_with fail
            refine HEM.out.mono ?_
            rintro e w' ⟨rfl, rfl⟩
            go_wp2_with fail
            refine (HSB.out _).mono ?_
            rintro e w' ⟨rfl, rfl⟩
            go_wp2
            exact HYES.out _ _ (by omega) HNX.out HW.out
          · have hcl : (clsAt L k == -1) = false := by simpa using he
            have HF2 : Hid (∀ j : Nat, j < k + 1 → clsAt L j ≠ -1) := fun j hj => by
              rcases Nat.lt_or_ge j k with h1 | h1
              · exact HFN.out j h1
              · obtain rfl : j = k := by omega
                exact he
            rw [hcl] at HEM
            clear he hcl
            go_wp2_with fail
            refine HEM.out.mono ?_
            rintro e w' ⟨rfl, rfl⟩
            go_wp2
            go_roundg gk
            case measure => omega
            case rel => exact ⟨k + 1, by omega, by go_num, rfl, HF2⟩
    | succ gk =>
      have hii : (i : Int) < (n : Int) := by omega
      have hi : i < n := by omega
      have HFI := Lib.hid (freein_any HPr.out i hi c)
      unfold RowTo7 at HFI
      cases e : freeAt L i c with
      | nil =>
        have HF2 : Hid (∀ j : Nat, j < i + 1 → freeAt L j c = []) := fun j hj => by
          rcases Nat.lt_or_ge j i with h1 | h1
          · exact HFN.out j h1
          · obtain rfl : j = i := by omega
            exact e
        rw [e] at HFI
        clear e
        go_wp2_with fail
        refine HFI.out.mono ?_
        rintro e w' ⟨v, rfl, ho, hb⟩
        obtain ⟨A, cap, rfl, _, _, _⟩ := rowI_of_own ho (by simp)
        have HB : Hid (Below g w w') := HW.out.trans (hb.mono (by have := HG.out; have := HW.out.size; omega))
        clear ho hb
        simp only [List.length_nil]
        go_wp2
        go_roundg gk
        case measure => omega
        case rel => exact ⟨i + 1, by omega, by go_num, HB, HF2⟩
      | cons x r =>
        obtain ⟨r', e2⟩ := free_first hi HFN.out e
        have HNX := Lib.hid (next_free e2)
        have HX : Hid (0 ≤ x) := by
          have := (mem_starts (mem_freeAt.1 (show x ∈ freeAt L i c by rw [e]; simp)).2.1)
          show 0 ≤ x
          omega
        have hr8 : (x :: r).length ≤ 8 := by
          rw [← e]
          unfold freeAt
          split
          · exact Nat.le_trans (List.length_filter_le _ _) (startsN_le _ _)
          · simp
        rw [e] at HFI
        clear e e2
        go_wp2_with fail
        refine HFI.out.mono ?_
        rintro e w' ⟨v, rfl, ho, hb⟩
        obtain ⟨A, cap, rfl, hrow, _, _⟩ := rowI_of_own ho (by omega)
        obtain ⟨b, off, rfl, _, hcl⟩ := hrow.2 (by simp)
        have hcell : w'.cell? ⟨b, off, none⟩ = some (.int .i64 x) := hcl 0 (by simp)
        have HB : Hid (Below g w w') := HW.out.trans (hb.mono (by have := HG.out; have := HW.out.size; omega))
        obtain ⟨ln, hln⟩ : ∃ ln, r.length = ln := ⟨_, rfl⟩
        simp only [List.length_cons, hln] at hr8 ⊢
        have hpos : (0 : Int) < ((ln + 1 : Nat) : Int) := by omega
        clear ho hb hrow hcl hln
        go_wp2
        exact HYES.out _ _ HX.out HNX.out HB.out

end Go.Proofs.YtlghphccmgmomaaGreat

/-
  Proved here: what package palloc's Take, Room, Free and Slabs answer and leave.
  Conditions: none.
-/
namespace Go.Proofs.YtlghphccmgmomaaGreat
open Go Go.RowKit
set_option maxRecDepth 100000

theorem cls_pos (c : Int) : decide (0 < spanN c) = decide (0 ≤ c ∧ c ≤ 3) := by
  by_cases h : 0 ≤ c ∧ c ≤ 3
  · have := cls_span h
    rw [decide_eq_true h, decide_eq_true (by omega)]
  · rw [decide_eq_false h, spanN_none (by omega)]
    rfl
/-- What Take answers: a line, an error; what is taken behind it. -/
def takeV (n : Nat) (L : List Tk) (c : Int) : Int := if (0 ≤ c ∧ c ≤ 3) ∧ 0 ≤ nextL n L c then nextL n L c else 0
def takeE (n : Nat) (L : List Tk) (c : Int) : Int := if 0 ≤ c ∧ c ≤ 3 then if 0 ≤ nextL n L c then 0 else 4 else 1
def takeL (n : Nat) (L : List Tk) (c : Int) : List Tk := if (0 ≤ c ∧ c ≤ 3) ∧ 0 ≤ nextL n L c then putL L (nextL n L c) c else L
theorem mark_next {n : Nat} {L : List Tk} (h : Pool7 n L) (hn : n ≤ 32) {c : Int} (hc : 0 ≤ c ∧ c ≤ 3) (hx : 0 ≤ nextL n L c) : markE n L (nextL n L c) c = 0 := by
  obtain ⟨h1, h2, h3, h4⟩ := next_ok h hn hc hx
  unfold markE
  rw [if_neg (by rw [h1]; simp; omega), if_neg]
  rintro (h5 | ⟨h5, h6⟩)
  · rw [ofL_none.2 h3] at h5
    cases h5
  · omega
set_option maxHeartbeats 800000 in
theorem take_any {w : World} {p q n : Nat} {L : List Tk} (h : PlP w p q n L) (c : Int) : Calls Tryz.prog 46 #[.pointer (some ⟨p, 0, none⟩), .int .i64 c] w fun e w' => e = .returned (.tuple #[.int .i64 (takeV n L c), .int .i64 (takeE n L c)]) ∧ PlP w' p q n (takeL n L c) ∧ Turns p q w w' := by
  have HP := Lib.hid h
  have HIC := Lib.hid (pisclass_any c w)
  rw [cls_pos] at HIC
  have HNX := Lib.hid (next_any h c)
  unfold NextTo at HNX
  unfold takeV takeE takeL
  by_cases hc : 0 ≤ c ∧ c ≤ 3
  · rw [decide_eq_true hc] at HIC
    by_cases hx : 0 ≤ nextL n L c
    · rw [if_pos ⟨hc, hx⟩, if_pos hc, if_pos hx, if_pos ⟨hc, hx⟩]
      rw [if_pos hx, decide_eq_true hx] at HNX
      have HM : Hid (∀ w', PlP w' p q n L → Calls Tryz.prog 95 #[.pointer (some ⟨p, 0, none⟩), .int .i64 (nextL n L c), .int .i64 c] w' fun e w2 => e = .returned (.int .i64 0) ∧ PlP w2 p q n (putL L (nextL n L c) c) ∧ Turns p q w' w2) := fun w' hw => by
        have h1 := mark_any hw (nextL n L c) c
        unfold MarkTo markL at h1
        rw [mark_next h.pool h.most hc hx, if_pos rfl] at h1
        exact h1
      generalize nextL n L c = x at *
      clear h hc hx
      go_enter Tryz.func46, Tryz.ntmps46
      go_wp2_with fail
      refine HIC.out.mono ?_
      rintro e w' ⟨rfl, rfl⟩
      go_wp2_with fail
      refine HNX.out.mono ?_
      rintro e w1 ⟨rfl, hb⟩
      have HB := Lib.hid hb
      clear hb
      go_wp2_with fail
      refine (HM.out w1 (HP.out.below HB.out)).mono ?_
      rintro e w2 ⟨rfl, hp2, ht2⟩
      have HP2 := Lib.hid hp2
      have HT2 := Lib.hid ht2
      clear hp2 ht2
      go_wp2
      go_ret2
      exact ⟨rfl, HP2.out, (Turns.of_below HB.out p q).trans HT2.out⟩
    · rw [if_neg (fun h => hx h.2), if_pos hc, if_neg hx, if_neg (fun h => hx h.2)]
      rw [if_neg hx, decide_eq_false hx] at HNX
      clear h hc hx
      go_enter Tryz.func46, Tryz.ntmps46
      go_wp2_with fail
      refine HIC.out.mono ?_
      rintro e w' ⟨rfl, rfl⟩
      go_wp2_with fail
      refine HNX.out.mono ?_
      rintro e w1 ⟨rfl, hb⟩
      have HB := Lib.hid hb
      clear hb
      go_wp2
      go_ret2
      exact ⟨rfl, HP.out.below HB.out, Turns.of_below HB.out p q⟩
  · rw [if_neg (fun h => hc h.1), if_neg hc, if_neg (fun h => hc h.1)]
    rw [decide_eq_false hc] at HIC
    clear h hc HNX
    go_enter Tryz.func46, Tryz.ntmps46
    go_wp2_with fail
    refine HIC.out.mono ?_
    rintro e w' ⟨rfl, rfl⟩
    go_wp2
    go_ret2
    exact ⟨rfl, HP.out, Turns.refl _ _ _⟩
end Go.Proofs.YtlghphccmgmomaaGreat

/-
  Proved here: how rows of blocks lie in memory, and what package palloc's Taken answers and leaves.
  Conditions: none.
-/
namespace Go.Proofs.YtlghphccmgmomaaGreat
open Go Go.RowKit
set_option maxRecDepth 100000

/-- The slice at A holds the blocks l. -/
def RowT (w : World) (A : Option Addr) (l : List Tk) : Prop :=
  l.length ≤ 67108864 ∧ (0 < l.length → ∃ b off, A = some ⟨b, off, none⟩ ∧ b < w.heap.size ∧ ∀ i t, l[i]? = some t → w.cell? ⟨b, off + i * 2, none⟩ = some (.int .i64 t.1) ∧ w.cell? ⟨b, off + i * 2 + 1, none⟩ = some (.int .i64 t.2))
theorem RowT.below {w w' : World} {A : Option Addr} {l : List Tk} (h : RowT w A l) (hb : Below w.heap.size w w') : RowT w' A l :=
  ⟨h.1, fun hl => by
    obtain ⟨b, off, e, hlt, hc⟩ := h.2 hl
    exact ⟨b, off, e, Nat.lt_of_lt_of_le hlt hb.size, fun i t ht => ⟨(hb.cell (p := ⟨b, off + i * 2, none⟩) hlt).trans (hc i t ht).1, (hb.cell (p := ⟨b, off + i * 2 + 1, none⟩) hlt).trans (hc i t ht).2⟩⟩⟩
theorem RowT.same {w w' : World} {A : Option Addr} {l : List Tk} (h : RowT w A l) (hs : w.heap.size ≤ w'.heap.size) (hb : ∀ x, A = some x → w'.heap[x.block]? = w.heap[x.block]?) : RowT w' A l :=
  ⟨h.1, fun hl => by
    obtain ⟨b, off, e, hlt, hc⟩ := h.2 hl
    have hbl := hb ⟨b, off, none⟩ e
    exact ⟨b, off, e, Nat.lt_of_lt_of_le hlt hs, fun i t ht => ⟨(World.cell?_of_block (w := w) (a := ⟨b, off + i * 2, none⟩) hbl).trans (hc i t ht).1, (World.cell?_of_block (w := w) (a := ⟨b, off + i * 2 + 1, none⟩) hbl).trans (hc i t ht).2⟩⟩⟩
end Go.Proofs.YtlghphccmgmomaaGreat

/-
  Proved here: what a reader clock is, as numbers; how it lies in memory.
  Conditions: epochs below 2^32.
-/
namespace Go.Proofs.YtlghphccmgmomaaGreat
open Go Go.RowKit
set_option maxRecDepth 100000

/-- What each thread has announced, 0 where it is not inside; and the epoch. -/
def inR (L : List Nat) (t : Int) : Prop := 0 ≤ t ∧ t < L.length
instance (L : List Nat) (t : Int) : Decidable (inR L t) := inferInstanceAs (Decidable (_ ∧ _))
def enterE (L : List Nat) (t : Int) : Int := if inR L t then (if L.getD t.toNat 0 = 0 then 0 else 7) else 1
def enterL (L : List Nat) (now : Nat) (t : Int) : List Nat := if enterE L t = 0 then L.set t.toNat now else L
def leaveL (L : List Nat) (t : Int) : List Nat := if inR L t then L.set t.toNat 0 else L
/-- All that is announced is at most the epoch, which is at least 1. -/
structure Clk (L : List Nat) (now : Nat) : Prop where
  pos : 1 ≤ now
  most : now < 4294967296
  le : ∀ x ∈ L, x ≤ now
  len : 1 ≤ L.length
  many : L.length ≤ 4
theorem enterL_len (L : List Nat) (now : Nat) (t : Int) : (enterL L now t).length = L.length := by unfold enterL; split <;> simp
theorem leaveL_len (L : List Nat) (t : Int) : (leaveL L t).length = L.length := by unfold leaveL; split <;> simp
theorem mem_set_or {L : List Nat} {i y x : Nat} (h : x ∈ L.set i y) : x ∈ L ∨ x = y := List.mem_or_eq_of_mem_set h
theorem Clk.enter {L : List Nat} {now : Nat} (h : Clk L now) (t : Int) : Clk (enterL L now t) now := by
  refine ⟨h.pos, h.most, fun x hx => ?_, by rw [enterL_len]; exact h.len, by rw [enterL_len]; exact h.many⟩
  unfold enterL at hx
  split at hx
  · rcases mem_set_or hx with h1 | h1
    · exact h.le x h1
    · omega
  · exact h.le x hx
theorem Clk.leave {L : List Nat} {now : Nat} (h : Clk L now) (t : Int) : Clk (leaveL L t) now := by
  refine ⟨h.pos, h.most, fun x hx => ?_, by rw [leaveL_len]; exact h.len, by rw [leaveL_len]; exact h.many⟩
  unfold leaveL at hx
  split at hx
  · rcases mem_set_or hx with h1 | h1
    · exact h.le x h1
    · omega
  · exact h.le x hx
/-! ### A clock in memory -/
def encU (L : List Nat) : List Value := L.map fun x => .int .u64 (x : Nat)
theorem encU_at (L : List Nat) (i : Nat) (h : i < L.length) : (encU L)[i]? = some (.int .u64 (L.getD i 0 : Nat)) := by simp [encU, List.getElem?_eq_getElem h, List.getD]
theorem encU_set (L : List Nat) (i x : Nat) : (encU L).set i (.int .u64 (x : Nat)) = encU (L.set i x) := by simp [encU, List.map_set]
/-- The clock at p, whose announced numbers lie at q. T: the type of one of them; D: the clock's. o: the epoch comes first. -/
def headRd (o : Bool) (q n now : Nat) : List Value := if o then [.int .u64 (now : Nat), .slice (some ⟨q, 0, none⟩) n n] else [.slice (some ⟨q, 0, none⟩) n n, .int .u64 (now : Nat)]
structure Rd (T D : TypeId) (o : Bool) (w : World) (p q : Nat) (L : List Nat) (now : Nat) : Prop where
  clk : Clk L now
  ne : p ≠ q
  mem : w.heap[p]? = some (.cells (headRd o q L.length now).toArray D (0, 0))
  row : w.heap[q]? = some (.cells (encU L).toArray T (0, 0))
variable {T D : TypeId} {o : Bool} {w w' : World} {p q now : Nat} {L : List Nat}
theorem Rd.lt_p (h : Rd T D o w p q L now) : p < w.heap.size := lt_of_heap h.mem
theorem Rd.lt_q (h : Rd T D o w p q L now) : q < w.heap.size := lt_of_heap h.row
theorem Rd.same (h : Rd T D o w p q L now) (hp : w'.heap[p]? = w.heap[p]?) (hq : w'.heap[q]? = w.heap[q]?) : Rd T D o w' p q L now := ⟨h.clk, h.ne, hp.trans h.mem, hq.trans h.row⟩
theorem Rd.below (h : Rd T D o w p q L now) (hb : Below w.heap.size w w') : Rd T D o w' p q L now := h.same (hb.block p h.lt_p) (hb.block q h.lt_q)
theorem Rd.turns {p' q' : Nat} (h : Rd T D o w p q L now) (ht : Turns p' q' w w') (h1 : p ≠ p') (h2 : p ≠ q') (h3 : q ≠ p') (h4 : q ≠ q') : Rd T D o w' p q L now := h.same (ht.block p h1 h2 h.lt_p) (ht.block q h3 h4 h.lt_q)
theorem Rd.drewN (h : Rd T D o w p q L now) (k : Nat) : Rd T D o (w.drewN k) p q L now := h.same rfl rfl
theorem Rd.drew (h : Rd T D o w p q L now) : Rd T D o w.drew p q L now := h.same rfl rfl
theorem Rd.at_ (h : Rd T D o w p q L now) {i : Nat} (hi : i < L.length) : w.cell? ⟨q, i, none⟩ = some (.int .u64 (L.getD i 0 : Nat)) := by
  rw [← encU_at L i hi]
  simp [World.cell?, h.row]
theorem Rd.frozen (h : Rd T D o w p q L now) (j : Nat) : w.frozen? ⟨q, j, none⟩ = false := by simp [World.frozen?, h.row]
theorem Rd.frozenP (h : Rd T D o w p q L now) (j : Nat) : w.frozen? ⟨p, j, none⟩ = false := by simp [World.frozen?, h.mem]
theorem Rd.slice1 (h : Rd T D true w p q L now) : w.cell? ⟨p, 1, none⟩ = some (.slice (some ⟨q, 0, none⟩) L.length L.length) := by simp [World.cell?, h.mem, headRd]
theorem Rd.now0 (h : Rd T D true w p q L now) : w.cell? ⟨p, 0, none⟩ = some (.int .u64 (now : Nat)) := by simp [World.cell?, h.mem, headRd]
theorem Rd.set (h : Rd T D o w p q L now) (i x : Nat) (hc : Clk (L.set i x) now) : Rd T D o (w.setCell ⟨q, i, none⟩ (.int .u64 (x : Nat))) p q (L.set i x) now := by
  refine ⟨hc, h.ne, ?_, ?_⟩
  · rw [Below.heap_setCell _ _ _ _ (by simpa using h.ne), h.mem, List.length_set]
  · rw [heap_setCell_same w q i _ T _ h.row, ← encU_set]
    simp
end Go.Proofs.YtlghphccmgmomaaGreat

/-
  Proved here: what the methods of sync/atomic.Uint64 answer and leave.
  Conditions: none.
-/
namespace Go.Proofs.YtlghphccmgmomaaGreat
open Go Go.RowKit
set_option maxRecDepth 100000

theorem loadu (a : Addr) (x : Int) (w : World) (hc : w.cell? a = some (.int .u64 x)) :
    (callFunc 72 #[.pointer (some a)]).run Tryz.prog w = .ok (.value (.int .u64 x)) w :=
  run_call_load Tryz.func72 (by kernel_rfl) (by kernel_rfl) (by kernel_rfl) .u64 (by kernel_rfl) hc
theorem storeu (a : Addr) (u : Value) (y : Int) (w : World) (hc : w.cell? a = some u) (hz : w.frozen? a = false) :
    (callFunc 188 #[.pointer (some a), .int .u64 y]).run Tryz.prog w = .ok (.value (.tuple #[])) (w.setCell a (.int .u64 y)) :=
  run_call_store Tryz.func188 (by kernel_rfl) (by kernel_rfl) (by kernel_rfl) (by kernel_rfl) hc hz
set_option maxHeartbeats 400000 in
theorem uload (b o : Nat) (x : Int) (w : World) (hc : w.cell? ⟨b, o, none⟩ = some (.int .u64 x)) : Calls Tryz.prog 35 #[.pointer (some ⟨b, o, none⟩)] w fun e w' => e = .returned (.int .u64 x) ∧ w = w' := by
  have h1 := loadu _ _ w hc
  clear hc
  go_enter Tryz.func35, Tryz.ntmps35
  go_wp2
  go_ret
  exact ⟨rfl, rfl⟩
set_option maxHeartbeats 400000 in
theorem ustore (b o : Nat) (u : Value) (y : Int) (w : World) (hc : w.cell? ⟨b, o, none⟩ = some u) (hz : w.frozen? ⟨b, o, none⟩ = false) :
    Calls Tryz.prog 151 #[.pointer (some ⟨b, o, none⟩), .int .u64 y] w fun e w' => e = .returned (.tuple #[]) ∧ w.setCell ⟨b, o, none⟩ (.int .u64 y) = w' := by
  have h1 := storeu _ _ y w hc hz
  generalize w.setCell ⟨b, o, none⟩ (.int .u64 y) = w1 at *
  clear hc hz
  go_enter Tryz.func151, Tryz.ntmps151
  go_wp2
  refine bodyPost_end (results_none rfl _ _ _) rfl ?_
  exact ⟨rfl, rfl⟩
end Go.Proofs.YtlghphccmgmomaaGreat
