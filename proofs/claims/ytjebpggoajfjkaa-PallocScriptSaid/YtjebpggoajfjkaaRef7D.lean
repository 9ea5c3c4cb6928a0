/-
  Proved here: what chapter 7's own next, Take, Room, Slabs and Mark answer and leave.
  Conditions: none.
-/
import Derived.Test.YtjebpggoajfjkaaRef7C
namespace Go.Proofs.Ytjebpggoajfjkaa
open Go Go.RowKit

set_option maxHeartbeats 1600000 in
theorem rnext_any {w : World} {r lo n : Nat} {L : List Tk} (h : Rf w r lo n L) (c : Int) : Calls Try.prog 39 #[.pointer (some ⟨r, 0, none⟩), .int .i64 c] w fun e w' => e = .returned (.int .i64 (nextL n L c)) ∧ Below w.heap.size w w' := by
  have hn := h.most
  have HRF := Lib.hid h
  have HFR := Lib.hid (rfree_any h c)
  unfold RowTo7 at HFR
  have hle := freeL_le n L c
  have HRG := Lib.hid (fun k => clsAt_range h.pool k)
  rcases Nat.eq_zero_or_pos (freeL n L c).length with h0 | h0
  · have he := List.eq_nil_of_length_eq_zero h0
    have HE := Lib.hid he
    have HNO : Hid (wholeL n L = none → nextL n L c = -1) := fun e => next_none he e
    have HYES : Hid (∀ k, wholeL n L = some k → nextL n L c = 2 + 8 * (k : Int)) := fun k e => next_whole he e hn
    rw [he] at HFR
    generalize nextL n L c = x at *
    clear h h0 he hle
    go_enter Try.func39, Try.ntmps39
    go_wp2_with fail
    refine HFR.out.mono ?_
    rintro e w1 ⟨v, rfl, ho, hb⟩
    obtain ⟨A, cap, rfl, _, _, _⟩ := rowI_of_own ho (by simp)
    have HB := Lib.hid hb
    have HR1 : Hid (Rf w1 r lo n L) := HRF.out.below hb
    have hc0 := HR1.out.cells.1
    simp only [List.length_nil]
    clear ho hb
    go_wp2
    go_loopg [6] n (fun gk s6 wx => ∃ i : Nat, i + gk = n ∧ s6 = .int .i64 i ∧ w1 = wx ∧ Hid (∀ j : Nat, j < i → clsAt L j ≠ -1))
    case atStart => exact ⟨0, by omega, rfl, rfl, fun j hj => by omega⟩
    case round =>
      obtain ⟨i, hin, rfl, rfl, HFN⟩ := hrel
      cases gk with
      | zero =>
        obtain rfl : i = n := by omega
        have hii : ¬ (i : Int) < (i : Int) := by omega
        have HX := Lib.hid (HNO.out (whole_no HFN.out))
        go_wp2
        go_ret
        exact ⟨int_eq HX.out.symm, HB.out⟩
      | succ gk =>
        have hii : (i : Int) < (n : Int) := by omega
        have HCL := Lib.hid (rclass_any HR1.out i)
        have hrg := HRG.out i
        have HSB := Lib.hid (fun w' => rslab_any i w')
        have hsb : slabN i = 2 + 8 * (i : Int) := by unfold slabN; rw [if_pos (by omega)]
        rw [hsb] at HSB
        rcases Classical.em (clsAt L i = -1) with hc | hc
        · have HX := Lib.hid (HYES.out i (whole_first (by omega) HFN.out hc))
          rw [hc] at HCL
          clear hc hrg hsb
          go_wp2_with fail
          refine HCL.out.mono ?_
          rintro e w' ⟨rfl, rfl⟩
          go_wp2_with fail
          refine (HSB.out _).mono ?_
          rintro e w' ⟨rfl, rfl⟩
          go_wp2
          go_ret
          exact ⟨int_eq HX.out.symm, HB.out⟩
        · have HF2 : Hid (∀ j : Nat, j < i + 1 → clsAt L j ≠ -1) := fun j hj => by
            rcases Nat.lt_or_ge j i with h1 | h1
            · exact HFN.out j h1
            · obtain rfl : j = i := by omega
              exact hc
          have hge : ¬ clsAt L i < 0 := by omega
          generalize clsAt L i = cl at *
          clear hc hrg hsb
          go_wp2_with fail
          refine HCL.out.mono ?_
          rintro e w' ⟨rfl, rfl⟩
          go_wp2
          go_roundg gk
          case measure => omega
          case rel => exact ⟨i + 1, by omega, by go_num, rfl, HF2⟩
  · have HX := Lib.hid (next_head h0)
    generalize nextL n L c = x at *
    generalize freeL n L c = fl at *
    obtain ⟨f, hf⟩ : ∃ f, fl.length = f := ⟨_, rfl⟩
    rw [hf] at hle h0 HFR
    have HF := Lib.hid hf
    have hf0 : (0 : Int) < (f : Int) := by omega
    clear h hf
    go_enter Try.func39, Try.ntmps39
    go_wp2_with fail
    refine HFR.out.mono ?_
    rintro e w1 ⟨v, rfl, ho, hb⟩
    obtain ⟨A, cap, rfl, hrow, _, _⟩ := rowI_of_own ho (by have := HF.out; omega)
    obtain ⟨b, off, rfl, _, hcl⟩ := hrow.2 (by have := HF.out; omega)
    have hcell := hcl 0 (by have := HF.out; omega)
    rw [← HX.out, Nat.add_zero] at hcell
    have HB := Lib.hid hb
    clear ho hb hrow hcl
    go_wp2
    go_ret
    exact ⟨rfl, HB.out⟩
theorem Turns.of_below3 {r : Nat} {w w1 w2 : World} (h : Below w.heap.size w w1) (k : Turns r r w1 w2) : Turns r r w w2 := (Turns.of_below h r r).trans k
theorem span_zero (c : Int) : ((spanN c : Int) == 0) = !decide (0 ≤ c ∧ c ≤ 3) := by
  rw [← cls_pos]
  rw [Bool.eq_iff_iff]
  simp
set_option maxHeartbeats 800000 in
theorem rtake_any {w : World} {r lo n : Nat} {L : List Tk} (h : Rf w r lo n L) (c : Int) : Calls Try.prog 16 #[.pointer (some ⟨r, 0, none⟩), .int .i64 c] w fun e w' => e = .returned (.tuple #[.int .i64 (takeV n L c), .int .i64 (takeE n L c)]) ∧ Rf w' r lo n (takeL n L c) ∧ Turns r r w w' := by
  have HRF := Lib.hid h
  have HSP := Lib.hid (rspan_any c w)
  have hsz := span_zero c
  have HNX := Lib.hid (rnext_any h c)
  unfold takeV takeE takeL
  by_cases hc : 0 ≤ c ∧ c ≤ 3
  · rw [decide_eq_true hc] at hsz
    by_cases hx : 0 ≤ nextL n L c
    · rw [if_pos ⟨hc, hx⟩, if_pos hc, if_pos hx, if_pos ⟨hc, hx⟩]
      have HPT : Hid (∀ w', Rf w' r lo n L → Calls Try.prog 40 #[.pointer (some ⟨r, 0, none⟩), .int .i64 (nextL n L c), .int .i64 c] w' fun e w2 => e = .returned (.tuple #[]) ∧ Rf w2 r lo n (putL L (nextL n L c) c) ∧ Turns r r w' w2) := fun w' hw => rput_any hw _ _ (pool_take h.pool h.most hc hx)
      have hlt : ¬ nextL n L c < 0 := by omega
      generalize nextL n L c = x at *
      generalize spanN c = s at *
      replace hsz : ((s : Int) == 0) = false := hsz
      clear h hc hx
      go_enter Try.func16, Try.ntmps16
      go_wp2_with fail
      refine HSP.out.mono ?_
      rintro e w' ⟨rfl, rfl⟩
      go_wp2_with fail
      refine HNX.out.mono ?_
      rintro e w1 ⟨rfl, hb⟩
      have HB := Lib.hid hb
      clear hb
      go_wp2_with fail
      refine (HPT.out w1 (HRF.out.below HB.out)).mono ?_
      rintro e w2 ⟨rfl, hp2, ht2⟩
      have HP2 := Lib.hid hp2
      have HT2 := Lib.hid ht2
      clear hp2 ht2
      go_wp2
      go_ret2
      exact ⟨rfl, HP2.out, Turns.of_below3 HB.out HT2.out⟩
    · rw [if_neg (fun h => hx h.2), if_pos hc, if_neg hx, if_neg (fun h => hx h.2)]
      have hlt : nextL n L c < 0 := by omega
      generalize nextL n L c = x at *
      generalize spanN c = s at *
      replace hsz : ((s : Int) == 0) = false := hsz
      clear h hc hx
      go_enter Try.func16, Try.ntmps16
      go_wp2_with fail
      refine HSP.out.mono ?_
      rintro e w' ⟨rfl, rfl⟩
      go_wp2_with fail
      refine HNX.out.mono ?_
      rintro e w1 ⟨rfl, hb⟩
      have HB := Lib.hid hb
      clear hb
      go_wp2
      go_ret2
      exact ⟨rfl, HRF.out.below HB.out, Turns.of_below HB.out r r⟩
  · rw [if_neg (fun h => hc h.1), if_neg hc, if_neg (fun h => hc h.1)]
    rw [decide_eq_false hc] at hsz
    generalize spanN c = s at *
    replace hsz : ((s : Int) == 0) = true := hsz
    clear h hc HNX
    go_enter Try.func16, Try.ntmps16
    go_wp2_with fail
    refine HSP.out.mono ?_
    rintro e w' ⟨rfl, rfl⟩
    go_wp2
    go_ret2
    exact ⟨rfl, HRF.out, Turns.refl _ _ _⟩
set_option maxHeartbeats 800000 in
theorem rroom_any {w : World} {r lo n : Nat} {L : List Tk} (h : Rf w r lo n L) (c : Int) : Calls Try.prog 50 #[.pointer (some ⟨r, 0, none⟩), .int .i64 c] w fun e w' => e = .returned (.bool (roomB n L c)) ∧ Below w.heap.size w w' := by
  have HSP := Lib.hid (rspan_any c w)
  have hsp := cls_pos c
  have HNX := Lib.hid (rnext_any h c)
  unfold roomB
  rw [← hsp]
  clear hsp
  obtain ⟨nb, hnb⟩ : ∃ nb, decide (0 ≤ nextL n L c) = nb := ⟨_, rfl⟩
  rw [hnb]
  generalize nextL n L c = x at *
  generalize spanN c = s at *
  rcases Nat.eq_zero_or_pos s with h0 | h0
  · subst h0
    show Calls _ _ _ _ fun e w' => e = .returned (.bool false) ∧ Below w.heap.size w w'
    clear h hnb
    go_enter Try.func50, Try.ntmps50
    go_wp2_with fail
    refine HSP.out.mono ?_
    rintro e w' ⟨rfl, rfl⟩
    go_wp2
    go_ret
    exact ⟨rfl, Below.refl _ _⟩
  · rw [decide_eq_true h0, Bool.true_and]
    have hs : (0 : Int) < (s : Int) := by omega
    have hs2 : decide (0 < s) = true := decide_eq_true h0
    clear h
    go_enter Try.func50, Try.ntmps50
    go_wp2_with fail
    refine HSP.out.mono ?_
    rintro e w' ⟨rfl, rfl⟩
    go_wp2_with fail
    refine HNX.out.mono ?_
    rintro e w1 ⟨rfl, hb⟩
    have HB := Lib.hid hb
    clear hb
    go_wp2
    go_ret
    exact ⟨rfl, HB.out⟩
theorem slabsL_succ (i : Nat) (L : List Tk) : slabsL (i + 1) L = slabsL i L ++ [clsAt L i] := by simp [slabsL, List.range_succ]
set_option maxHeartbeats 800000 in
theorem rslabs_all {w : World} {r lo n : Nat} {L : List Tk} (h : Rf w r lo n L) : Calls Try.prog 46 #[.pointer (some ⟨r, 0, none⟩)] w (RowTo7 w (slabsL n L)) := by
  have hn := h.most
  have HRF := Lib.hid h
  have HRU : Hid (∀ v w', w'.ownsRow w.heap.size 3 1 v (slabsL n L).length (encI (slabsL n L)) → Below w.heap.size w w' → RowTo7 w (slabsL n L) (.returned v) w') := fun v w' a b => ⟨v, rfl, a, b⟩
  obtain ⟨R, hR⟩ : ∃ R, RowTo7 w (slabsL n L) = R := ⟨_, rfl⟩
  rw [hR] at HRU ⊢
  obtain ⟨g, hg⟩ : ∃ g, w.heap.size = g := ⟨_, rfl⟩
  rw [hg] at HRU
  have HG := Lib.hid hg
  have h0 := h.cells.1
  clear hR h hg
  go_enter Try.func46, Try.ntmps46
  go_wp2
  clear h0
  go_loopg [3, 4] n (fun gk s3 s4 wx => ∃ (i : Nat) (V : Value), i + gk = n ∧ s4 = .int .i64 i ∧ V = s3 ∧ Hid (wx.ownsRow g 3 1 V (slabsL i L).length (encI (slabsL i L))) ∧ Hid (Below g w wx))
  case atStart => exact ⟨0, _, by omega, rfl, rfl, World.ownsRow_nil _ _ _ _, Below.refl _ _⟩
  case round =>
    obtain ⟨i, V, hin, rfl, rfl, HO, HW⟩ := hrel
    have HRr : Hid (Rf wr r lo n L) := HRF.out.below (HG.out ▸ HW.out)
    have h0 := HRr.out.cells.1
    cases gk with
    | zero =>
      obtain rfl : i = n := by omega
      have hii : ¬ (i : Int) < (i : Int) := by omega
      go_wp2
      exact HRU.out _ _ HO.out HW.out
    | succ gk =>
      have hii : (i : Int) < (n : Int) := by omega
      have HCL := Lib.hid (rclass_any HRr.out i)
      have HSS := Lib.hid (slabsL_succ i L)
      obtain ⟨V', w', hrun, ho', hb', _⟩ := run_appI_one2 wr g V _ (clsAt L i) HO.out (by rw [slabsL_len]; omega) (by have := HW.out.size; have := HG.out; omega)
      have HRUN := Lib.hid hrun
      have HO' := Lib.hid ho'
      have HB' : Hid (Below g w w') := HW.out.trans hb'
      clear hrun ho' hb'
      generalize clsAt L i = cl at *
      go_wp2_with fail
      refine HCL.out.mono ?_
      rintro e w'' ⟨rfl, rfl⟩
      go_wp2_with (at_builtin; refine wpList_app rfl (.tmp 13) (.tmp 17) 49 rfl rfl rfl HRUN.out ?_)
      go_roundg gk
      case measure => omega
      case rel => exact ⟨i + 1, V', by omega, by go_num, rfl, (by rw [HSS.out]; exact HO'), HB'⟩
/-- What is behind a mark. -/
def RMarkTo (w : World) (r lo n : Nat) (L : List Tk) (x c : Int) (e : Ending) (w' : World) : Prop := e = .returned (.int .i64 (markE n L x c)) ∧ Rf w' r lo n (markL n L x c) ∧ Turns r r w w'
set_option maxHeartbeats 1600000 in
theorem rmark_any {w : World} {r lo n : Nat} {L : List Tk} (h : Rf w r lo n L) (x c : Int) : Calls Try.prog 20 #[.pointer (some ⟨r, 0, none⟩), .int .i64 x, .int .i64 c] w (RMarkTo w r lo n L x c) := by
  have HRF := Lib.hid h
  have HSO := Lib.hid (rslabof_any x w)
  have HHO := Lib.hid (rhome_any x c w)
  have HOF : Hid (∀ w', Rf w' r lo n L → Calls Try.prog 22 #[.pointer (some ⟨r, 0, none⟩), .int .i64 x] w' fun e w2 => e = .returned (.tuple #[.int .i64 ((ofL L x).getD 0), .bool (ofL L x).isSome]) ∧ w' = w2) := fun w' hw => rof_any hw x
  have HCL : Hid (∀ w', Rf w' r lo n L → Calls Try.prog 45 #[.pointer (some ⟨r, 0, none⟩), .int .i64 (slabOfN x)] w' fun e w2 => e = .returned (.int .i64 (clsAt L (slabOfN x))) ∧ w' = w2) := fun w' hw => rclass_any hw _
  have HM : Hid (markE n L x c = if homeN x c = false ∨ (n : Int) ≤ slabOfN x then 1 else if (ofL L x).isSome ∨ (0 ≤ clsAt L (slabOfN x) ∧ clsAt L (slabOfN x) ≠ c) then 7 else 0) := rfl
  have HNO : Hid (∀ (v : Int) w', v ≠ 0 → markE n L x c = v → Below w.heap.size w w' → RMarkTo w r lo n L x c (.returned (.int .i64 v)) w') := fun v w' hv e hb => by
    refine ⟨by rw [e], ?_, Turns.of_below hb r r⟩
    unfold markL
    rw [if_neg (by omega)]
    exact HRF.out.below hb
  have HPT : Hid (markE n L x c = 0 → ∀ w', Rf w' r lo n L → Calls Try.prog 40 #[.pointer (some ⟨r, 0, none⟩), .int .i64 x, .int .i64 c] w' fun e w2 => e = .returned (.tuple #[]) ∧ Rf w2 r lo n (putL L x c) ∧ Turns r r w' w2) := fun e w' hw => rput_any hw _ _ (mark_ok h.pool e)
  have HYES : Hid (markE n L x c = 0 → ∀ w1 w2, Below w.heap.size w w1 → Rf w2 r lo n (putL L x c) → Turns r r w1 w2 → RMarkTo w r lo n L x c (.returned (.int .i64 0)) w2) := fun e w1 w2 hb hr ht => by
    refine ⟨by rw [e], ?_, Turns.of_below3 hb ht⟩
    unfold markL
    rw [if_pos e]
    exact hr
  have hrg := clsAt_range h.pool (slabOfN x)
  have hn := h.most
  obtain ⟨R, hR⟩ : ∃ R, RMarkTo w r lo n L x c = R := ⟨_, rfl⟩
  rw [hR] at HNO HYES ⊢
  generalize homeN x c = hm at *
  generalize clsAt L (slabOfN x) = cl at *
  generalize slabOfN x = k at *
  generalize markE n L x c = me at *
  generalize (ofL L x).isSome = tk at *
  generalize (ofL L x).getD 0 = od at *
  clear h hR
  cases hm with
  | false =>
    have HE := Lib.hid (fun w' => HNO.out 1 w' (by omega) (by rw [HM.out, if_pos (.inl rfl)]))
    clear HM HYES HNO HPT
    go_enter Try.func20, Try.ntmps20
    go_wp2_with fail
    refine HSO.out.mono ?_
    rintro e w' ⟨rfl, rfl⟩
    go_wp2_with fail
    refine HHO.out.mono ?_
    rintro e w1 ⟨rfl, hb⟩
    have HB := Lib.hid hb
    clear hb
    go_wp2
    exact HE.out _ HB.out
  | true =>
    rcases Classical.em ((n : Int) ≤ k) with hk | hk
    · have HE := Lib.hid (fun w' => HNO.out 1 w' (by omega) (by rw [HM.out, if_pos (.inr hk)]))
      clear HM HYES HNO HPT
      go_enter Try.func20, Try.ntmps20
      go_wp2_with fail
      refine HSO.out.mono ?_
      rintro e w' ⟨rfl, rfl⟩
      go_wp2_with fail
      refine HHO.out.mono ?_
      rintro e w1 ⟨rfl, hb⟩
      have HB := Lib.hid hb
      have h0 := (HRF.out.below hb).cells.1
      clear hb
      go_wp2
      exact HE.out _ HB.out
    · have HM2 : Hid (me = if tk = true ∨ (0 ≤ cl ∧ cl ≠ c) then 7 else 0) := by have := HM.out; rw [if_neg (by rintro (h1 | h1); cases h1; exact hk h1)] at this; exact this
      clear HM
      cases tk with
      | true =>
        have HE := Lib.hid (fun w' => HNO.out 7 w' (by omega) (by rw [HM2.out, if_pos (.inl rfl)]))
        clear HM2 HYES HNO HPT
        go_enter Try.func20, Try.ntmps20
        go_wp2_with fail
        refine HSO.out.mono ?_
        rintro e w' ⟨rfl, rfl⟩
        go_wp2_with fail
        refine HHO.out.mono ?_
        rintro e w1 ⟨rfl, hb⟩
        have HB := Lib.hid hb
        have HR1 : Hid (Rf w1 r lo n L) := HRF.out.below hb
        have h0 := HR1.out.cells.1
        clear hb
        go_wp2_with fail
        refine (HOF.out _ HR1.out).mono ?_
        rintro e w' ⟨rfl, rfl⟩
        go_wp2
        exact HE.out _ HB.out
      | false =>
        rcases Classical.em (0 ≤ cl) with h1 | h1
        · rcases Classical.em (cl = c) with h2 | h2
          · have hne : (cl != c) = false := by simpa using h2
            have hme : me = 0 := by rw [HM2.out, if_neg (by rintro (h3 | h3); cases h3; exact h3.2 h2)]
            have HP2 := Lib.hid (HPT.out hme)
            have HY2 := Lib.hid (HYES.out hme)
            clear HM2 HYES HNO HPT hme h2
            go_enter Try.func20, Try.ntmps20
            go_wp2_with fail
            refine HSO.out.mono ?_
            rintro e w' ⟨rfl, rfl⟩
            go_wp2_with fail
            refine HHO.out.mono ?_
            rintro e w1 ⟨rfl, hb⟩
            have HB := Lib.hid hb
            have HR1 : Hid (Rf w1 r lo n L) := HRF.out.below hb
            have h0 := HR1.out.cells.1
            clear hb
            go_wp2_with fail
            refine (HOF.out _ HR1.out).mono ?_
            rintro e w' ⟨rfl, rfl⟩
            go_wp2_with fail
            refine (HCL.out _ HR1.out).mono ?_
            rintro e w' ⟨rfl, rfl⟩
            go_wp2_with fail
            refine (HCL.out _ HR1.out).mono ?_
            rintro e w' ⟨rfl, rfl⟩
            go_wp2_with fail
            refine (HP2.out _ HR1.out).mono ?_
            rintro e w2 ⟨rfl, hr2, ht2⟩
            have HR2 := Lib.hid hr2
            have HT2 := Lib.hid ht2
            clear hr2 ht2
            go_wp2
            exact HY2.out _ _ HB.out HR2.out HT2.out
          · have hne : (cl != c) = true := by simpa using h2
            have HE := Lib.hid (fun w' => HNO.out 7 w' (by omega) (by rw [HM2.out, if_pos (.inr ⟨h1, h2⟩)]))
            clear HM2 HYES HNO HPT h2
            go_enter Try.func20, Try.ntmps20
            go_wp2_with fail
            refine HSO.out.mono ?_
            rintro e w' ⟨rfl, rfl⟩
            go_wp2_with fail
            refine HHO.out.mono ?_
            rintro e w1 ⟨rfl, hb⟩
            have HB := Lib.hid hb
            have HR1 : Hid (Rf w1 r lo n L) := HRF.out.below hb
            have h0 := HR1.out.cells.1
            clear hb
            go_wp2_with fail
            refine (HOF.out _ HR1.out).mono ?_
            rintro e w' ⟨rfl, rfl⟩
            go_wp2_with fail
            refine (HCL.out _ HR1.out).mono ?_
            rintro e w' ⟨rfl, rfl⟩
            go_wp2_with fail
            refine (HCL.out _ HR1.out).mono ?_
            rintro e w' ⟨rfl, rfl⟩
            go_wp2
            exact HE.out _ HB.out
        · have hme : me = 0 := by rw [HM2.out, if_neg (by rintro (h3 | h3); cases h3; exact h1 h3.1)]
          have HP2 := Lib.hid (HPT.out hme)
          have HY2 := Lib.hid (HYES.out hme)
          clear HM2 HYES HNO HPT hme
          go_enter Try.func20, Try.ntmps20
          go_wp2_with fail
          refine HSO.out.mono ?_
          rintro e w' ⟨rfl, rfl⟩
          go_wp2_with fail
          refine HHO.out.mono ?_
          rintro e w1 ⟨rfl, hb⟩
          have HB := Lib.hid hb
          have HR1 : Hid (Rf w1 r lo n L) := HRF.out.below hb
          have h0 := HR1.out.cells.1
          clear hb
          go_wp2_with fail
          refine (HOF.out _ HR1.out).mono ?_
          rintro e w' ⟨rfl, rfl⟩
          go_wp2_with fail
          refine (HCL.out _ HR1.out).mono ?_
          rintro e w' ⟨rfl, rfl⟩
          go_wp2_with fail
          refine (HP2.out _ HR1.out).mono ?_
          rintro e w2 ⟨rfl, hr2, ht2⟩
          have HR2 := Lib.hid hr2
          have HT2 := Lib.hid ht2
          clear hr2 ht2
          go_wp2
          exact HY2.out _ _ HB.out HR2.out HT2.out

end Go.Proofs.Ytjebpggoajfjkaa
