/-
  Proved here: what package palloc's Take, Room, Free and Slabs answer and leave.
  Conditions: none.
-/
import Derived.Test.YtjebpggoajfjkaaPoolC
namespace Go.Proofs.Ytjebpggoajfjkaa
open Go Go.RowKit

set_option maxHeartbeats 400000 in
theorem take_nil (c : Int) (w : World) : Calls Try.prog 15 #[.pointer none, .int .i64 c] w fun e w' => e = .returned (.tuple #[.int .i64 0, .int .i64 1]) ∧ w = w' := by
  go_enter Try.func15, Try.ntmps15
  go_wp2
  go_ret2
  exact ⟨rfl, rfl⟩
set_option maxHeartbeats 400000 in
theorem room_nil (c : Int) (w : World) : Calls Try.prog 34 #[.pointer none, .int .i64 c] w fun e w' => e = .returned (.bool false) ∧ w = w' := by
  go_enter Try.func34, Try.ntmps34
  go_wp2
  go_ret
  exact ⟨rfl, rfl⟩
set_option maxHeartbeats 400000 in
theorem free_nil' (c : Int) (w : World) : Calls Try.prog 31 #[.pointer none, .int .i64 c] w fun e w' => e = .returned (.slice none 0 0) ∧ w = w' := by
  go_enter Try.func31, Try.ntmps31
  go_wp2
  go_ret
  exact ⟨rfl, rfl⟩
set_option maxHeartbeats 400000 in
theorem slabs_nil (w : World) : Calls Try.prog 26 #[.pointer none] w fun e w' => e = .returned (.slice none 0 0) ∧ w = w' := by
  go_enter Try.func26, Try.ntmps26
  go_wp2
  go_ret
  exact ⟨rfl, rfl⟩
set_option maxHeartbeats 400000 in
theorem taken_nil (w : World) : Calls Try.prog 25 #[.pointer none] w fun e w' => e = .returned (.slice none 0 0) ∧ w = w' := by
  go_enter Try.func25, Try.ntmps25
  go_wp2
  go_ret
  exact ⟨rfl, rfl⟩
/-- A class. -/
def isCls (c : Int) : Prop := 0 ≤ c ∧ c ≤ 3
theorem cls_pos (c : Int) : decide (0 < spanN c) = decide (0 ≤ c ∧ c ≤ 3) := by
  by_cases h : 0 ≤ c ∧ c ≤ 3
  · have := cls_span h
    rw [decide_eq_true h, decide_eq_true (by omega)]
  · rw [decide_eq_false h, spanN_none (by omega)]
    rfl
/-- What Take answers: a line, an error; what is taken behind it. -/
def takeV (n : Nat) (L : List Tk) (c : Int) : Int := if (0 ≤ c ∧ c ≤ 3) ∧ 0 ≤ nextL n L c then nextL n L c else 0
def takeE (n : Nat) (L : List Tk) (c : Int) : Int := if 0 ≤ c ∧ c ≤ 3 then if 0 ≤ nextL n L c then 0 else 4 else 1
def takeL (n : Nat) (L : List Tk) (c : Int) : List Tk := if (0 ≤ c ∧ c ≤ 3) ∧ 0 ≤ nextL n L c then putL L (nextL n L c) c else L
theorem mark_next {n : Nat} {L : List Tk} (h : Pool7 n L) (hn : n ≤ 32) {c : Int} (hc : 0 ≤ c ∧ c ≤ 3) (hx : 0 ≤ nextL n L c) : markE n L (nextL n L c) c = 0 := by
  obtain ⟨h1, h2, h3, h4⟩ := next_ok h hn hc hx
  unfold markE
  rw [if_neg (by rw [h1]; simp; omega), if_neg]
  rintro (h5 | ⟨h5, h6⟩)
  · rw [ofL_none.2 h3] at h5
    cases h5
  · omega
theorem Turns.of_below2 {p q B : Nat} {w w' : World} (h : Below B w w') (hB : w.heap.size ≤ B) : Turns p q w w' := ⟨h.os, h.tape, h.output, h.size, fun k _ _ hk => h.block k (by omega)⟩
set_option maxHeartbeats 800000 in
theorem take_any {w : World} {p q n : Nat} {L : List Tk} (h : PlP w p q n L) (c : Int) : Calls Try.prog 15 #[.pointer (some ⟨p, 0, none⟩), .int .i64 c] w fun e w' => e = .returned (.tuple #[.int .i64 (takeV n L c), .int .i64 (takeE n L c)]) ∧ PlP w' p q n (takeL n L c) ∧ Turns p q w w' := by
  have HP := Lib.hid h
  have HIC := Lib.hid (isclass_any c w)
  rw [cls_pos] at HIC
  have HNX := Lib.hid (next_any h c)
  unfold NextTo at HNX
  unfold takeV takeE takeL
  by_cases hc : 0 ≤ c ∧ c ≤ 3
  · rw [decide_eq_true hc] at HIC
    by_cases hx : 0 ≤ nextL n L c
    · rw [if_pos ⟨hc, hx⟩, if_pos hc, if_pos hx, if_pos ⟨hc, hx⟩]
      rw [if_pos hx, decide_eq_true hx] at HNX
      have HM : Hid (∀ w', PlP w' p q n L → Calls Try.prog 19 #[.pointer (some ⟨p, 0, none⟩), .int .i64 (nextL n L c), .int .i64 c] w' fun e w2 => e = .returned (.int .i64 0) ∧ PlP w2 p q n (putL L (nextL n L c) c) ∧ Turns p q w' w2) := fun w' hw => by
        have h1 := mark_any hw (nextL n L c) c
        unfold MarkTo markL at h1
        rw [mark_next h.pool h.most hc hx, if_pos rfl] at h1
        exact h1
      generalize nextL n L c = x at *
      clear h hc hx
      go_enter Try.func15, Try.ntmps15
      go_wp2_with fail
      refine HIC.out.mono ?_
      rintro e w' ⟨rfl, rfl⟩
      go_wp2_with fail
      refine HNX.out.mono ?_
      rintro e w1 ⟨rfl, hb⟩
      have HB := Lib.hid hb
      clear hb
      go_wp2_with fail
      refine (HM.out w1 (HP.out.below HB.out)).mono ?_
      rintro e w2 ⟨rfl, hp2, ht2⟩
      have HP2 := Lib.hid hp2
      have HT2 := Lib.hid ht2
      clear hp2 ht2
      go_wp2
      go_ret2
      exact ⟨rfl, HP2.out, (Turns.of_below HB.out p q).trans HT2.out⟩
    · rw [if_neg (fun h => hx h.2), if_pos hc, if_neg hx, if_neg (fun h => hx h.2)]
      rw [if_neg hx, decide_eq_false hx] at HNX
      clear h hc hx
      go_enter Try.func15, Try.ntmps15
      go_wp2_with fail
      refine HIC.out.mono ?_
      rintro e w' ⟨rfl, rfl⟩
      go_wp2_with fail
      refine HNX.out.mono ?_
      rintro e w1 ⟨rfl, hb⟩
      have HB := Lib.hid hb
      clear hb
      go_wp2
      go_ret2
      exact ⟨rfl, HP.out.below HB.out, Turns.of_below HB.out p q⟩
  · rw [if_neg (fun h => hc h.1), if_neg hc, if_neg (fun h => hc h.1)]
    rw [decide_eq_false hc] at HIC
    clear h hc HNX
    go_enter Try.func15, Try.ntmps15
    go_wp2_with fail
    refine HIC.out.mono ?_
    rintro e w' ⟨rfl, rfl⟩
    go_wp2
    go_ret2
    exact ⟨rfl, HP.out, Turns.refl _ _ _⟩
def roomB (n : Nat) (L : List Tk) (c : Int) : Bool := decide (0 ≤ c ∧ c ≤ 3) && decide (0 ≤ nextL n L c)
set_option maxHeartbeats 800000 in
theorem room_any {w : World} {p q n : Nat} {L : List Tk} (h : PlP w p q n L) (c : Int) : Calls Try.prog 34 #[.pointer (some ⟨p, 0, none⟩), .int .i64 c] w fun e w' => e = .returned (.bool (roomB n L c)) ∧ Below w.heap.size w w' := by
  have HIC := Lib.hid (isclass_any c w)
  rw [cls_pos] at HIC
  have HNX := Lib.hid (next_any h c)
  unfold NextTo at HNX
  unfold roomB
  generalize decide (0 ≤ nextL n L c) = nb at *
  generalize (if 0 ≤ nextL n L c then nextL n L c else 0) = nx at *
  cases hc : decide (0 ≤ c ∧ c ≤ 3) with
  | true =>
    rw [hc] at HIC
    rw [Bool.true_and]
    clear h hc
    go_enter Try.func34, Try.ntmps34
    go_wp2_with fail
    refine HIC.out.mono ?_
    rintro e w' ⟨rfl, rfl⟩
    go_wp2_with fail
    refine HNX.out.mono ?_
    rintro e w1 ⟨rfl, hb⟩
    have HB := Lib.hid hb
    clear hb
    go_wp2
    go_ret
    exact ⟨rfl, HB.out⟩
  | false =>
    rw [hc] at HIC
    rw [Bool.false_and]
    clear h hc
    go_enter Try.func34, Try.ntmps34
    go_wp2_with fail
    refine HIC.out.mono ?_
    rintro e w' ⟨rfl, rfl⟩
    go_wp2
    go_ret
    exact ⟨rfl, Below.refl _ _⟩
/-- A row put behind a row that the call made. -/
theorem run_appI_row (w : World) (base : Nat) (v : Value) (q l : List Int) (A : Option Addr) (c : Nat) (hown : w.ownsRow base 3 1 v q.length (encI q)) (hr : RowI w A l) (hc : A = none → c = 0) (hn : q.length + l.length ≤ 134217728) (hbase : base ≤ w.heap.size) :
    ∃ v' w', (Builtin.append_ #[49, 49] 49 #[v, .slice A l.length c]).run Try.prog w = .ok v' w' ∧ w'.ownsRow base 3 1 v' (q ++ l).length (encI (q ++ l)) ∧ Below base w w' := by
  obtain ⟨v', w', h1, h2, h3, _⟩ := run_appI w base q.length v (encI q) hown A l.length c l rfl hr hc hn hbase
  refine ⟨v', w', h1, by rw [← encI_append, List.length_append]; exact h2, ?_⟩
  exact (Below.refl base w).grown h3 hbase (own_ge hown)
theorem freeAt_le (L : List Tk) (k c : Int) : (freeAt L k c).length ≤ 8 := by
  unfold freeAt
  split
  · exact Nat.le_trans (List.length_filter_le _ _) (startsN_le _ _)
  · simp
theorem freeL_succ (i : Nat) (L : List Tk) (c : Int) : freeL (i + 1) L c = freeL i L c ++ freeAt L i c := by
  unfold freeL
  rw [List.range_succ, List.flatMap_append]
  simp
theorem freeL_le (i : Nat) (L : List Tk) (c : Int) : (freeL i L c).length ≤ 8 * i := by
  induction i with
  | zero => simp [freeL]
  | succ i ih =>
    rw [freeL_succ, List.length_append]
    have := freeAt_le L i c
    omega
set_option maxHeartbeats 800000 in
theorem free_any {w : World} {p q n : Nat} {L : List Tk} (h : PlP w p q n L) (c : Int) : Calls Try.prog 31 #[.pointer (some ⟨p, 0, none⟩), .int .i64 c] w (RowTo7 w (freeL n L c)) := by
  have hn := h.most
  have HP := Lib.hid h
  have hsl := h.slice
  have HRU : Hid (∀ v w', w'.ownsRow w.heap.size 3 1 v (freeL n L c).length (encI (freeL n L c)) → Below w.heap.size w w' → RowTo7 w (freeL n L c) (.returned v) w') := fun v w' a b => ⟨v, rfl, a, b⟩
  obtain ⟨R, hR⟩ : ∃ R, RowTo7 w (freeL n L c) = R := ⟨_, rfl⟩
  rw [hR] at HRU ⊢
  obtain ⟨g, hg⟩ : ∃ g, w.heap.size = g := ⟨_, rfl⟩
  rw [hg] at HRU
  have HG := Lib.hid hg
  clear hR h hg
  go_enter Try.func31, Try.ntmps31
  go_wp2
  clear hsl
  go_loopg [5, 14] n (fun gk s5 s14 wx => ∃ (i : Nat) (V : Value), i + gk = n ∧ s14 = .int .i64 i ∧ V = s5 ∧ Hid (wx.ownsRow g 3 1 V (freeL i L c).length (encI (freeL i L c))) ∧ Hid (Below g w wx))
  case atStart => exact ⟨0, _, by omega, rfl, rfl, World.ownsRow_nil _ _ _ _, Below.refl _ _⟩
  case round =>
    obtain ⟨i, V, hin, rfl, rfl, HO, HW⟩ := hrel
    have HPr : Hid (PlP wr p q n L) := HP.out.below (HG.out ▸ HW.out)
    cases gk with
    | zero =>
      obtain rfl : i = n := by omega
      have hii : ¬ (i : Int) < (i : Int) := by omega
      go_wp2
      exact HRU.out _ _ HO.out HW.out
    | succ gk =>
      have hii : (i : Int) < (n : Int) := by omega
      have HFI := Lib.hid (freein_any HPr.out i (by omega) c)
      unfold RowTo7 at HFI
      have h1 := freeAt_le L i c
      have h2 := freeL_le i L c
      have HS := Lib.hid (freeL_succ i L c)
      generalize freeAt L i c = l at *
      generalize freeL i L c = fl at *
      go_wp2_with fail
      refine HFI.out.mono ?_
      rintro e w1 ⟨v, rfl, ho, hb⟩
      obtain ⟨A, cap, rfl, hrow, hA0, _⟩ := rowI_of_own ho (by omega)
      obtain ⟨V', w2, hrun, ho2, hb2⟩ := run_appI_row w1 g V fl l A cap (own_keep HO.out hb) hrow hA0 (by omega) (by have := HG.out; have := HW.out.size; have := hb.size; omega)
      have HRUN := Lib.hid hrun
      have HO2 := Lib.hid ho2
      have HB2 : Hid (Below g w w2) := (HW.out.trans (hb.mono (by have := HG.out; have := HW.out.size; omega))).trans hb2
      clear ho hb hrow hA0 hrun ho2 hb2
      go_wp2_with (at_builtin; refine wpList_app rfl (.tmp 17) (.tmp 21) 49 rfl rfl rfl HRUN.out ?_)
      go_roundg gk
      case measure => omega
      case rel => exact ⟨i + 1, V', by omega, by go_num, rfl, (by rw [HS.out]; exact HO2), HB2⟩
theorem slabsL_len (n : Nat) (L : List Tk) : (slabsL n L).length = n := by simp [slabsL]
theorem slabsL_at (n : Nat) (L : List Tk) (i : Nat) (hi : i < n) : (slabsL n L).getD i 0 = clsAt L i := by simp [slabsL, List.getD, List.getElem?_map, List.getElem?_range hi]
set_option maxHeartbeats 800000 in
theorem slabs_all {w : World} {p q n : Nat} {L : List Tk} (h : PlP w p q n L) : Calls Try.prog 26 #[.pointer (some ⟨p, 0, none⟩)] w (RowTo7 w (slabsL n L)) := by
  have hn := h.most
  have HP := Lib.hid h
  have hsl := h.slice
  obtain ⟨w1, hmk, hown, hb1⟩ := madeI w n (by omega)
  have HO := Lib.hid hown
  have HB1 := Lib.hid hb1
  have HRU : Hid (∀ v w', w'.ownsRow w.heap.size 3 1 v (slabsL n L).length (encI (slabsL n L)) → Below w.heap.size w w' → RowTo7 w (slabsL n L) (.returned v) w') := fun v w' a b => ⟨v, rfl, a, b⟩
  obtain ⟨R, hR⟩ : ∃ R, RowTo7 w (slabsL n L) = R := ⟨_, rfl⟩
  rw [hR] at HRU ⊢
  obtain ⟨g, hg⟩ : ∃ g, w.heap.size = g := ⟨_, rfl⟩
  rw [hg] at HRU hmk HO HB1
  have HG := Lib.hid hg
  have hsl1 : w1.cell? ⟨p, 0, none⟩ = some (.slice (some ⟨q, 0, none⟩) n n) := (HP.out.below (HG.out ▸ HB1.out)).slice
  clear hR h hg hown hb1
  go_enter Try.func26, Try.ntmps26
  go_wp2
  clear hsl hsl1 hmk
  go_loopg [19] n (fun gk s19 wx => ∃ (i : Nat) (r : List Int), i + gk = n ∧ s19 = .int .i64 i ∧ Hid (r.length = n) ∧ Hid (∀ j : Nat, j < i → r.getD j 0 = clsAt L j) ∧ Hid (wx.ownsRow g 3 1 (.slice (some ⟨g, 0, none⟩) n n) n (encI r)) ∧ Hid (Below g w wx))
  case atStart => exact ⟨0, _, by omega, rfl, List.length_replicate .., fun j hj => by omega, HO, HB1⟩
  case round =>
    obtain ⟨i, r, hin, rfl, HQ, HV, HO, HW⟩ := hrel
    cases gk with
    | zero =>
      obtain rfl : i = n := by omega
      have hii : ¬ (i : Int) < (i : Int) := by omega
      go_wp2
      refine HRU.out _ _ ?_ HW.out
      have hql : r = slabsL i L := ext_getD (by rw [HQ.out, slabsL_len]) fun j h1 => by rw [HV.out j (by have := HQ.out; omega), slabsL_at _ _ _ (by have := HQ.out; omega)]
      rw [← hql, HQ.out]
      exact HO.out
    | succ gk =>
      have hii : (i : Int) < (n : Int) := by omega
      have hi : i < n := by omega
      have hcell := HO.out.cellAt i (by omega)
      rw [encI_at _ _ (by have := HQ.out; omega)] at hcell
      have hfr := HO.out.frozenAt i
      have hst := (HO.out.stored i (.int .i64 (-1))).1
      rw [encI_set] at hst
      have HST := Lib.hid hst
      have HB2 : Hid (Below g w (wr.setCell ⟨g, i, none⟩ (.int .i64 (-1)))) := HW.out.setCell (Nat.le_refl _) _
      have HQ2 : Hid ((r.set i (-1)).length = n) := by show _ = _; rw [List.length_set]; exact HQ.out
      have HPr : Hid (PlP (wr.setCell ⟨g, i, none⟩ (.int .i64 (-1))) p q n L) := HP.out.below (HG.out ▸ HB2.out)
      obtain ⟨z, hz, hc⟩ := HPr.out.cls hi
      have hsl := HPr.out.slice
      have HEM := Lib.hid (isempty_any HPr.out hi)
      have HV2 : Hid (∀ (x : Int), x = clsAt L i → ∀ j : Nat, j < i + 1 → (r.set i x).getD j 0 = clsAt L j) := fun x hx j hj => by
        rw [getD_set _ _ _ _ (by have := HQ.out; omega)]
        split
        · rename_i e; rw [hx, e]
        · exact HV.out j (by omega)
      have HSS : Hid (∀ x y : Int, (r.set i x).set i y = r.set i y) := fun x y => List.set_set ..
      clear hst
      rcases Classical.em (clsAt L i = -1) with he | he
      · have hcl : (clsAt L i == -1) = true := by simpa using he
        rw [hcl] at HEM
        have HE : Hid (clsAt L i = -1) := he
        clear he hcl hz hc
        go_wp2_with fail
        refine HEM.out.mono ?_
        rintro e w' ⟨rfl, rfl⟩
        go_wp2
        go_roundg gk
        case measure => omega
        case rel => exact ⟨i + 1, _, by omega, by go_num, HQ2, HV2.out _ HE.out.symm, HST, HB2⟩
      · have hcl : (clsAt L i == -1) = false := by simpa using he
        rw [hcl] at HEM
        have HE := Lib.hid (hc he)
        have hcell2 := HST.out.cellAt i (by omega)
        rw [encI_at _ _ (by have := HQ2.out; omega)] at hcell2
        have hfr2 := HST.out.frozenAt i
        have hst2 := (HST.out.stored i (.int .i64 z)).1
        rw [encI_set, HSS.out] at hst2
        have HST2 := Lib.hid hst2
        have HB3 : Hid (Below g w ((wr.setCell ⟨g, i, none⟩ (.int .i64 (-1))).setCell ⟨g, i, none⟩ (.int .i64 z))) := HB2.out.setCell (Nat.le_refl _) _
        have HQ3 : Hid ((r.set i z).length = n) := by show _ = _; rw [List.length_set]; exact HQ.out
        clear he hcl hc hst2
        go_wp2_with fail
        refine HEM.out.mono ?_
        rintro e w' ⟨rfl, rfl⟩
        go_wp2
        go_roundg gk
        case measure => omega
        case rel => exact ⟨i + 1, _, by omega, by go_num, HQ3, HV2.out _ HE.out, HST2, HB3⟩

end Go.Proofs.Ytjebpggoajfjkaa
