/-
  Proved here: what chapter 7's own Give and Free answer and leave.
  Conditions: none.
-/
import Derived.Test.YtjebpggoajfjkaaRef7B
namespace Go.Proofs.Ytjebpggoajfjkaa
open Go Go.RowKit

theorem filterT_step (f : Tk → Bool) (l : List Tk) (i : Nat) (hi : i < l.length) : (l.take (i + 1)).filter f = if f l[i] then (l.take i).filter f ++ [(l[i].1, l[i].2)] else (l.take i).filter f := by
  rw [List.take_succ_eq_append_getElem hi, List.filter_append]
  by_cases h : f l[i] = true
  · rw [if_pos h]; simp [h]
  · rw [if_neg h]; simp [h]
set_option maxHeartbeats 1600000 in
theorem rgive_any {w : World} {r lo n : Nat} {L : List Tk} (h : Rf w r lo n L) (x : Int) : Calls Try.prog 18 #[.pointer (some ⟨r, 0, none⟩), .int .i64 x] w fun e w' => e = .returned (.int .i64 (giveE L x)) ∧ Rf w' r lo n (giveL L x) ∧ Turns r r w w' := by
  have hlen : L.length ≤ 256 := by have := pool_len h.pool; have := h.most; omega
  have HOF := Lib.hid (rof_any h x)
  have HRF := Lib.hid h
  unfold giveE
  cases e : ofL L x with
  | none =>
    rw [give_none e]
    rw [e] at HOF
    show Calls _ _ _ _ fun e w' => e = .returned (.int .i64 1) ∧ Rf w' r lo n L ∧ Turns r r w w'
    clear h e
    go_enter Try.func18, Try.ntmps18
    go_wp2_with fail
    refine HOF.out.mono ?_
    rintro e w' ⟨rfl, rfl⟩
    go_wp2
    go_ret
    exact ⟨rfl, HRF.out, Turns.refl _ _ _⟩
  | some d =>
    rw [e] at HOF
    show Calls _ _ _ _ fun e w' => e = .returned (.int .i64 0) ∧ Rf w' r lo n (giveL L x) ∧ Turns r r w w'
    obtain ⟨A, cap, hrd⟩ := h.reads
    have HFIN : Hid (∀ wk v, Below w.heap.size w wk → wk.ownsRow w.heap.size 52 2 v (giveL L x).length (encT (giveL L x)) → Rf (wk.setCell ⟨r, 1, none⟩ v) r lo n (giveL L x) ∧ Turns r r w (wk.setCell ⟨r, 1, none⟩ v)) := fun wk v hb ho => h.put hb ho (pool_give h.pool x)
    obtain ⟨m, hm⟩ : ∃ m, L.length = m := ⟨_, rfl⟩
    have HM := Lib.hid hm
    obtain ⟨g, hg⟩ : ∃ g, w.heap.size = g := ⟨_, rfl⟩
    rw [hg] at HFIN hrd
    have HRD := Lib.hid hrd
    have HG := Lib.hid hg
    have hc1 := (HRD.out w (Below.refl _ _)).2.1
    rw [hm] at hlen hc1
    clear h hm hg hrd e
    go_enter Try.func18, Try.ntmps18
    go_wp2_with fail
    refine HOF.out.mono ?_
    rintro e w' ⟨rfl, rfl⟩
    go_wp2
    clear hc1
    go_loopg [7, 8] m (fun gk s7 s8 wx => ∃ (i : Nat) (V : Value), i + gk = m ∧ s8 = .int .i64 i ∧ V = s7 ∧ Hid (wx.ownsRow g 52 2 V ((L.take i).filter fun t => t.1 != x).length (encT ((L.take i).filter fun t => t.1 != x))) ∧ Hid (Below g w wx))
    case atStart => exact ⟨0, _, by omega, rfl, rfl, World.ownsRow_nil _ _ _ _, Below.refl _ _⟩
    case round =>
      obtain ⟨i, V, hin, rfl, rfl, HO, HW⟩ := hrel
      obtain ⟨_, hc1, hfr, hce⟩ := HRD.out wr HW.out
      rw [HM.out] at hc1
      have HCE := Lib.hid hce
      have HGL : Hid (g ≤ wr.heap.size) := by have := HG.out; have := HW.out.size; show g ≤ wr.heap.size; omega
      have hql : ((L.take i).filter fun t => t.1 != x).length ≤ 256 := Nat.le_trans (List.length_filter_le _ _) (by rw [List.length_take]; have := HM.out; omega)
      clear hce
      cases gk with
      | zero =>
        obtain rfl : i = m := by omega
        have hii : ¬ (i : Int) < (i : Int) := by omega
        have ho := HO.out
        rw [List.take_of_length_le (by have := HM.out; omega)] at ho hql
        have HO2 : Hid (wr.ownsRow g 52 2 V (giveL L x).length (encT (giveL L x))) := ho
        obtain ⟨_, A2, cap2, rfl, _, _, _⟩ := rowT_of_own HO2.out (Nat.le_trans hql (by omega))
        clear ho HO hql
        go_wp2
        go_ret
        exact ⟨rfl, HFIN.out _ _ HW.out HO2.out⟩
      | succ gk =>
        have hii : (i : Int) < (m : Int) := by omega
        have hil : i < L.length := by have := HM.out; omega
        obtain ⟨bk, off, rfl, c1, c2⟩ := HCE.out i hil
        have HFS := Lib.hid (filterT_step (fun t => t.1 != x) L i hil)
        generalize L[i].1 = y at *
        generalize L[i].2 = z at *
        generalize (L.take i).filter (fun t => t.1 != x) = Q at *
        cases e : (y != x) with
        | false =>
          rw [e, if_neg (by simp)] at HFS
          go_wp2
          go_roundg gk
          case measure => omega
          case rel => exact ⟨i + 1, V, by omega, by go_num, rfl, (by rw [HFS.out]; exact HO), HW⟩
        | true =>
          rw [e, if_pos rfl] at HFS
          obtain ⟨V', w', hrun, ho', hb', _⟩ := run_appT_one wr g V Q y z HO.out (by omega) HGL.out
          have HRUN := Lib.hid hrun
          have HO' := Lib.hid ho'
          have HB' : Hid (Below g w w') := HW.out.trans hb'
          clear hrun ho' hb'
          go_wp2_with (at_builtin; refine wpList_app rfl (.tmp 36) (.tmp 44) 47 rfl rfl rfl HRUN.out ?_)
          go_roundg gk
          case measure => omega
          case rel => exact ⟨i + 1, V', by omega, by go_num, rfl, (by rw [HFS.out]; exact HO'), HB'⟩
theorem run_appI_one2 (w : World) (base : Nat) (v : Value) (l : List Int) (x : Int) (hown : w.ownsRow base 3 1 v l.length (encI l)) (hl : l.length < 134217728) (hbase : base ≤ w.heap.size) :
    ∃ v' w', (Builtin.append_ #[49, 49] 49 #[v, .slice (some ⟨w.heap.size, 0, none⟩) 1 1]).run Try.prog (w.alloc (.cells #[.int .i64 x] 3)) = .ok v' w' ∧ w'.ownsRow base 3 1 v' (l ++ [x]).length (encI (l ++ [x])) ∧ Below base w w' ∧ (v'.ownBlock = v.ownBlock ∨ v'.ownBlock = some (w.heap.size + 1)) ∧ ∀ k, k < w.heap.size → v.ownBlock ≠ some k → w'.heap[k]? = w.heap[k]? := by
  obtain ⟨v', w', h1, h2, h3, h4⟩ := run_appI (w.alloc (.cells #[.int .i64 x] 3)) base l.length v (encI l) (own_alloc hown _) (some ⟨w.heap.size, 0, none⟩) 1 1 [x] rfl (rowI_one w x) (by intro h; cases h) (by omega) (by simp; omega)
  refine ⟨v', w', h1, by rw [← encI_append, List.length_append]; exact h2, ((Below.refl _ _).alloc hbase _).grown h3 (by simp; omega) (own_ge hown), by simpa using h4, fun k hk hne => (h3.block k (by simp; omega) (fun e => hne e.symm)).trans (Below.heap_alloc _ _ _ hk)⟩
theorem own_lt {w : World} {base size n k : Nat} {e : TypeId} {v : Value} {xs : List Value} (h : w.ownsRow base e size v n xs) (hk : v.ownBlock = some k) : k < w.heap.size := by
  rcases h.2 with ⟨rfl, _⟩ | ⟨g, cap, cur, rfl, _, hh, _⟩
  · cases hk
  · simp only [Value.ownBlock, Option.some.injEq] at hk
    subst hk
    exact lt_of_heap hh
/-- A row of numbers that is not the row V. -/
def Beside (w : World) (V : Value) (A : Option Addr) (l : List Int) : Prop := RowI w A l ∧ (0 < l.length → ∀ x, A = some x → V.ownBlock ≠ some x.block)
theorem beside_new {w w1 : World} {base n : Nat} {V : Value} {xs : List Value} {A : Option Addr} {l : List Int} (h : w.ownsRow base 3 1 V n xs) (hr : RowI w1 A l) (ho : ∀ x, A = some x → w.heap.size ≤ x.block) : Beside w1 V A l :=
  ⟨hr, fun _ x hx e => by have h1 := own_lt h e; have h2 := ho x hx; omega⟩
theorem beside_app {w w' : World} {V V' : Value} {A : Option Addr} {l : List Int} (h : Beside w V A l) (hs : w.heap.size ≤ w'.heap.size) (hv : V'.ownBlock = V.ownBlock ∨ V'.ownBlock = some (w.heap.size + 1)) (hk : ∀ k, k < w.heap.size → V.ownBlock ≠ some k → w'.heap[k]? = w.heap[k]?) : Beside w' V' A l := by
  refine ⟨⟨h.1.1, fun hl => ?_⟩, fun hl x hx e => ?_⟩
  · obtain ⟨b, off, e, hlt, hc⟩ := h.1.2 hl
    have hbl := hk b hlt (h.2 hl _ e)
    exact ⟨b, off, e, Nat.lt_of_lt_of_le hlt hs, fun k hk => (World.cell?_of_block (w := w) (a := ⟨b, off + k, none⟩) hbl).trans (hc k hk)⟩
  · obtain ⟨b, off, e2, hlt, _⟩ := h.1.2 hl
    rw [e2] at hx
    injection hx with hx
    rcases hv with hv | hv
    · exact h.2 hl x (by rw [e2, hx]) (by rw [← hv]; exact e)
    · rw [hv] at e
      injection e with e
      rw [← hx] at e
      simp only at e
      omega
set_option maxHeartbeats 1600000 in
theorem rfree_any {w : World} {r lo n : Nat} {L : List Tk} (h : Rf w r lo n L) (c : Int) : Calls Try.prog 49 #[.pointer (some ⟨r, 0, none⟩), .int .i64 c] w (RowTo7 w (freeL n L c)) := by
  have hn := h.most
  have HRF := Lib.hid h
  have HRU : Hid (∀ v w', w'.ownsRow w.heap.size 3 1 v (freeL n L c).length (encI (freeL n L c)) → Below w.heap.size w w' → RowTo7 w (freeL n L c) (.returned v) w') := fun v w' a b => ⟨v, rfl, a, b⟩
  obtain ⟨R, hR⟩ : ∃ R, RowTo7 w (freeL n L c) = R := ⟨_, rfl⟩
  rw [hR] at HRU ⊢
  obtain ⟨g, hg⟩ : ∃ g, w.heap.size = g := ⟨_, rfl⟩
  rw [hg] at HRU
  have HG := Lib.hid hg
  have h0 := h.cells.1
  clear hR h hg
  go_enter Try.func49, Try.ntmps49
  go_wp2
  clear h0
  go_loopg [5, 6] n (fun gk s5 s6 wx => ∃ (i : Nat) (V : Value), i + gk = n ∧ s6 = .int .i64 i ∧ V = s5 ∧ Hid (wx.ownsRow g 3 1 V (freeL i L c).length (encI (freeL i L c))) ∧ Hid (Below g w wx))
  case atStart => exact ⟨0, _, by omega, rfl, rfl, World.ownsRow_nil _ _ _ _, Below.refl _ _⟩
  case round =>
    obtain ⟨i, V, hin, rfl, rfl, HO, HW⟩ := hrel
    have HRr : Hid (Rf wr r lo n L) := HRF.out.below (HG.out ▸ HW.out)
    have h0 := HRr.out.cells.1
    cases gk with
    | zero =>
      obtain rfl : i = n := by omega
      have hii : ¬ (i : Int) < (i : Int) := by omega
      go_wp2
      exact HRU.out _ _ HO.out HW.out
    | succ go =>
      have hii : (i : Int) < (n : Int) := by omega
      have HCL := Lib.hid (rclass_any HRr.out i)
      have HFS := Lib.hid (freeL_succ i L c)
      have hfl := freeL_le i L c
      unfold freeAt at HFS
      rcases Classical.em (clsAt L i = c) with hc | hc
      · have hne : (clsAt L i != c) = false := by simpa using hc
        rw [if_pos hc] at HFS
        have HST := Lib.hid (rstarts_any i c wr)
        unfold StartsAt at HST
        have hlen := startsN_le i c
        generalize startsN i c = l at *
        generalize clsAt L i = cl at *
        clear hc
        go_wp2_with fail
        refine HCL.out.mono ?_
        rintro e w' ⟨rfl, rfl⟩
        go_wp2_with fail
        refine HST.out.mono ?_
        rintro e w1 ⟨v, rfl, hown, hb⟩
        obtain ⟨A, cap, rfl, hrow, _, hge⟩ := rowI_of_own hown (by omega)
        have HBS : Hid (Beside w1 V A l) := beside_new HO.out hrow hge
        have HB1 : Hid (Below wr.heap.size wr w1) := hb
        have HO1 := Lib.hid (own_keep HO.out hb)
        obtain ⟨ln, hln⟩ : ∃ ln, l.length = ln := ⟨_, rfl⟩
        rw [hln] at hlen ⊢
        have HLN := Lib.hid hln
        have HSZ : Hid (g ≤ w1.heap.size ∧ g ≤ wr.heap.size) := by have h1 := HG.out; have h2 := HW.out.size; have h3 := hb.size; exact ⟨by omega, by omega⟩
        have HW1 : Hid (Below g w w1) := HW.out.trans (hb.mono HSZ.out.2)
        clear hown hrow hb hln h0 hge HB1
        go_wp2
        go_loopg [5, 8] ln (fun gk s5 s8 wx => ∃ (j : Nat) (V : Value), j + gk = ln ∧ s8 = .int .i64 j ∧ V = s5 ∧ Hid (wx.ownsRow g 3 1 V (freeL i L c ++ (l.take j).filter fun s => (ofL L s).isNone).length (encI (freeL i L c ++ (l.take j).filter fun s => (ofL L s).isNone))) ∧ Hid (Beside wx V A l) ∧ Hid (Below g w wx))
        case atStart => exact ⟨0, V, by omega, rfl, rfl, (by rw [List.take_zero, List.filter_nil, List.append_nil]; exact HO1), HBS, HW1⟩
        case round =>
          obtain ⟨j, V2, hjn, rfl, rfl, HO2, HBS2, HW2⟩ := hrel
          cases gk with
          | zero =>
            obtain rfl : j = ln := by omega
            have hjj : ¬ (j : Int) < (j : Int) := by omega
            go_wp2
            go_roundg go
            case measure => omega
            case rel =>
              refine ⟨i + 1, V2, by omega, by go_num, rfl, ?_, HW2⟩
              rw [HFS.out]
              have := HO2.out
              rw [List.take_of_length_le (by have := HLN.out; omega)] at this
              exact this
          | succ gk =>
            have hjj : (j : Int) < (ln : Int) := by omega
            have hjl : j < l.length := by have := HLN.out; omega
            obtain ⟨b, off, rfl, hbs, hcl⟩ := HBS2.out.1.2 (by omega)
            have hcell := hcl j hjl
            have HRj : Hid (Rf wr r lo n L) := HRF.out.below (HG.out ▸ HW2.out)
            have HOF := Lib.hid (rof_any HRj.out (l.getD j 0))
            have HF := Lib.hid (filter_step (fun s => (ofL L s).isNone) l j hjl)
            have hle : (freeL i L c ++ (l.take j).filter fun s => (ofL L s).isNone).length ≤ 300 := by
              have h1 : ((l.take j).filter fun s => (ofL L s).isNone).length ≤ 8 := Nat.le_trans (List.length_filter_le _ _) (by rw [List.length_take]; omega)
              rw [List.length_append]
              omega
            obtain ⟨V3, w3, hrun, ho3, hb3, hv3, hk3⟩ := run_appI_one2 wr g V2 _ (l.getD j 0) HO2.out (by omega) (by have := HW2.out.size; have := HG.out; omega)
            have HRUN := Lib.hid hrun
            have HO3 := Lib.hid ho3
            have HB3 : Hid (Below g w w3) := HW2.out.trans hb3
            have HBS3 : Hid (Beside w3 V3 (some ⟨b, off, none⟩) l) := beside_app HBS2.out hb3.size hv3 hk3
            clear hcl hrun ho3 hb3 hv3 hk3 hle hbs
            generalize l.getD j 0 = x at *
            cases e : ofL L x with
            | none =>
              rw [e] at HOF HF
              rw [if_pos (show (none : Option Int).isNone = true from rfl)] at HF
              clear e
              go_wp2_with fail
              refine HOF.out.mono ?_
              rintro e w' ⟨rfl, rfl⟩
              go_wp2_with (at_builtin; refine wpList_app rfl (.tmp 44) (.tmp 49) 49 rfl rfl rfl HRUN.out ?_)
              go_roundg gk
              case measure => omega
              case rel => exact ⟨j + 1, V3, by omega, by go_num, rfl, (by rw [HF.out, ← List.append_assoc]; exact HO3), HBS3, HB3⟩
            | some d =>
              rw [e] at HOF HF
              rw [if_neg (show ¬ (some d).isNone = true by simp)] at HF
              clear e
              go_wp2_with fail
              refine HOF.out.mono ?_
              rintro e w' ⟨rfl, rfl⟩
              go_wp2
              go_roundg gk
              case measure => omega
              case rel => exact ⟨j + 1, V2, by omega, by go_num, rfl, (by rw [HF.out]; exact HO2), HBS2, HW2⟩
      · have hne : (clsAt L i != c) = true := by simpa using hc
        rw [if_neg hc, List.append_nil] at HFS
        generalize clsAt L i = cl at *
        clear hc
        go_wp2_with fail
        refine HCL.out.mono ?_
        rintro e w' ⟨rfl, rfl⟩
        go_wp2
        go_roundg go
        case measure => omega
        case rel => exact ⟨i + 1, V, by omega, by go_num, rfl, (by rw [HFS.out]; exact HO), HW⟩

end Go.Proofs.Ytjebpggoajfjkaa
