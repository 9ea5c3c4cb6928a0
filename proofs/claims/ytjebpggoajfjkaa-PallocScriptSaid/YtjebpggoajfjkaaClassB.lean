/-
  Proved here: what Starts of package class, and chapter 5's own, answer and leave in memory.
  Conditions: none.
-/
import Derived.Test.YtjebpggoajfjkaaClassA
import Derived.Test.YtjebpggoajfjkaaInts
namespace Go.Proofs.Ytjebpggoajfjkaa
open Go Go.RowKit

theorem getD_in (l : List Int) (j : Nat) (h : j < l.length) : l.getD j 0 = l[j] := by simp [List.getD, List.getElem?_eq_getElem h]
theorem ext_getD {q l : List Int} (hl : q.length = l.length) (h : ∀ j, j < q.length → q.getD j 0 = l.getD j 0) : q = l := by
  refine List.ext_getElem hl fun j h1 h2 => ?_
  have := h j h1
  rw [getD_in _ _ h1, getD_in _ _ h2] at this
  exact this
theorem getD_set (q : List Int) (i j : Nat) (x : Int) (h : j < q.length) : (q.set i x).getD j 0 = if i = j then x else q.getD j 0 := by
  rw [getD_in _ _ (by rw [List.length_set]; exact h), List.getElem_set, getD_in _ _ h]
theorem getD_app_left (q r : List Int) (j : Nat) (h : j < q.length) : (q ++ r).getD j 0 = q.getD j 0 := by simp [List.getD, List.getElem?_append_left h]
theorem getD_app_one (q : List Int) (x : Int) : (q ++ [x]).getD q.length 0 = x := by simp [List.getD]
theorem madeI (w : World) (n : Nat) (hn : n ≤ 134217728) : ∃ w1, (Instr.makeSlice 49 (.int .i64 (n : Int)) (.int .i64 (n : Int))).run Try.prog w = .ok (.slice (some ⟨w.heap.size, 0, none⟩) n n) w1 ∧
    w1.ownsRow w.heap.size 3 1 (.slice (some ⟨w.heap.size, 0, none⟩) n n) n (encI (List.replicate n 0)) ∧ Below w.heap.size w w1 := by
  obtain ⟨i, hi, hz, hs, hy⟩ := int_info'
  have hmk := run_make (P := Try.prog) w 49 3 i _ Try.underlying49 hi hz .i64 .i64 (n : Int) (n : Int) (by omega) (by omega) (by rw [hy]; omega) (by omega)
  rw [Int.toNat_natCast, hs, Nat.mul_one] at hmk
  obtain ⟨cur, hcur⟩ : ∃ cur, madeCells (Value.cells (.int .i64 0)) n = cur := ⟨_, rfl⟩
  have hcl : cur.toList = List.replicate n (z64 0) := by
    rw [← hcur]
    exact toList_madeCells_one (.int .i64 0) n
  rw [hcur] at hmk
  have hb1 : Below w.heap.size w (w.alloc (.cells cur 3)) := (Below.refl _ _).alloc (Nat.le_refl _) _
  have hg : (w.alloc (.cells cur 3)).heap[w.heap.size]? = some (.cells cur 3 (0, 0)) := by
    show (w.heap.push _)[w.heap.size]? = _
    simp
  have hcs : cur.size = n := by rw [← Array.length_toList, hcl, List.length_replicate]
  refine ⟨_, hmk, ⟨by rw [encI_len]; simp, .inr ⟨w.heap.size, n, cur, rfl, Nat.le_refl _, hg, ?_⟩⟩, hb1⟩
  refine ⟨Nat.le_refl _, by unfold maxLen; omega, by omega, ?_⟩
  rw [hcl, List.take_of_length_le (by simp), encI, List.map_replicate]
  rfl
/-- A slice of startsN k c in memory of its own. -/
def StartsAt (w : World) (k c : Int) (e : Ending) (w' : World) : Prop := ∃ v, e = .returned v ∧ w'.ownsRow w.heap.size 3 1 v (startsN k c).length (encI (startsN k c)) ∧ Below w.heap.size w w'
set_option maxHeartbeats 800000 in
theorem starts_any (k c : Int) (w : World) : Calls Try.prog 55 #[.int .i64 k, .int .i64 c] w (StartsAt w k c) := by
  have H1 := Lib.hid (slab_any k w)
  have H2 := Lib.hid (span_any c w)
  rcases Classical.em (0 ≤ k ∧ k ≤ 31) with h | h
  · have hsl : slabN k = 2 + 8 * k := by unfold slabN; rw [if_pos h]
    rw [hsl] at H1
    have hsc := spanN_cases c
    rcases Classical.em (spanN c = 0) with h2 | h2
    · have HR : Hid (StartsAt w k c (.returned (.slice none 0 0)) w) := ⟨_, rfl, by rw [startsN_none h2]; exact World.ownsRow_nil _ _ _ _, Below.refl _ _⟩
      have h3 : ((spanN c : Int) == 0) = true := by simp; omega
      obtain ⟨R, hR⟩ : ∃ R, StartsAt w k c = R := ⟨_, rfl⟩
      rw [hR] at HR ⊢
      clear hR
      generalize spanN c = s at *
      clear h2 hsl hsc
      go_enter Try.func55, Try.ntmps55
      go_wp2_with fail
      refine H1.out.mono ?_
      rintro e w' ⟨rfl, rfl⟩
      go_wp2_with fail
      refine H2.out.mono ?_
      rintro e w' ⟨rfl, rfl⟩
      go_wp2
      exact HR.out
    · have HL := Lib.hid (startsN_len c h)
      have HA := Lib.hid (startsN_at c h)
      have h3 : ((spanN c : Int) == 0) = false := by simp; omega
      have HFIN : Hid (∀ g w', w'.ownsRow w.heap.size 3 1 (.slice (some ⟨g, 0, none⟩) (8 / spanN c) (8 / spanN c)) (startsN k c).length (encI (startsN k c)) → Below w.heap.size w w' → StartsAt w k c (.returned (.slice (some ⟨g, 0, none⟩) (8 / spanN c) (8 / spanN c))) w') := fun g w' a b => ⟨_, rfl, a, b⟩
      obtain ⟨R, hR⟩ : ∃ R, StartsAt w k c = R := ⟨_, rfl⟩
      rw [hR] at HFIN ⊢
      clear hR
      generalize startsN k c = l at *
      generalize spanN c = s at *
      obtain ⟨n, hn⟩ : ∃ n, 8 / s = n := ⟨_, rfl⟩
      have hdv : (8 : Int) / (s : Int) = (n : Int) := by rw [← hn]; simp
      rw [hn] at HL HA HFIN
      have hs1 : 1 ≤ s := by omega
      have hs2 : s ≤ 8 := by omega
      have hn8 : n ≤ 8 := by rw [← hn]; exact Nat.div_le_self _ _
      obtain ⟨w1, hmk, hown, hb1⟩ := madeI w n (by omega)
      have HO := Lib.hid hown
      have HB1 := Lib.hid hb1
      have HDV := Lib.hid hdv
      obtain ⟨g, hg⟩ : ∃ g, w.heap.size = g := ⟨_, rfl⟩
      rw [hg] at hmk HO HB1 HFIN
      clear h2 hsl hsc hn hown hb1 hg
      obtain ⟨hk0, hk1⟩ := h
      have hng : decide (2 + 8 * k < 0) = false := by simp; omega
      go_enter Try.func55, Try.ntmps55
      go_wp2_with fail
      refine H1.out.mono ?_
      rintro e w' ⟨rfl, rfl⟩
      go_wp2_with fail
      refine H2.out.mono ?_
      rintro e w' ⟨rfl, rfl⟩
      go_wp2
      clear hmk hdv hng
      go_loopg [24] n (fun gk s24 wx => ∃ (i : Nat) (q : List Int), i + gk = n ∧ s24 = .int .i64 i ∧ Hid (q.length = n) ∧ Hid (∀ j, j < i → q.getD j 0 = l.getD j 0) ∧ Hid (wx.ownsRow g 3 1 (.slice (some ⟨g, 0, none⟩) n n) n (encI q)) ∧ Hid (Below g w wx))
      case atStart => exact ⟨0, _, by omega, rfl, List.length_replicate .., fun j hj => by omega, HO, HB1⟩
      case round =>
        obtain ⟨i, q, hin, rfl, HQ, HV, HO, HW⟩ := hrel
        cases gk with
        | zero =>
          obtain rfl : i = n := by omega
          have hii : ¬ (i : Int) < (i : Int) := by omega
          go_wp2
          refine HFIN.out g _ ?_ HW.out
          have hql : q = l := ext_getD (by rw [HQ.out, HL.out]) fun j h1 => HV.out j (by have := HQ.out; omega)
          rw [← hql, HQ.out]
          exact HO.out
        | succ gk =>
          have hii : (i : Int) < (n : Int) := by omega
          have hcell := HO.out.cellAt i (by omega)
          rw [encI_at _ _ (by have := HQ.out; omega)] at hcell
          have hfr := HO.out.frozenAt i
          have hst := (HO.out.stored i (.int .i64 (2 + 8 * k + (i : Int) * (s : Int)))).1
          rw [encI_set] at hst
          have HST := Lib.hid hst
          have hm0 : 0 ≤ (i : Int) * (s : Int) := Int.mul_nonneg (by omega) (by omega)
          have hm1 : (i : Int) * (s : Int) ≤ 64 := by have := Nat.mul_le_mul (show i ≤ 8 by omega) hs2; have e : ((i * s : Nat) : Int) = (i : Int) * (s : Int) := Int.natCast_mul i s; omega
          clear hst
          go_wp2
          go_roundg gk
          case measure => omega
          case rel =>
            refine ⟨i + 1, _, by omega, by go_num, ?_, ?_, HST, HW.out.setCell (Nat.le_refl _) _⟩
            · show _ = _
              rw [List.length_set]; exact HQ.out
            · intro j hj
              have hql := HQ.out
              rw [getD_set _ _ _ _ (by omega)]
              split
              · rename_i e
                subst e
                rw [HA.out i (by omega), Int.natCast_mul]
              · exact HV.out j (by omega)
  · have HR : Hid (StartsAt w k c (.returned (.slice none 0 0)) w) := ⟨_, rfl, by rw [startsN_no h]; exact World.ownsRow_nil _ _ _ _, Below.refl _ _⟩
    have hsl : slabN k = -1 := by unfold slabN; rw [if_neg h]
    rw [hsl] at H1
    obtain ⟨R, hR⟩ : ∃ R, StartsAt w k c = R := ⟨_, rfl⟩
    rw [hR] at HR ⊢
    clear hR h hsl
    generalize spanN c = s at *
    go_enter Try.func55, Try.ntmps55
    go_wp2_with fail
    refine H1.out.mono ?_
    rintro e w' ⟨rfl, rfl⟩
    go_wp2_with fail
    refine H2.out.mono ?_
    rintro e w' ⟨rfl, rfl⟩
    go_wp2
    exact HR.out

set_option maxHeartbeats 800000 in
theorem rstarts_any (k c : Int) (w : World) : Calls Try.prog 54 #[.int .i64 k, .int .i64 c] w (StartsAt w k c) := by
  have H1 := Lib.hid (fun w => rslab_any k w)
  have H2 := Lib.hid (fun w => rspan_any c w)
  rcases Classical.em (0 ≤ k ∧ k ≤ 31) with h | h
  · have hsl : slabN k = 2 + 8 * k := by unfold slabN; rw [if_pos h]
    rw [hsl] at H1
    have hsc := spanN_cases c
    rcases Classical.em (spanN c = 0) with h2 | h2
    · have HR : Hid (StartsAt w k c (.returned (.slice none 0 0)) w) := ⟨_, rfl, by rw [startsN_none h2]; exact World.ownsRow_nil _ _ _ _, Below.refl _ _⟩
      have h3 : ((spanN c : Int) == 0) = true := by simp; omega
      obtain ⟨R, hR⟩ : ∃ R, StartsAt w k c = R := ⟨_, rfl⟩
      rw [hR] at HR ⊢
      clear hR
      generalize spanN c = s at *
      clear h2 hsl hsc
      go_enter Try.func54, Try.ntmps54
      go_wp2_with fail
      refine (H1.out _).mono ?_
      rintro e w' ⟨rfl, rfl⟩
      go_wp2_with fail
      refine (H2.out _).mono ?_
      rintro e w' ⟨rfl, rfl⟩
      go_wp2
      exact HR.out
    · have HL := Lib.hid (startsN_len c h)
      have HA := Lib.hid (startsN_at c h)
      have h3 : ((spanN c : Int) == 0) = false := by simp; omega
      have HFIN : Hid (∀ v w', w'.ownsRow w.heap.size 3 1 v (startsN k c).length (encI (startsN k c)) → Below w.heap.size w w' → StartsAt w k c (.returned v) w') := fun v w' a b => ⟨_, rfl, a, b⟩
      obtain ⟨R, hR⟩ : ∃ R, StartsAt w k c = R := ⟨_, rfl⟩
      rw [hR] at HFIN ⊢
      clear hR
      generalize startsN k c = l at *
      generalize spanN c = s at *
      obtain ⟨n, hn⟩ : ∃ n, 8 / s = n := ⟨_, rfl⟩
      rw [hn] at HL HA
      have hs1 : 1 ≤ s := by omega
      have hs2 : s ≤ 8 := by omega
      have hn8 : n ≤ 8 := by rw [← hn]; exact Nat.div_le_self _ _
      have HNS : Hid (n * s = 8) := by show _ = _; rw [← hn]; rcases hsc with rfl | rfl | rfl | rfl | rfl <;> first | omega | decide
      have HLT : Hid (∀ i : Nat, i < n → (i : Int) * (s : Int) < 8) := by
        intro i hi
        have h1 := Nat.mul_lt_mul_of_pos_right hi (show 0 < s by omega)
        have e : ((i * s : Nat) : Int) = (i : Int) * (s : Int) := Int.natCast_mul i s
        have := HNS.out
        omega
      obtain ⟨g, hg⟩ : ∃ g, w.heap.size = g := ⟨_, rfl⟩
      rw [hg] at HFIN
      have HG := Lib.hid hg
      clear h2 hsl hsc hn hg
      obtain ⟨hk0, hk1⟩ := h
      have hng : decide (2 + 8 * k < 0) = false := by simp; omega
      go_enter Try.func54, Try.ntmps54
      go_wp2_with fail
      refine (H1.out _).mono ?_
      rintro e w' ⟨rfl, rfl⟩
      go_wp2_with fail
      refine (H2.out _).mono ?_
      rintro e w' ⟨rfl, rfl⟩
      go_wp2
      clear hng
      go_loopg [5, 6] n (fun gk s5 s6 wx => ∃ (i : Nat) (q : List Int) (V : Value), i + gk = n ∧ s6 = .int .i64 ((i : Int) * (s : Int)) ∧ V = s5 ∧ Hid (q.length = i) ∧ Hid (∀ j, j < i → q.getD j 0 = l.getD j 0) ∧ Hid (wx.ownsRow g 3 1 V q.length (encI q)) ∧ Hid (Below g w wx))
      case atStart => exact ⟨0, [], _, by omega, by simp, rfl, rfl, fun j hj => by omega, World.ownsRow_nil _ _ _ _, Below.refl _ _⟩
      case round =>
        obtain ⟨i, q, V, hin, rfl, rfl, HQ, HV, HO, HW⟩ := hrel
        cases gk with
        | zero =>
          obtain rfl : i = n := by omega
          have hii : ¬ (i : Int) * (s : Int) < 8 := by have e : ((i * s : Nat) : Int) = (i : Int) * (s : Int) := Int.natCast_mul i s; have := HNS.out; omega
          go_wp2
          refine HFIN.out _ _ ?_ HW.out
          have hql : q = l := ext_getD (by rw [HQ.out, HL.out]) fun j h1 => HV.out j (by have := HQ.out; omega)
          rw [← hql]
          exact HO.out
        | succ gk =>
          have hii := HLT.out i (by omega)
          have hm0 : 0 ≤ (i : Int) * (s : Int) := Int.mul_nonneg (by omega) (by omega)
          obtain ⟨V', w', hrun, ho', hb'⟩ := run_appI_one wr g V q (2 + 8 * k + (i : Int) * (s : Int)) HO.out (by have := HQ.out; omega) (by have := HW.out.size; have := HG.out; omega)
          have HRUN : Hid (Sem.run Try.prog (Builtin.append_ #[49, 49] 49 #[V, .slice (some ⟨wr.heap.size, 0, none⟩) 1 1]) (wr.alloc (.cells #[.int .i64 (2 + 8 * k + (i : Int) * (s : Int))] 3)) = .ok V' w') := hrun
          have HO' := Lib.hid ho'
          have HB' := Lib.hid hb'
          clear hrun ho' hb'
          go_wp2_with fail
          refine (H1.out _).mono ?_
          rintro e w'' ⟨rfl, rfl⟩
          go_wp2_with (at_builtin; refine wpList_app rfl (.tmp 22) (.tmp 27) 49 rfl rfl rfl HRUN.out ?_)
          refine (H2.out _).mono ?_
          rintro e w'' ⟨rfl, rfl⟩
          go_wp2
          go_roundg gk
          case measure => omega
          case rel =>
            refine ⟨i + 1, q ++ [2 + 8 * k + (i : Int) * (s : Int)], V', by omega, ?_, rfl, ?_, ?_, ?_, HW.out.trans HB'.out⟩
            · congr 1; rw [Int.natCast_add, Int.add_mul]; simp
            · show _ = _
              rw [List.length_append, HQ.out]; rfl
            · intro j hj
              have hql := HQ.out
              rcases Nat.lt_or_ge j i with h5 | h5
              · have := HV.out j h5
                rw [getD_app_left _ _ _ (by omega)]
                exact this
              · obtain rfl : j = i := by omega
                rw [HA.out j (by omega), Int.natCast_mul]
                subst hql
                exact getD_app_one _ _
            · show _
              rw [List.length_append]
              exact HO'.out
  · have HR : Hid (StartsAt w k c (.returned (.slice none 0 0)) w) := ⟨_, rfl, by rw [startsN_no h]; exact World.ownsRow_nil _ _ _ _, Below.refl _ _⟩
    have hsl : slabN k = -1 := by unfold slabN; rw [if_neg h]
    rw [hsl] at H1
    obtain ⟨R, hR⟩ : ∃ R, StartsAt w k c = R := ⟨_, rfl⟩
    rw [hR] at HR ⊢
    clear hR h hsl
    generalize spanN c = s at *
    go_enter Try.func54, Try.ntmps54
    go_wp2_with fail
    refine (H1.out _).mono ?_
    rintro e w' ⟨rfl, rfl⟩
    go_wp2
    exact HR.out

end Go.Proofs.Ytjebpggoajfjkaa
