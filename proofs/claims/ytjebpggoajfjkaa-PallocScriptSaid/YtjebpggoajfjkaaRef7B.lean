/-
  Proved here: what chapter 7's own put leaves.
  Conditions: none.
-/
import Derived.Test.YtjebpggoajfjkaaRef7A
namespace Go.Proofs.Ytjebpggoajfjkaa
open Go Go.RowKit

theorem put_in {A : List Tk} {x c : Int} (h : ∃ u ∈ A, x < u.1) (B : List Tk) : putL (A ++ B) x c = putL A x c ++ B := by
  induction A with
  | nil => obtain ⟨u, hu, _⟩ := h; cases hu
  | cons t r ih =>
    simp only [List.cons_append, putL]
    split
    · rfl
    · rename_i hlt
      rw [ih]
      · rfl
      · obtain ⟨u, hu, hx⟩ := h
        rcases List.mem_cons.1 hu with rfl | hu
        · exact absurd hx hlt
        · exact ⟨u, hu, hx⟩
theorem put_at {A : List Tk} {x c : Int} (h : ∀ u ∈ A, ¬ x < u.1) (B : List Tk) : putL (A ++ B) x c = A ++ putL B x c := by
  induction A with
  | nil => rfl
  | cons t r ih =>
    simp only [List.cons_append, putL]
    rw [if_neg (h t (by simp)), ih (fun u hu => h u (by simp [hu]))]
theorem take_next (L : List Tk) (i : Nat) (hi : i < L.length) : L.take (i + 1) = L.take i ++ [L[i]] := List.take_succ_eq_append_getElem hi
/-- How far put has come. -/
def PutTo (L : List Tk) (x c : Int) (i : Nat) (b : Bool) (Q : List Tk) : Prop := (b = false ∧ Q = L.take i ∧ ∀ u ∈ L.take i, ¬ x < u.1) ∨ (b = true ∧ Q = putL (L.take i) x c ∧ ∃ u ∈ L.take i, x < u.1)
theorem putTo_zero (L : List Tk) (x c : Int) : PutTo L x c 0 false [] := .inl ⟨rfl, by simp, fun u hu => by simp at hu⟩
theorem putTo_in {L : List Tk} {x c : Int} {i : Nat} {Q : List Tk} (h : PutTo L x c i true Q) (hi : i < L.length) : PutTo L x c (i + 1) true (Q ++ [(L[i].1, L[i].2)]) := by
  rcases h with ⟨h, _⟩ | ⟨_, rfl, h⟩
  · cases h
  · refine .inr ⟨rfl, ?_, ?_⟩
    · rw [take_next L i hi, put_in h]
    · obtain ⟨u, hu, hx⟩ := h
      exact ⟨u, by rw [take_next L i hi]; exact List.mem_append_left _ hu, hx⟩
theorem putTo_now {L : List Tk} {x c : Int} {i : Nat} {Q : List Tk} (h : PutTo L x c i false Q) (hi : i < L.length) (hx : x < L[i].1) : PutTo L x c (i + 1) true ((Q ++ [(x, c)]) ++ [(L[i].1, L[i].2)]) := by
  rcases h with ⟨_, rfl, h⟩ | ⟨h, _⟩
  · refine .inr ⟨rfl, ?_, L[i], ?_, hx⟩
    · rw [take_next L i hi, put_at h]
      simp [putL, hx]
    · rw [take_next L i hi]
      exact List.mem_append_right _ (by simp)
  · cases h
theorem putTo_not {L : List Tk} {x c : Int} {i : Nat} {Q : List Tk} (h : PutTo L x c i false Q) (hi : i < L.length) (hx : ¬ x < L[i].1) : PutTo L x c (i + 1) false (Q ++ [(L[i].1, L[i].2)]) := by
  rcases h with ⟨_, rfl, h⟩ | ⟨h, _⟩
  · refine .inl ⟨rfl, by rw [take_next L i hi], fun u hu => ?_⟩
    rw [take_next L i hi] at hu
    rcases List.mem_append.1 hu with hu | hu
    · exact h u hu
    · obtain rfl : u = L[i] := by simpa using hu
      exact hx
  · cases h
theorem putTo_end {L : List Tk} {x c : Int} {i : Nat} {b : Bool} {Q : List Tk} (h : PutTo L x c i b Q) (hi : L.length ≤ i) : (if b then Q else Q ++ [(x, c)]) = putL L x c := by
  rcases h with ⟨rfl, rfl, h⟩ | ⟨rfl, rfl, h⟩
  · rw [List.take_of_length_le hi] at h ⊢
    have := put_at (c := c) h []
    rw [List.append_nil] at this
    rw [this]
    rfl
  · rw [List.take_of_length_le hi]
    rfl
theorem putTo_len {L : List Tk} {x c : Int} {i : Nat} {b : Bool} {Q : List Tk} (h : PutTo L x c i b Q) : Q.length ≤ L.length + 1 := by
  have hp : ∀ A : List Tk, (putL A x c).length = A.length + 1 := fun A => by
    induction A with
    | nil => rfl
    | cons t r ih =>
      unfold putL
      split
      · rfl
      · rw [List.length_cons, List.length_cons, ih]
  rcases h with ⟨_, rfl, _⟩ | ⟨_, rfl, _⟩
  · rw [List.length_take]; omega
  · rw [hp, List.length_take]; omega
/-- What the call can read of the pool while nothing of old is changed. -/
theorem Rf.reads {w : World} {r lo n : Nat} {L : List Tk} (h : Rf w r lo n L) : ∃ A cap, ∀ wx, Below w.heap.size w wx → wx.cell? ⟨r, 0, none⟩ = some (.int .i64 n) ∧ wx.cell? ⟨r, 1, none⟩ = some (.slice A L.length cap) ∧ wx.frozen? ⟨r, 1, none⟩ = false ∧
    ∀ i (hi : i < L.length), ∃ b off, A = some ⟨b, off, none⟩ ∧ wx.cell? ⟨b, off + i * 2, none⟩ = some (.int .i64 L[i].1) ∧ wx.cell? ⟨b, off + i * 2 + 1, none⟩ = some (.int .i64 L[i].2) := by
  obtain ⟨h0, A, cap, hc1, hr⟩ := h.cells
  have hlt : r < w.heap.size := by have := h.lt; have := h.le; omega
  refine ⟨A, cap, fun wx hb => ⟨(hb.cell (p := ⟨r, 0, none⟩) hlt).trans h0, (hb.cell (p := ⟨r, 1, none⟩) hlt).trans hc1, (h.below hb).frozen 1, fun i hi => ?_⟩⟩
  obtain ⟨b, off, e, _, c1, c2⟩ := (hr.below hb).gt hi
  exact ⟨b, off, e, c1, c2⟩
set_option maxHeartbeats 1600000 in
theorem rput_any {w : World} {r lo n : Nat} {L : List Tk} (h : Rf w r lo n L) (x c : Int) (hp : Pool7 n (putL L x c)) : Calls Try.prog 40 #[.pointer (some ⟨r, 0, none⟩), .int .i64 x, .int .i64 c] w fun e w' => e = .returned (.tuple #[]) ∧ Rf w' r lo n (putL L x c) ∧ Turns r r w w' := by
  have hlen : L.length ≤ 256 := by have := pool_len h.pool; have := h.most; omega
  obtain ⟨A, cap, hrd⟩ := h.reads
  have HFIN : Hid (∀ wk v M, M = putL L x c → Below w.heap.size w wk → wk.ownsRow w.heap.size 52 2 v M.length (encT M) → Rf (wk.setCell ⟨r, 1, none⟩ v) r lo n (putL L x c) ∧ Turns r r w (wk.setCell ⟨r, 1, none⟩ v)) := fun wk v M e hb ho => by
    subst e
    exact h.put hb ho hp
  obtain ⟨m, hm⟩ : ∃ m, L.length = m := ⟨_, rfl⟩
  have HM := Lib.hid hm
  obtain ⟨g, hg⟩ : ∃ g, w.heap.size = g := ⟨_, rfl⟩
  rw [hg] at HFIN hrd
  have HRD := Lib.hid hrd
  have HG := Lib.hid hg
  have hc1 := (HRD.out w (Below.refl _ _)).2.1
  rw [hm] at hlen hc1
  clear h hm hg hp hrd
  go_enter Try.func40, Try.ntmps40
  go_wp2
  clear hc1
  go_loopg [6, 7, 8] m (fun gk s6 s7 s8 wx => ∃ (i : Nat) (b : Bool) (Q : List Tk) (V : Value), i + gk = m ∧ s8 = .int .i64 i ∧ s7 = .bool b ∧ V = s6 ∧ Hid (PutTo L x c i b Q) ∧ Hid (wx.ownsRow g 52 2 V Q.length (encT Q)) ∧ Hid (Below g w wx))
  case atStart => exact ⟨0, false, [], _, by omega, rfl, rfl, rfl, putTo_zero L x c, World.ownsRow_nil _ _ _ _, Below.refl _ _⟩
  case round =>
    obtain ⟨i, b, Q, V, hin, rfl, rfl, rfl, HPT, HO, HW⟩ := hrel
    have hql : Q.length ≤ 257 := by have := putTo_len HPT.out; have := HM.out; omega
    obtain ⟨_, hc1, hfr, hce⟩ := HRD.out wr HW.out
    rw [HM.out] at hc1
    have HCE := Lib.hid hce
    have HGL : Hid (g ≤ wr.heap.size) := by have := HG.out; have := HW.out.size; show g ≤ wr.heap.size; omega
    clear hce
    cases gk with
    | zero =>
      obtain rfl : i = m := by omega
      have hii : ¬ (i : Int) < (i : Int) := by omega
      have HEN := Lib.hid (putTo_end HPT.out (Nat.le_of_eq HM.out))
      cases b with
      | true =>
        obtain ⟨_, A2, cap2, rfl, _, _, _⟩ := rowT_of_own HO.out (by omega)
        go_wp2
        refine bodyPost_end (results_none rfl _ _ _) rfl ?_
        exact ⟨rfl, HFIN.out _ _ Q HEN.out HW.out HO.out⟩
      | false =>
        have HEN2 : Hid (Q ++ [(x, c)] = putL L x c) := HEN.out
        obtain ⟨V', w', hrun, ho', hb', _⟩ := run_appT_one wr g V Q x c HO.out (by omega) HGL.out
        have hpl : (putL L x c).length ≤ 258 := by rw [← HEN2.out, List.length_append, List.length_singleton]; omega
        rw [HEN2.out] at ho'
        obtain ⟨_, A2, cap2, rfl, _, _, _⟩ := rowT_of_own ho' (by omega)
        have HRUN := Lib.hid hrun
        have HO' := Lib.hid ho'
        have HB' : Hid (Below g w w') := HW.out.trans hb'
        obtain ⟨_, hc1', hfr', _⟩ := HRD.out w' HB'.out
        rw [HM.out] at hc1'
        clear hrun ho' hb'
        go_wp2_with (at_builtin; refine wpList_app rfl (.tmp 50) (.tmp 54) 47 rfl rfl rfl HRUN.out ?_)
        refine bodyPost_end (results_none rfl _ _ _) rfl ?_
        exact ⟨rfl, HFIN.out _ _ _ rfl HB'.out HO'.out⟩
    | succ gk =>
      have hii : (i : Int) < (m : Int) := by omega
      have hil : i < L.length := by have := HM.out; omega
      obtain ⟨bk, off, rfl, c1, c2⟩ := HCE.out i hil
      cases b with
      | true =>
        have HPN := Lib.hid (putTo_in HPT.out hil)
        generalize L[i].1 = y at *
        generalize L[i].2 = z at *
        obtain ⟨V', w', hrun, ho', hb', _⟩ := run_appT_one wr g V Q y z HO.out (by omega) HGL.out
        have HRUN := Lib.hid hrun
        have HO' := Lib.hid ho'
        have HB' : Hid (Below g w w') := HW.out.trans hb'
        clear hrun ho' hb'
        go_wp2_with (at_builtin; refine wpList_app rfl (.tmp 38) (.tmp 46) 47 rfl rfl rfl HRUN.out ?_)
        go_roundg gk
        case measure => omega
        case rel => exact ⟨i + 1, true, _, V', by omega, by go_num, rfl, rfl, HPN, HO', HB'⟩
      | false =>
        rcases Classical.em (x < L[i].1) with hx | hx
        · have HPN := Lib.hid (putTo_now HPT.out hil hx)
          obtain ⟨V1, w1, hrun1, ho1, hb1, _⟩ := run_appT_one wr g V Q x c HO.out (by omega) HGL.out
          have HB1 : Hid (Below g w w1) := HW.out.trans hb1
          obtain ⟨_, hc1', hfr', hce'⟩ := HRD.out w1 HB1.out
          rw [HM.out] at hc1'
          obtain ⟨bk2, off2, e2, c1', c2'⟩ := hce' i hil
          simp only [Option.some.injEq, Addr.mk.injEq, and_true] at e2
          obtain ⟨rfl, rfl⟩ := e2
          have HGL1 : Hid (g ≤ w1.heap.size) := by have := HGL.out; have := hb1.size; show g ≤ w1.heap.size; omega
          clear hce'
          generalize L[i].1 = y at *
          generalize L[i].2 = z at *
          obtain ⟨V', w', hrun, ho', hb', _⟩ := run_appT_one w1 g V1 (Q ++ [(x, c)]) y z ho1 (by rw [List.length_append, List.length_singleton]; omega) HGL1.out
          have HRUN1 := Lib.hid hrun1
          have HRUN := Lib.hid hrun
          have HO' := Lib.hid ho'
          have HB' : Hid (Below g w w') := HB1.out.trans hb'
          clear hrun1 ho1 hb1 hrun ho' hb'
          go_wp2_with (at_builtin; first | (refine wpList_app rfl (.tmp 32) (.tmp 36) 47 rfl rfl rfl HRUN1.out ?_) | (refine wpList_app rfl (.tmp 38) (.tmp 46) 47 rfl rfl rfl HRUN.out ?_))
          go_roundg gk
          case measure => omega
          case rel => exact ⟨i + 1, true, _, V', by omega, by go_num, rfl, rfl, HPN, HO', HB'⟩
        · have HPN := Lib.hid (putTo_not HPT.out hil hx)
          generalize L[i].1 = y at *
          generalize L[i].2 = z at *
          obtain ⟨V', w', hrun, ho', hb', _⟩ := run_appT_one wr g V Q y z HO.out (by omega) HGL.out
          have HRUN := Lib.hid hrun
          have HO' := Lib.hid ho'
          have HB' : Hid (Below g w w') := HW.out.trans hb'
          clear hrun ho' hb'
          go_wp2_with (at_builtin; refine wpList_app rfl (.tmp 38) (.tmp 46) 47 rfl rfl rfl HRUN.out ?_)
          go_roundg gk
          case measure => omega
          case rel => exact ⟨i + 1, false, _, V', by omega, by go_num, rfl, rfl, HPN, HO', HB'⟩

end Go.Proofs.Ytjebpggoajfjkaa
