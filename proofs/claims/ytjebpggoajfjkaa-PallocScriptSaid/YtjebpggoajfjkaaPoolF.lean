/-
  Proved here: what the statements' own awake, SameTaken and OverTaken answer and leave.
  Conditions: rows of at most 2^26 blocks.
-/
import Derived.Test.YtjebpggoajfjkaaPoolE
namespace Go.Proofs.Ytjebpggoajfjkaa
open Go Go.RowKit

set_option maxHeartbeats 400000 in
theorem awake_any (w : World) : Calls Try.prog 11 #[] w fun e w' => e = .returned (.bool true) ∧ Below w.heap.size w w' := by
  have HN := Lib.hid (new_ok 2 (by omega) (by omega) w)
  unfold MadeP at HN
  have HT1 : Hid (∀ w1 p q, PlP w1 p q 2 [] → Calls Try.prog 15 #[.pointer (some ⟨p, 0, none⟩), .int .i64 2] w1 fun e w' => e = .returned (.tuple #[.int .i64 2, .int .i64 0]) ∧ PlP w' p q 2 [(2, 2)] ∧ Turns p q w1 w') := fun w1 p q h => take_any h 2
  have HT2 : Hid (∀ w1 p q, PlP w1 p q 2 [(2, 2)] → Calls Try.prog 15 #[.pointer (some ⟨p, 0, none⟩), .int .i64 0] w1 fun e w' => e = .returned (.tuple #[.int .i64 10, .int .i64 0]) ∧ PlP w' p q 2 [(2, 2), (10, 0)] ∧ Turns p q w1 w') := fun w1 p q h => take_any h 0
  go_enter Try.func11, Try.ntmps11
  go_wp2_with fail
  refine HN.out.mono ?_
  rintro e w1 ⟨p, q, rfl, hp, hq, hpl, hb⟩
  have HP := Lib.hid hp
  have HQ := Lib.hid hq
  have HPL := Lib.hid hpl
  have HB := Lib.hid hb
  clear hp hq hpl hb
  go_wp2_with fail
  refine (HT1.out _ _ _ HPL.out).mono ?_
  rintro e w2 ⟨rfl, hpl, ht⟩
  have HPL2 := Lib.hid hpl
  have HTR := Lib.hid ht
  clear hpl ht
  go_wp2_with fail
  refine (HT2.out _ _ _ HPL2.out).mono ?_
  rintro e w3 ⟨rfl, hpl, ht⟩
  have HTR2 := Lib.hid ht
  clear hpl ht
  go_wp2
  go_ret
  refine ⟨rfl, HB.out.trans ?_⟩
  exact (HTR.out.trans HTR2.out).below HP.out HQ.out HB.out.size
theorem guard_taken : Try.prog.eqGuardType Try.prog.depth 52 = false := by kernel_rfl
set_option maxHeartbeats 400000 in
theorem samet_any (w : World) (A B : Option Addr) (n c d : Nat) (l : List Tk) (hl : l.length = n) (hr : RowT w A l) (hs : RowT w B l) :
    Calls Try.prog 32 #[.slice A n c, .slice B n d] w fun e w' => e = .returned (.bool true) ∧ ∃ k, w' = w.drewN k := by
  have hn : n ≤ 67108864 := by have := hr.1; omega
  have HR := Lib.hid hr
  have HS := Lib.hid hs
  have HL := Lib.hid hl
  have hnn : ((n : Int) != (n : Int)) = false := by simp
  have hgu := guard_taken
  clear hr hs hl
  go_enter Try.func32, Try.ntmps32
  go_wp2
  go_loopg [5] n (fun gk s5 wx => ∃ i k : Nat, i + gk = n ∧ s5 = .int .i64 i ∧ wx = w.drewN k)
  case atStart => exact ⟨0, 0, by omega, rfl, rfl⟩
  case round =>
    obtain ⟨i, k, hig, rfl, rfl⟩ := hrel
    cases gk with
    | zero =>
      obtain rfl : i = n := by omega
      have hii : ¬ (i : Int) < (i : Int) := by omega
      go_wp2
      go_ret
      exact ⟨rfl, k, rfl⟩
    | succ gk =>
      have hii : (i : Int) < (n : Int) := by omega
      obtain ⟨b1, o1, rfl, _, hc1⟩ := HR.out.2 (by have := HL.out; omega)
      obtain ⟨b2, o2, rfl, _, hc2⟩ := HS.out.2 (by have := HL.out; omega)
      have hil : i < l.length := by have := HL.out; omega
      obtain ⟨g1, g2⟩ := hc1 i _ (List.getElem?_eq_getElem hil)
      obtain ⟨g3, g4⟩ := hc2 i _ (List.getElem?_eq_getElem hil)
      generalize l[i].1 = x at *
      generalize l[i].2 = y at *
      have hxx : (x == x) = true := by simp
      have hyy : (y == y) = true := by simp
      clear hc1 hc2
      go_wp2
      go_quiet (fail)
      go_wp2
      go_roundg gk
      case measure => omega
      case rel => exact ⟨i + 1, k + nq, by omega, by go_num, rfl⟩
set_option maxHeartbeats 800000 in
theorem overt_any (w : World) (B n : Nat) (v : Value) (r : List Tk) (hr : r.length = n) (hn : n < 67108864) (h : w.ownsRow B 52 2 v n (encT r)) (hB : B ≤ w.heap.size) :
    Calls Try.prog 47 #[v] w fun e w' => e = .returned (.tuple #[]) ∧ Below B w w' := by
  rcases h.2 with ⟨rfl, h0⟩ | ⟨g, cap, cur, rfl, hg, _⟩
  · obtain ⟨V', w', hrun, _, hb', _⟩ := run_appT_one w B (.slice none 0 0) [] (-8) 0 (World.ownsRow_nil _ _ _ _) (by simp) hB
    have HRUN : Hid (Sem.run Try.prog (Builtin.append_ #[47, 47] 47 #[.slice none 0 0, .slice (some ⟨w.heap.size, 0, none⟩) 1 1]) (w.alloc (.cells #[.int .i64 (-8), .int .i64 0] 52)) = .ok V' w') := hrun
    have HB' := Lib.hid hb'
    clear hrun hb' h hr h0
    go_enter Try.func47, Try.ntmps47
    go_wp2
    go_loopg [2] 0 (fun gk s2 wx => gk = 0 ∧ s2 = .int .i64 0 ∧ w = wx)
    case atStart => exact ⟨rfl, rfl, rfl⟩
    case round =>
      obtain ⟨rfl, rfl, rfl⟩ := hrel
      go_wp2_with (at_builtin; refine wpList_app rfl (.tmp 13) (.tmp 15) 47 rfl rfl rfl HRUN.out ?_)
      refine bodyPost_end (results_none rfl _ _ _) rfl ?_
      exact ⟨rfl, HB'.out⟩
  · have HO0 := Lib.hid h
    have HR := Lib.hid hr
    clear h hr
    go_enter Try.func47, Try.ntmps47
    go_wp2
    go_loopg [2] n (fun gk s2 wx => ∃ (i : Nat) (q : List Tk), i + gk = n ∧ s2 = .int .i64 i ∧ Hid (q.length = n) ∧ Hid (wx.ownsRow B 52 2 (.slice (some ⟨g, 0, none⟩) n cap) n (encT q)) ∧ Hid (Below B w wx))
    case atStart => exact ⟨0, r, by omega, rfl, HR, HO0, Below.refl _ _⟩
    case round =>
      obtain ⟨i, q, hin, rfl, HQ, HO, HW⟩ := hrel
      cases gk with
      | zero =>
        obtain rfl : i = n := by omega
        have hii : ¬ (i : Int) < (i : Int) := by omega
        obtain ⟨V', w', hrun, _, hb', _⟩ := run_appT_one wr B (.slice (some ⟨g, 0, none⟩) i cap) q (-8) 0 (by rw [HQ.out]; exact HO.out) (by have := HQ.out; omega) (Nat.le_trans hB HW.out.size)
        have HRUN : Hid (Sem.run Try.prog (Builtin.append_ #[47, 47] 47 #[.slice (some ⟨g, 0, none⟩) i cap, .slice (some ⟨wr.heap.size, 0, none⟩) 1 1]) (wr.alloc (.cells #[.int .i64 (-8), .int .i64 0] 52)) = .ok V' w') := hrun
        have HB' := Lib.hid hb'
        clear hrun hb'
        go_wp2_with (at_builtin; refine wpList_app rfl (.tmp 13) (.tmp 15) 47 rfl rfl rfl HRUN.out ?_)
        refine bodyPost_end (results_none rfl _ _ _) rfl ?_
        exact ⟨rfl, HW.out.trans HB'.out⟩
      | succ gk =>
        have hii : (i : Int) < (n : Int) := by omega
        have hil : i < q.length := by have := HQ.out; omega
        obtain ⟨e1, e2⟩ := encT_at (List.getElem?_eq_getElem hil)
        have hcell := HO.out.cellAt (i * 2) (by omega)
        rw [e1] at hcell
        have hcell2 := HO.out.cellAt (i * 2 + 1) (by omega)
        rw [e2] at hcell2
        have hfr := HO.out.frozenAt (i * 2)
        have hfr2 := HO.out.frozenAt (i * 2 + 1)
        have hst := (HO.out.stored (i * 2) (.int .i64 (-9))).1
        have hst2 := (hst.stored (i * 2 + 1) (.int .i64 (-9))).1
        rw [encT_set hil] at hst2
        have HST := Lib.hid hst2
        have HQ2 : Hid ((q.set i (-9, -9)).length = n) := by show _ = _; rw [List.length_set]; exact HQ.out
        have HWB : Hid (Below B w ((wr.setCell ⟨g, i * 2, none⟩ (.int .i64 (-9))).setCell ⟨g, i * 2 + 1, none⟩ (.int .i64 (-9)))) := (HW.out.setCell hg _).setCell hg _
        clear hst hst2 e1 e2
        go_wp2
        go_roundg gk
        case measure => omega
        case rel => exact ⟨i + 1, _, by omega, by go_num, HQ2, HST, HWB⟩

end Go.Proofs.Ytjebpggoajfjkaa
