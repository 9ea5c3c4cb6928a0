/-
  Proved here: what the statements' own SameLinks and OverLinks answer and leave.
  Conditions: rows of at most 2^20 links.
-/
import Derived.Test.YtejljkpnhdnncaaTabA
namespace Go.Proofs.Ytejljkpnhdnncaa
open Go Go.RowKit
set_option maxRecDepth 100000

theorem guard_link12 : Try.prog.eqGuardType Try.prog.depth 29 = false := by kernel_rfl
theorem encL_set (L : List Ln) (i : Nat) (e : Ln) (hi : i < L.length) : (((((encL L).set (i * 5) (.string e.str)).set (i * 5 + 1) (.int .u64 (e.id : Nat))).set (i * 5 + 2) (.int .u64 (e.ver : Nat))).set (i * 5 + 3) (.int .i64 e.line)).set (i * 5 + 4) (.int .i64 e.cl) = encL (L.set i e) := by
  induction L generalizing i with
  | nil => simp at hi
  | cons a L ih =>
    cases i with
    | zero => rfl
    | succ i =>
      have := ih i (by simpa using hi)
      simp only [encL, List.flatMap_cons, List.set_cons_succ] at this ⊢
      rw [← this]
      have ha : a.cells.length = 5 := rfl
      rw [List.set_append_right _ _ (by omega), List.set_append_right _ _ (by omega), List.set_append_right _ _ (by omega), List.set_append_right _ _ (by omega), List.set_append_right _ _ (by omega), ha, show (i + 1) * 5 - 5 = i * 5 by omega, show (i + 1) * 5 + 1 - 5 = i * 5 + 1 by omega, show (i + 1) * 5 + 2 - 5 = i * 5 + 2 by omega, show (i + 1) * 5 + 3 - 5 = i * 5 + 3 by omega, show (i + 1) * 5 + 4 - 5 = i * 5 + 4 by omega]
set_option maxHeartbeats 800000 in
theorem samel_any (w : World) (A B : Option Addr) (n c d : Nat) (l : List Ln) (hl : l.length = n) (hr : RowL w A l) (hs : RowL w B l) :
    Calls Try.prog 13 #[.slice A n c, .slice B n d] w fun e w' => e = .returned (.bool true) ∧ ∃ k, w' = w.drewN k := by
  have hn : n ≤ 1048576 := by have := hr.1; omega
  have HR := Lib.hid hr
  have HS := Lib.hid hs
  have HL := Lib.hid hl
  have hnn : ((n : Int) != (n : Int)) = false := by simp
  have hgu := guard_link12
  clear hr hs hl
  go_enter Try.func13, Try.ntmps13
  go_wp2
  go_loopg [5] n (fun gk s5 wx => ∃ i k : Nat, i + gk = n ∧ s5 = .int .i64 i ∧ wx = w.drewN k)
  case atStart => exact ⟨0, 0, by omega, rfl, rfl⟩
  case round =>
    obtain ⟨i, k, hig, rfl, rfl⟩ := hrel
    cases gk with
    | zero =>
      obtain rfl : i = n := by omega
      have hii : ¬ (i : Int) < (i : Int) := by omega
      go_wp2
      go_ret
      exact ⟨rfl, k, rfl⟩
    | succ gk =>
      have hii : (i : Int) < (n : Int) := by omega
      have hil : i < l.length := by have := HL.out; omega
      obtain ⟨b1, o1, rfl, _, g0, g1, g2, g3, g4⟩ := HR.out.at_ (List.getElem?_eq_getElem hil)
      obtain ⟨b2, o2, rfl, _, k0, k1, k2, k3, k4⟩ := HS.out.at_ (List.getElem?_eq_getElem hil)
      generalize l[i].str = x0 at *
      generalize (l[i].id : Int) = x1 at *
      generalize (l[i].ver : Int) = x2 at *
      generalize l[i].line = x3 at *
      generalize l[i].cl = x4 at *
      have h0 : (x0.toList == x0.toList) = true := by simp
      have h1 : (x1 == x1) = true := by simp
      have h2 : (x2 == x2) = true := by simp
      have h3 : (x3 == x3) = true := by simp
      have h4 : (x4 == x4) = true := by simp
      go_wp2
      go_quiet (fail)
      go_wp2
      go_roundg gk
      case measure => omega
      case rel => exact ⟨i + 1, k + nq, by omega, by go_num, rfl⟩
set_option maxHeartbeats 1600000 in
/-- What OverLinks leaves: all but the row's own block. -/
theorem overl_sp (w : World) (B n : Nat) (v : Value) (r : List Ln) (hr : r.length = n) (hn : n < 1048576) (h : w.ownsRow B 29 5 v n (encL r)) (hB : B ≤ w.heap.size) :
    Calls Try.prog 14 #[v] w fun e w' => e = .returned (.tuple #[]) ∧ Below B w w' := by
  rcases h.2 with ⟨rfl, h0⟩ | ⟨g, cap, cur, rfl, hg, _⟩
  · obtain ⟨V', w', hrun, _, hb', _⟩ := run_appL_one w B (.slice none 0 0) [] ⟨[98, 101, 121, 111, 110, 100], 0, 0, 0, 0⟩ (World.ownsRow_nil _ _ _ _) (by simp) hB
    have HRUN : Hid (Sem.run Try.prog (Builtin.append_ #[22, 22] 22 #[.slice none 0 0, .slice (some ⟨w.heap.size, 0, none⟩) 1 1]) (w.alloc (.cells #[.string ⟨#[98, 101, 121, 111, 110, 100]⟩, .int .u64 0, .int .u64 0, .int .i64 0, .int .i64 0] 29)) = .ok V' w') := hrun
    have HB' : Hid (Below B w w') := (Below.refl _ _).grown hb' hB (fun k e => by simp [Value.ownBlock] at e)
    clear hrun hb' h hr h0
    go_enter Try.func14, Try.ntmps14
    go_wp2
    go_loopg [2] 0 (fun gk s2 wx => gk = 0 ∧ s2 = .int .i64 0 ∧ w = wx)
    case atStart => exact ⟨rfl, rfl, rfl⟩
    case round =>
      obtain ⟨rfl, rfl, rfl⟩ := hrel
      go_wp2_with (at_builtin; refine wpList_app rfl (.tmp 13) (.tmp 15) 22 rfl rfl rfl HRUN.out ?_)
      refine bodyPost_end (results_none rfl _ _ _) rfl ?_
      exact ⟨rfl, HB'.out⟩
  · have HO0 := Lib.hid h
    have HR := Lib.hid hr
    clear h hr
    go_enter Try.func14, Try.ntmps14
    go_wp2
    go_loopg [2] n (fun gk s2 wx => ∃ (i : Nat) (q : List Ln), i + gk = n ∧ s2 = .int .i64 i ∧ Hid (q.length = n) ∧ Hid (wx.ownsRow B 29 5 (.slice (some ⟨g, 0, none⟩) n cap) n (encL q)) ∧ Hid (Below B w wx))
    case atStart => exact ⟨0, r, by omega, rfl, HR, HO0, Below.refl _ _⟩
    case round =>
      obtain ⟨i, q, hin, rfl, HQ, HO, HW⟩ := hrel
      cases gk with
      | zero =>
        obtain rfl : i = n := by omega
        have hii : ¬ (i : Int) < (i : Int) := by omega
        obtain ⟨V', w', hrun, _, hb', _⟩ := run_appL_one wr B (.slice (some ⟨g, 0, none⟩) i cap) q ⟨[98, 101, 121, 111, 110, 100], 0, 0, 0, 0⟩ (by rw [HQ.out]; exact HO.out) (by have := HQ.out; omega) (Nat.le_trans hB HW.out.size)
        have HRUN : Hid (Sem.run Try.prog (Builtin.append_ #[22, 22] 22 #[.slice (some ⟨g, 0, none⟩) i cap, .slice (some ⟨wr.heap.size, 0, none⟩) 1 1]) (wr.alloc (.cells #[.string ⟨#[98, 101, 121, 111, 110, 100]⟩, .int .u64 0, .int .u64 0, .int .i64 0, .int .i64 0] 29)) = .ok V' w') := hrun
        have HB' : Hid (Below B w w') := HW.out.trans ((Below.refl _ _).grown hb' (Nat.le_trans hB HW.out.size) (fun k e => by
          simp only [Value.ownBlock, Option.some.injEq] at e
          omega))
        clear hrun hb'
        go_wp2_with (at_builtin; refine wpList_app rfl (.tmp 13) (.tmp 15) 22 rfl rfl rfl HRUN.out ?_)
        refine bodyPost_end (results_none rfl _ _ _) rfl ?_
        exact ⟨rfl, HB'.out⟩
      | succ gk =>
        have hii : (i : Int) < (n : Int) := by omega
        have hil : i < q.length := by have := HQ.out; omega
        have hin5 : i * 5 + 4 < n * 5 := by omega
        have hce : ∀ j, j < 5 → ∃ u, wr.cell? ⟨g, i * 5 + j, none⟩ = some u := fun j hj => by
          rw [HO.out.cellAt (i * 5 + j) (by omega)]
          have : i * 5 + j < (encL q).length := by rw [encL_len]; omega
          exact ⟨_, List.getElem?_eq_getElem this⟩
        obtain ⟨u0, e0⟩ := hce 0 (by omega)
        obtain ⟨u1, e1⟩ := hce 1 (by omega)
        obtain ⟨u2, e2⟩ := hce 2 (by omega)
        obtain ⟨u3, e3⟩ := hce 3 (by omega)
        obtain ⟨u4, e4⟩ := hce 4 (by omega)
        rw [Nat.add_zero] at e0
        have f0 := HO.out.frozenAt (i * 5)
        have f1 := HO.out.frozenAt (i * 5 + 1)
        have f2 := HO.out.frozenAt (i * 5 + 2)
        have f3 := HO.out.frozenAt (i * 5 + 3)
        have f4 := HO.out.frozenAt (i * 5 + 4)
        have s0 := (HO.out.stored (i * 5) (.string ⟨#[111, 118, 101, 114]⟩)).1
        have s1 := (s0.stored (i * 5 + 1) (.int .u64 0)).1
        have s2 := (s1.stored (i * 5 + 2) (.int .u64 0)).1
        have s3 := (s2.stored (i * 5 + 3) (.int .i64 (-9))).1
        have s4 := (s3.stored (i * 5 + 4) (.int .i64 0)).1
        have he := encL_set q i ⟨[111, 118, 101, 114], 0, 0, -9, 0⟩ hil
        replace he : (((((encL q).set (i * 5) (.string ⟨#[111, 118, 101, 114]⟩)).set (i * 5 + 1) (.int .u64 0)).set (i * 5 + 2) (.int .u64 0)).set (i * 5 + 3) (.int .i64 (-9))).set (i * 5 + 4) (.int .i64 0) = encL (q.set i ⟨[111, 118, 101, 114], 0, 0, -9, 0⟩) := he
        rw [he] at s4
        have HST := Lib.hid s4
        have HQ2 : Hid ((q.set i ⟨[111, 118, 101, 114], 0, 0, -9, 0⟩).length = n) := by show _ = _; rw [List.length_set]; exact HQ.out
        have HWB : Hid (Below B w (((((wr.setCell ⟨g, i * 5, none⟩ (.string ⟨#[111, 118, 101, 114]⟩)).setCell ⟨g, i * 5 + 1, none⟩ (.int .u64 0)).setCell ⟨g, i * 5 + 2, none⟩ (.int .u64 0)).setCell ⟨g, i * 5 + 3, none⟩ (.int .i64 (-9))).setCell ⟨g, i * 5 + 4, none⟩ (.int .i64 0))) := ((((HW.out.setCell hg _).setCell hg _).setCell hg _).setCell hg _).setCell hg _
        clear s0 s1 s2 s3 s4 he hce
        go_wp2
        go_roundg gk
        case measure => omega
        case rel => exact ⟨i + 1, _, by omega, by go_num, HQ2, HST, HWB⟩


end Go.Proofs.Ytejljkpnhdnncaa
