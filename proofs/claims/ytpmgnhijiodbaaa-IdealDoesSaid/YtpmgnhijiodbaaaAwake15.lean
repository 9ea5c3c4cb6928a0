/-
  Proved here: what the statements' own put and awake answer and leave.
  Conditions: none.
-/
import Derived.Test.YtpmgnhijiodbaaaApply15
import Derived.Lib.Strings
namespace Go.Proofs.Ytpmgnhijiodbaaa
open Go Go.RowKit
set_option maxRecDepth 100000

def putC (k v : ByteArray) : Cal := ⟨2, k, v, ⟨#[]⟩, none, 0, 0⟩
set_option maxHeartbeats 400000 in
theorem put_any (k v : ByteArray) (w : World) : Calls Try.prog 14 #[.string k, .string v] w fun e w' => e = .returned (.agg #[.int .i64 2, .string k, .string v, .string ⟨#[]⟩, .slice none 0 0]) ∧ Below w.heap.size w w' := by
  obtain ⟨g, hg⟩ : ∃ g, w.heap.size = g := ⟨_, rfl⟩
  have HG := Lib.hid hg
  have HZ := Lib.hid zero_call
  rw [hg]
  go_enter Try.func14, Try.ntmps14
  go_wp2_with (first
    | ((with_reducible show wpList _ _ _ (⟨some 4, .alloc _, _, _, _, _⟩ :: _) _ _); refine wpList_alloc_var (o := ⟨some 4, _, _, _, _, _⟩) rfl 31 rfl g HG.out _ HZ.out ?_; intro w2 H2 B2)
    | ((with_reducible show wpList _ _ _ (⟨none, .store _ (.tmp 4) _, _, _, _, _⟩ :: _) _ _); refine wpList_store_whole (o := ⟨none, .store 31 (.tmp 4) (.tmp 7), _, _, _, _⟩) rfl _ _ _ rfl rfl g #[.int .i64 2, .string k, .string v, .string ⟨#[]⟩, .slice none 0 0] rfl rfl 31 _ H2.out size_call rfl (onesC _ _ _ _ _ _ _) ?_; intro w5 H5 B5)
    | fail)
  refine bodyPost_ret (results_v1 (cs := [.int .i64 2, .string k, .string v, .string ⟨#[]⟩, .slice none 0 0]) rfl Try.underlying31 rfl H5.out size_call) rfl ?_
  exact ⟨rfl, B2.out.trans B5.out⟩
/-- The call that is none. -/
def zeroC : Cal := ⟨0, ⟨#[]⟩, ⟨#[]⟩, ⟨#[]⟩, none, 0, 0⟩
theorem good_zero : goodN zeroC [] = 1 := by
  unfold goodN formC formF
  simp [zeroC]
theorem grp_none (w : World) (c : Cal) (hn : c.gn = 0) (hc : c.gc = 0) : Grp w c [] := grp_flat w ⟨hn, by rw [hc]; unfold maxLen; omega, fun _ => hc⟩
def bK : ByteArray := ⟨#[98]⟩
def tV : ByteArray := ⟨#[50]⟩
theorem bK_list : bK.toList = [98] := by rw [Lib.toList_data]; rfl
theorem tV_list : tV.toList = [50] := by rw [Lib.toList_data]; rfl
theorem form_put : formC (putC bK tV) [] = true := by
  show (!bK.toList.isEmpty) = true
  rw [bK_list]
  rfl
theorem long_put : longC (putC bK tV) [] = false := by
  show (decide ((16 : Int) < ((1 : Nat) : Int)) || decide ((400 : Int) < ((1 : Nat) : Int))) = false
  decide
theorem good_put : goodN (putC bK tV) [] = 0 := by
  show (if formC (putC bK tV) [] = true then (if longC (putC bK tV) [] = true then (5 : Int) else 0) else 1) = 0
  rw [form_put, long_put]
  rfl
theorem app_put : apL (putC bK tV) [] [] = [⟨bK, tV⟩] ∧ apQ (putC bK tV) [] [] = [] ∧ apF (putC bK tV) [] [] [] = false ∧ apV (putC bK tV) [] [] [] = ⟨#[]⟩ ∧ apM (putC bK tV) [] [] = [] ∧ apH (putC bK tV) [] [] [] = [] := by
  unfold apL apQ apF apV apM apH
  rw [if_pos good_put, if_pos good_put, if_pos good_put, if_pos good_put, if_pos good_put, if_pos good_put]
  exact ⟨rfl, rfl, rfl, rfl, rfl, rfl⟩
theorem get_put : valK [⟨bK, tV⟩] bK = tV ∧ hasK [⟨bK, tV⟩] bK = true := by
  unfold valK getK hasK eqKv eqK
  simp
set_option maxHeartbeats 1600000 in
theorem awake15_any (w : World) : Calls Try.prog 5 #[] w fun e w' => e = .returned (.bool true) ∧ Below w.heap.size w w' := by
  have HPU : Hid (∀ w1, Calls Try.prog 14 #[.string ⟨#[98]⟩, .string ⟨#[50]⟩] w1 fun e w' => e = .returned (.agg #[.int .i64 2, .string bK, .string tV, .string ⟨#[]⟩, .slice none 0 0]) ∧ Below w1.heap.size w1 w') := fun w1 => put_any bK tV w1
  have HAP : Hid (∀ w1, Calls Try.prog 13 #[.agg #[.slice none 0 0, .slice none 0 0], .agg #[.int .i64 2, .string bK, .string tV, .string ⟨#[]⟩, .slice none 0 0]] w1 (AppTo w1 (putC bK tV) [] [] [])) := fun w1 =>
    apply15_any (A := none) (B := none) (n := 0) (cp := 0) (m := 0) (d := 0) (L := []) (Q := []) ⟨RP.row_nil _ _, RS.row_nil _ _, rfl, rfl, fun _ => rfl, fun _ => rfl⟩ (by simp) (by simp) (putC bK tV) [] (grp_none w1 _ rfl rfl)
  have HGT : Hid (∀ w1 A n c B m d, Shv w1 A n c B m d [⟨bK, tV⟩] [] → Calls Try.prog 15 #[.agg #[.slice A n c, .slice B m d], .string ⟨#[98]⟩] w1 fun e w' => e = .returned (.tuple #[.string tV, .bool true]) ∧ Below w1.heap.size w1 w') := fun w1 A n c B m d h => by
    have := get15_any h bK
    rw [get_put.1, get_put.2] at this
    exact this
  have HGO : Hid (∀ w1, Calls Try.prog 16 #[.agg #[.int .i64 0, .string ⟨#[]⟩, .string ⟨#[]⟩, .string ⟨#[]⟩, .slice none 0 0]] w1 fun e w' => e = .returned (.int .i64 1) ∧ Below w1.heap.size w1 w') := fun w1 => by
    have := good_any zeroC [] w1 (grp_none w1 _ rfl rfl)
    rw [good_zero] at this
    exact this
  have HZS := Lib.hid zero_shelf
  have HZA := Lib.hid zero_answer
  have hzt : (tV.toList == [50]) = true := by rw [tV_list]; rfl
  go_enter Try.func5, Try.ntmps5
  go_wp2_with fail
  refine (HPU.out _).mono ?_
  rintro e w1 ⟨rfl, hb1⟩
  have HB1 := Lib.hid hb1
  clear hb1
  go_wp2_with fail
  refine (HAP.out _).mono ?_
  rintro e w2 ⟨A, c1, B, d1, A2, c2, B2, d2, rfl, o1, o2, -, -, -, hb2⟩
  obtain ⟨q1, q2, q3, q4, q5, q6⟩ := app_put
  rw [q1, q2, q3, q4, q5, q6, good_put]
  rw [q1] at o1
  rw [q2] at o2
  obtain ⟨_, A', c', e1, _, _, r1, z1, _⟩ := Rec.row_of_own o1 (by simp)
  cases e1
  obtain ⟨_, B', d', e2, _, _, r2, z2, _⟩ := Rec.row_of_own o2 (by simp)
  cases e2
  have HSV : Hid (Shv w2 A 1 c1 B 0 d1 [⟨bK, tV⟩] []) := ⟨r1, r2, rfl, rfl, fun e => (z1 e).2, fun e => (z2 e).2⟩
  have HB2 : Hid (Below w.heap.size w w2) := HB1.out.trans (hb2.mono HB1.out.size)
  obtain ⟨g1, hg1⟩ : ∃ g, w2.heap.size = g := ⟨_, rfl⟩
  have HG1 := Lib.hid hg1
  clear o1 o2 hb2 r1 r2 z1 z2 hg1 q1 q2 q3 q4 q5 q6
  simp only [List.length_cons, List.length_nil, Nat.zero_add]
  go_wp2_with (first
    | ((with_reducible show wpList _ _ _ (⟨some 1, .alloc _, _, _, _, _⟩ :: _) _ _); refine wpList_alloc_var (o := ⟨some 1, _, _, _, _, _⟩) rfl 25 rfl g1 HG1.out _ HZS.out ?_; intro x1 X1 C1; obtain ⟨g2, hg2⟩ : ∃ g, x1.heap.size = g := ⟨_, rfl⟩; have HG2 := Lib.hid hg2; have HL12 : Hid (g1 < g2) := (by rw [← hg2]; exact lt_of_heap X1.out); clear hg2)
    | ((with_reducible show wpList _ _ _ (⟨some 2, .alloc _, _, _, _, _⟩ :: _) _ _); refine wpList_alloc_var (o := ⟨some 2, _, _, _, _, _⟩) rfl 46 rfl g2 HG2.out _ HZA.out ?_; intro x2 X2 C2; have X12 := Lib.hid ((C2.out.block g1 HL12.out).trans X1.out))
    | ((with_reducible show wpList _ _ _ (⟨none, .store _ (.tmp 1) _, _, _, _, _⟩ :: _) _ _); refine wpList_store_only (o := ⟨none, .store 25 (.tmp 1) (.tmp 9), _, _, _, _⟩) rfl _ _ _ rfl rfl g1 #[.slice A 1 c1, .slice B 0 d1] rfl rfl 25 _ X12.out size_shelf rfl (onesV _ _ _ _ _ _) ?_; intro x3 X3 T3; have X23 := Lib.hid ((T3.out.block g2 (fun e => Nat.lt_irrefl _ (e ▸ HL12.out)) (fun e => Nat.lt_irrefl _ (e ▸ HL12.out)) (lt_of_heap X2.out)).trans X2.out))
    | ((with_reducible show wpList _ _ _ (⟨none, .store _ (.tmp 2) _, _, _, _, _⟩ :: _) _ _); refine wpList_store_only (o := ⟨none, .store 46 (.tmp 2) (.tmp 10), _, _, _, _⟩) rfl _ _ _ rfl rfl g2 #[.int .i64 0, .bool false, .string ⟨#[]⟩, .slice A2 0 c2, .slice B2 0 d2, .int .u64 0] rfl rfl 46 _ X23.out size_answer rfl (onesA _ _ _ _ _ _ _ _ _ _) ?_; intro x4 X4 T4; have X34 := Lib.hid ((T4.out.block g1 (fun e => Nat.lt_irrefl _ (e ▸ HL12.out)) (fun e => Nat.lt_irrefl _ (e ▸ HL12.out)) (lt_of_heap X3.out)).trans X3.out); obtain ⟨p0, p1⟩ := cells2 X34.out)
    | fail)
  have HBX : Hid (Below g1 w2 x4) := by
    have hl := HL12.out
    have h2 := C1.out.trans (C2.out.mono (Nat.le_of_lt hl))
    have h2s : g1 ≤ x2.heap.size := by have := lt_of_heap X12.out; omega
    have h3 := h2.trans ((stay_of_turns T3.out).below (g := g1) (fun k e => by rw [show k = g1 from e]; exact Nat.le_refl _) h2s)
    exact h3.trans ((stay_of_turns T4.out).below (g := g1) (fun k e => by rw [show k = g2 from e]; exact Nat.le_of_lt hl) (by have := lt_of_heap X3.out; omega))
  refine (HGT.out x4 _ _ _ _ _ _ (HSV.out.below (HG1.out.symm ▸ HBX.out))).mono ?_
  rintro e x5 ⟨rfl, hb5⟩
  have X5 := Lib.hid ((hb5.block g2 (lt_of_heap X4.out)).trans X4.out)
  have HB5 : Hid (Below w.heap.size w x5) := (HB2.out.trans (HBX.out.mono (by have := HB2.out.size; have := HG1.out; omega))).trans (hb5.mono (by have := HB2.out.size; have := HBX.out.size; omega))
  clear hb5 p0 p1
  obtain ⟨n0, n1, n2, n3, n4, n5⟩ := cells6 X5.out
  go_wp2_with fail
  refine (HGO.out x5).mono ?_
  rintro e x6 ⟨rfl, hb6⟩
  have HB6 : Hid (Below w.heap.size w x6) := HB5.out.trans (hb6.mono HB5.out.size)
  clear hb6 n0 n1 n2 n3 n4 n5
  go_wp2
  go_ret
  exact ⟨rfl, HB6.out⟩

end Go.Proofs.Ytpmgnhijiodbaaa
