/-
Proved here: IdealScans.
  Conditions: none.
-/
import Derived.Test.YtimpigponjkfkaaRows
import Derived.Test.YtimpigponjkfkaaSameB15
import Derived.IntWalk
import Derived.WalkSmall
import Derived.Deep.QuietTactic
import Derived.BigQuiet
import Derived.WalkKit
import Derived.ProofKit
import Derived.OpenShut
import Derived.ShutString
import Derived.ChangeOld
import Derived.Below
namespace Go.Proofs.Ytimpigponjkfkaa.idealScans
open Go.ChangeShapes Go.WideShapes Go.ChangeAt Go.RowKit
open Go.ChangeMaps (open_string shut_string)
set_option linter.unusedVariables false

theorem own : ownKnob Try.prog.godebug = none := by kernel_rfl
theorem laidOut : laidOutB Try.prog = true := by kernel_rfl

theorem filter_cut {p : Kv → Bool} {L : List Kv} {i : Nat} {x : Kv} (h : L[i]? = some x) (hp : p x = true) : (L.filter p)[((L.take i).filter p).length]? = some x := by
  induction L generalizing i with
  | nil => cases h
  | cons a L ih =>
    cases i with
    | zero =>
      obtain rfl : a = x := by simpa using h
      simp [List.filter_cons, hp]
    | succ i =>
      have h1 := ih (i := i) (by simpa using h)
      rw [List.take_succ_cons, List.filter_cons, List.filter_cons]
      split
      · simpa using h1
      · exact h1
def scanC (a b : ByteArray) : Cal := ⟨6, a, ⟨#[]⟩, b, none, 0, 0⟩
set_option maxRecDepth 100000 in
set_option maxHeartbeats 6400000 in
theorem walk (A : Option Addr) (n c : Nat) (B : Option Addr) (m d : Nat) (L : List Kv) (Q : List ByteArray) (fr to_ : ByteArray) (w : World) (hL : RP.Is w A n c L) (hQ : RS.Is w B m d Q) (_ : fr.size ≤ maxLen) (_ : to_.size ≤ maxLen) :
    Calls Try.prog 8 #[.agg #[.slice A n c, .slice B m d], .string fr, .string to_] w fun e w' => e = .returned (.bool true) ∧ Below w.heap.size w w' := by
  obtain ⟨g, hg⟩ : ∃ g, w.heap.size = g := ⟨_, rfl⟩
  obtain ⟨w1, hw1⟩ : ∃ w1, w.alloc (.cells #[.slice A n c, .slice B m d] 29) = w1 := ⟨_, rfl⟩
  have HS1 : Hid (w1.heap[g]? = some (.cells #[.slice A n c, .slice B m d] 29 (0, 0))) := by rw [← hw1, ← hg]; exact heap_alloc_new w _
  have HB1 : Hid (Below g w w1) := by rw [← hw1, ← hg]; exact (Below.refl _ _).alloc (Nat.le_refl _) _
  have HLG : Hid (∀ w2, Below g w w2 → Calls Try.prog 12 #[.agg #[.slice A n c, .slice B m d], .agg #[.int .i64 6, .string fr, .string ⟨#[]⟩, .string to_, .slice none 0 0]] w2 (LargeTo w2 L Q [])) := fun w2 hb => large_any w2 A B n c m d L Q (scanC fr to_) [] (hL.below (hg.symm ▸ hb)) (hQ.below (hg.symm ▸ hb)) (RC.is_nil _)
  have HSS : Hid (∀ w2, Below g w w2 → Fit L Q [] → Shv w2 A n c B m d L Q) := fun w2 hb hf => (hf.shv hL hQ).below (hg.symm ▸ hb)
  have HMY : Hid (∀ w2, Shv w2 A n c B m d L Q → Calls Try.prog 25 #[.agg #[.slice A n c, .slice B m d]] w2 fun e w' => e = .returned (.bool (riseB L)) ∧ Below w2.heap.size w2 w') := fun w2 h => may_any h
  have HGO : Hid (∀ w2, Calls Try.prog 15 #[.agg #[.int .i64 6, .string fr, .string ⟨#[]⟩, .string to_, .slice none 0 0]] w2 fun e w' => e = .returned (.int .i64 (goodN (scanC fr to_) [])) ∧ Below w2.heap.size w2 w') := fun w2 => good_any (scanC fr to_) [] w2 (grp_none w2 _ rfl rfl)
  obtain ⟨M, hM⟩ : ∃ M, L.filter (inR (scanC fr to_)) = M := ⟨_, rfl⟩
  obtain ⟨F, hF⟩ : ∃ F : Nat → Nat, F = fun i => ((L.take i).filter (inR (scanC fr to_))).length := ⟨_, rfl⟩
  have HF0 : Hid (F 0 = 0) := by rw [hF]; rfl
  have HFN : Hid (F n = M.length) := by rw [hF, ← hM, ← hL.1]; show _ = _; simp
  have HFI : Hid (∀ i x, L[i]? = some x → F i ≤ i ∧ F (i + 1) = (if inR (scanC fr to_) x = true then F i + 1 else F i) ∧ (inR (scanC fr to_) x = true → M[F i]? = some x)) := fun i x hx => by
    rw [hF, ← hM]
    refine ⟨?_, ?_, filter_cut hx⟩
    · have h1 := List.length_filter_le (inR (scanC fr to_)) (L.take i)
      rw [List.length_take] at h1
      show (List.filter (inR (scanC fr to_)) (L.take i)).length ≤ i
      omega
    · show (List.filter (inR (scanC fr to_)) (L.take (i + 1))).length = _
      rw [filter_snoc _ L i x hx]
      split
      · rw [List.length_append]; rfl
      · rfl
  have HIN : Hid (∀ x, inR (scanC fr to_) x = (!Op.bytesLess x.k.toList fr.toList && (to_.toList.isEmpty || Op.bytesLess x.k.toList to_.toList))) := fun x => rfl
  have HAP : Hid (∀ w2, Shv w2 A n c B m d L Q → Fit L Q [] → goodN (scanC fr to_) [] = 0 → Calls Try.prog 18 #[.agg #[.slice A n c, .slice B m d], .agg #[.int .i64 6, .string fr, .string ⟨#[]⟩, .string to_, .slice none 0 0]] w2 (AppS w2 L Q 0 false ⟨#[]⟩ M [])) := fun w2 h hf hg => by
    obtain ⟨q1, q2, q3, q4, q5, q6⟩ := ap_good hg rfl L Q
    exact app_as h (by have := hf.1; omega) (by have := hf.2.1; omega) (scanC fr to_) [] (grp_none w2 _ rfl rfl) q1 q2 hg q3 q4 (q5.trans hM) q6
  have HSM : Hid (∀ w2 A n c B m d A2 n2 c2 B2 m2 d2, Shv w2 A n c B m d L Q → Shv w2 A2 n2 c2 B2 m2 d2 L Q → Calls Try.prog 23 #[.agg #[.slice A n c, .slice B m d], .agg #[.slice A2 n2 c2, .slice B2 m2 d2]] w2 fun e w' => e = .returned (.bool true) ∧ Below w2.heap.size w2 w') := fun w2 A n c B m d A2 n2 c2 B2 m2 d2 h k => sames_any h k
  have HAW := Lib.hid awake15_any
  have HZS := Lib.hid zero_shelf
  have HZA := Lib.hid zero_answer
  have HZC := Lib.hid zero_call
  have HZP := Lib.hid zero_pair
  have HLN : Hid (L.length = n) := hL.1
  have HML : Hid (M.length ≤ L.length) := by rw [← hM]; exact List.length_filter_le _ _
  have hgu := guard_pair
  rw [hg]
  clear hL hQ hM hF
  obtain ⟨p0, p1⟩ := cells2 HS1.out
  go_enter Try.func8, Try.ntmps8
  obtain ⟨g9, hg9⟩ : ∃ z, w1.heap.size = z := ⟨_, rfl⟩
  have HGg9 := Lib.hid hg9
  have HLp9 : Hid (g < g9) := hg9 ▸ lt_of_heap HS1.out
  clear hg9
  clear p0 p1
  go_wp2_with (first
    | ((with_reducible show wpList _ _ _ (⟨some 7, .alloc _, _, _, _, _⟩ :: _) _ _); refine wpList_alloc_var (o := ⟨some 7, _, _, _, _, _⟩) rfl 24 rfl g9 HGg9.out _ HZC.out ?_; intro xa9 XA9 CA9)
    | ((with_reducible show wpList _ _ _ (⟨none, .store _ (.tmp 7) _, _, _, _, _⟩ :: _) _ _); refine wpList_store_whole (o := ⟨none, .store 24 (.tmp 7) (.tmp 15), _, _, _, _⟩) rfl _ _ _ rfl rfl g9 #[.int .i64 6, .string fr, .string ⟨#[]⟩, .string to_, .slice none 0 0] rfl rfl 24 _ XA9.out size_call rfl (onesC _ _ _ _ _ _ _) ?_; intro x9 X9 CB9; have HBX9 : Hid (Below g9 w1 x9) := CA9.out.trans CB9.out; have HP9 := Lib.hid ((HBX9.out.block g HLp9.out).trans HS1.out); obtain ⟨p0, p1⟩ := cells2 HP9.out; obtain ⟨c0, c1, c2, c3, c4⟩ := cells5 X9.out)
    | fail)
  have HB9 : Hid (Below g w x9) := HB1.out.trans (HBX9.out.mono (Nat.le_of_lt HLp9.out))
  clear hw1 hg
  refine (HLG.out x9 HB9.out).mono ?_
  clear p0 p1 c0 c1 c2 c3 c4
  rintro e w3 ⟨b, rfl, hf, hb⟩
  have HB_1 : Hid (Below g w w3) := HB9.out.trans (hb.mono (Nat.le_of_lt (lt_of_heap HP9.out)))
  have Hp_1 := Lib.hid ((hb.block g (lt_of_heap HP9.out)).trans HP9.out)
  have Hc_1 := Lib.hid ((hb.block g9 (lt_of_heap X9.out)).trans X9.out)
  clear hb
  obtain ⟨p0, p1⟩ := cells2 Hp_1.out
  obtain ⟨c0, c1, c2, c3, c4⟩ := cells5 Hc_1.out
  cases b with
  | true =>
    clear hf
    go_wp2_with fail
    refine (HAW.out w3).mono ?_
    clear p0 p1 c0 c1 c2 c3 c4
    rintro e wq1 ⟨rfl, hbq⟩
    have HB_2 : Hid (Below g w wq1) := HB_1.out.trans (hbq.mono (Nat.le_of_lt (lt_of_heap Hp_1.out)))
    have Hp_2 := Lib.hid ((hbq.block g (lt_of_heap Hp_1.out)).trans Hp_1.out)
    have Hc_2 := Lib.hid ((hbq.block g9 (lt_of_heap Hc_1.out)).trans Hc_1.out)
    clear hbq
    go_wp2
    go_ret
    exact ⟨rfl, HB_2.out⟩
  | false =>
    have HF := Lib.hid (hf rfl)
    clear hf
    go_wp2_with fail
    refine (HMY.out w3 (HSS.out w3 HB_1.out HF.out)).mono ?_
    clear p0 p1 c0 c1 c2 c3 c4
    rintro e w4 ⟨rfl, hb⟩
    have HB_3 : Hid (Below g w w4) := HB_1.out.trans (hb.mono (Nat.le_of_lt (lt_of_heap Hp_1.out)))
    have Hp_3 := Lib.hid ((hb.block g (lt_of_heap Hp_1.out)).trans Hp_1.out)
    have Hc_3 := Lib.hid ((hb.block g9 (lt_of_heap Hc_1.out)).trans Hc_1.out)
    clear hb
    obtain ⟨p0, p1⟩ := cells2 Hp_3.out
    obtain ⟨c0, c1, c2, c3, c4⟩ := cells5 Hc_3.out
    cases riseB L with
    | false =>
      go_wp2_with fail
      refine (HAW.out w4).mono ?_
      clear p0 p1 c0 c1 c2 c3 c4
      rintro e wq3 ⟨rfl, hbq⟩
      have HB_4 : Hid (Below g w wq3) := HB_3.out.trans (hbq.mono (Nat.le_of_lt (lt_of_heap Hp_3.out)))
      have Hp_4 := Lib.hid ((hbq.block g (lt_of_heap Hp_3.out)).trans Hp_3.out)
      have Hc_4 := Lib.hid ((hbq.block g9 (lt_of_heap Hc_3.out)).trans Hc_3.out)
      clear hbq
      go_wp2
      go_ret
      exact ⟨rfl, HB_4.out⟩
    | true =>
      go_wp2_with fail
      refine (HGO.out w4).mono ?_
      clear p0 p1 c0 c1 c2 c3 c4
      rintro e w5 ⟨rfl, hb⟩
      have HB_5 : Hid (Below g w w5) := HB_3.out.trans (hb.mono (Nat.le_of_lt (lt_of_heap Hp_3.out)))
      have Hp_5 := Lib.hid ((hb.block g (lt_of_heap Hp_3.out)).trans Hp_3.out)
      have Hc_5 := Lib.hid ((hb.block g9 (lt_of_heap Hc_3.out)).trans Hc_3.out)
      clear hb
      obtain ⟨p0, p1⟩ := cells2 Hp_5.out
      obtain ⟨c0, c1, c2, c3, c4⟩ := cells5 Hc_5.out
      rcases (Decidable.em (goodN (scanC fr to_) [] = 0)).symm with hgd | hgd
      · have hne : (goodN (scanC fr to_) [] != 0) = true := by simpa using hgd
        generalize goodN (scanC fr to_) [] = r at hne ⊢
        clear hgd
        go_wp2_with fail
        refine (HAW.out w5).mono ?_
        clear p0 p1 c0 c1 c2 c3 c4
        rintro e wq5 ⟨rfl, hbq⟩
        have HB_6 : Hid (Below g w wq5) := HB_5.out.trans (hbq.mono (Nat.le_of_lt (lt_of_heap Hp_5.out)))
        have Hp_6 := Lib.hid ((hbq.block g (lt_of_heap Hp_5.out)).trans Hp_5.out)
        have Hc_6 := Lib.hid ((hbq.block g9 (lt_of_heap Hc_5.out)).trans Hc_5.out)
        clear hbq
        go_wp2
        go_ret
        exact ⟨rfl, HB_6.out⟩
      have HGD := Lib.hid hgd
      rw [hgd]
      clear hgd
      go_wp2_with fail
      refine (HAP.out w5 (HSS.out w5 HB_5.out HF.out) HF.out HGD.out).mono ?_
      clear p0 p1 c0 c1 c2 c3 c4
      rintro e w7 ⟨A6, n6, e6, B6, m6, d6, A7, n7, e7, B7, m7, d7, rfl, ho, -, hM, -, hn7, -, hb⟩
      have OX := Lib.hid ho
      have OM := Lib.hid hM
      have HN7 := Lib.hid hn7
      clear ho hM hn7
      have HB_7 : Hid (Below g w w7) := HB_5.out.trans (hb.mono (Nat.le_of_lt (lt_of_heap Hp_5.out)))
      have Hp_7 := Lib.hid ((hb.block g (lt_of_heap Hp_5.out)).trans Hp_5.out)
      have Hc_7 := Lib.hid ((hb.block g9 (lt_of_heap Hc_5.out)).trans Hc_5.out)
      clear hb
      obtain ⟨p0, p1⟩ := cells2 Hp_7.out
      obtain ⟨c0, c1, c2, c3, c4⟩ := cells5 Hc_7.out
      obtain ⟨g8, hg8⟩ : ∃ z, w7.heap.size = z := ⟨_, rfl⟩
      have HGg8 := Lib.hid hg8
      clear hg8
      have HLp_8 : Hid (g < g8) := HGg8.out ▸ lt_of_heap Hp_7.out
      have HLc_8 : Hid (g9 < g8) := HGg8.out ▸ lt_of_heap Hc_7.out
      clear p0 p1 c0 c1 c2 c3 c4
      go_wp2_with (first
        | ((with_reducible show wpList _ _ _ (⟨some 8, .alloc _, _, _, _, _⟩ :: _) _ _); refine wpList_alloc_var (o := ⟨some 8, _, _, _, _, _⟩) rfl 29 rfl g8 HGg8.out _ HZS.out ?_; intro xa8 XA8 CA8; obtain ⟨h8, hh8⟩ : ∃ z, xa8.heap.size = z := ⟨_, rfl⟩; have HGh8 := Lib.hid hh8; have HL8 : Hid (g8 < h8) := (by rw [← hh8]; exact lt_of_heap XA8.out); clear hh8)
        | ((with_reducible show wpList _ _ _ (⟨some 9, .alloc _, _, _, _, _⟩ :: _) _ _); refine wpList_alloc_var (o := ⟨some 9, _, _, _, _, _⟩) rfl 40 rfl h8 HGh8.out _ HZA.out ?_; intro xb8 XB8 CB8; have XAB8 := Lib.hid ((CB8.out.block g8 HL8.out).trans XA8.out))
        | ((with_reducible show wpList _ _ _ (⟨none, .store _ (.tmp 8) _, _, _, _, _⟩ :: _) _ _); refine wpList_store_only (o := ⟨none, .store 29 (.tmp 8) (.tmp 34), _, _, _, _⟩) rfl _ _ _ rfl rfl g8 #[.slice A6 n6 e6, .slice B6 m6 d6] rfl rfl 29 _ XAB8.out size_shelf rfl (onesV _ _ _ _ _ _) ?_; intro xc8 XC8 TC8; have XBC8 := Lib.hid ((TC8.out.block h8 (fun e => Nat.lt_irrefl _ (e ▸ HL8.out)) (fun e => Nat.lt_irrefl _ (e ▸ HL8.out)) (lt_of_heap XB8.out)).trans XB8.out))
        | ((with_reducible show wpList _ _ _ (⟨none, .store _ (.tmp 9) _, _, _, _, _⟩ :: _) _ _); refine wpList_store_only (o := ⟨none, .store 40 (.tmp 9) (.tmp 35), _, _, _, _⟩) rfl _ _ _ rfl rfl h8 #[.int .i64 0, .bool false, .string ⟨#[]⟩, .slice A7 n7 e7, .slice B7 m7 d7, .int .u64 0] rfl rfl 40 _ XBC8.out size_answer rfl (onesA _ _ _ _ _ _ _ _ _ _) ?_; intro x8 Y8 TD8; have X8 := Lib.hid ((TD8.out.block g8 (fun e => Nat.lt_irrefl _ (e ▸ HL8.out)) (fun e => Nat.lt_irrefl _ (e ▸ HL8.out)) (lt_of_heap XC8.out)).trans XC8.out); have HBX8 : Hid (Below g8 w7 x8) := xa_below HL8.out CA8.out CB8.out TC8.out TD8.out (lt_of_heap XA8.out); have Hp_8 := Lib.hid ((HBX8.out.block g HLp_8.out).trans Hp_7.out); have Hc_8 := Lib.hid ((HBX8.out.block g9 HLc_8.out).trans Hc_7.out); obtain ⟨p0, p1⟩ := cells2 Hp_8.out; obtain ⟨c0, c1, c2, c3, c4⟩ := cells5 Hc_8.out; obtain ⟨q0, q1⟩ := cells2 X8.out; obtain ⟨a0, a1, a2, a3, a4, a5⟩ := cells6 Y8.out)
        | fail)
      have HB_8 : Hid (Below g w x8) := HB_7.out.trans (HBX8.out.mono (Nat.le_of_lt HLp_8.out))
      have OX_8 := Lib.hid (OX.out.below (HGg8.out.symm ▸ HBX8.out))
      have OM8 := Lib.hid (own_keep (own_keep OM.out (Below.refl _ _)) (HGg8.out.symm ▸ HBX8.out))
      obtain ⟨-, _, _, ee, -, -, hrm, -, -⟩ := Rec.row_of_own OM8.out (by have := HML.out; have := HF.out.1; omega)
      cases ee
      have HRM := Lib.hid hrm
      clear hrm
      have hnb : n ≤ 60 := by have := HLN.out; have := HF.out.1; omega
      have hn7b : n7 ≤ 60 := by have := HN7.out; have := HML.out; have := HF.out.1; omega
      clear p0 p1 c0 c1 c2 c3 c4 q0 q1 a0 a1 a2 a3 a4 a5
      obtain ⟨gm, hgm⟩ : ∃ z, x8.heap.size = z := ⟨_, rfl⟩
      have HGM := Lib.hid hgm
      have HLp : Hid (g < gm) := hgm ▸ lt_of_heap Hp_8.out
      have HLa : Hid (h8 < gm) := hgm ▸ lt_of_heap Y8.out
      have HLx : Hid (g8 < gm) := hgm ▸ lt_of_heap X8.out
      clear hgm
      have HS8 := Hp_8
      have HX8 := X8
      have HA8 := Y8
      have HO8 := OX_8
      have HBW := HB_8
      go_loopg [10, 11] n (fun gk s10 s11 wx => ∃ i j : Nat, i + gk = n ∧ s11 = .int .i64 i ∧ s10 = .int .i64 j ∧ j = F i ∧ Hid (Below gm x8 wx))
      case atStart => exact ⟨0, 0, by omega, rfl, rfl, HF0.out.symm, Below.refl _ _⟩
      case round =>
        obtain ⟨i, j, hig, rfl, rfl, hj, HW⟩ := hrel
        have HSr := Lib.hid ((HW.out.block g HLp.out).trans HS8.out)
        have HAr := Lib.hid ((HW.out.block h8 HLa.out).trans HA8.out)
        have HBr : Hid (Below g w wr) := HBW.out.trans (HW.out.mono (Nat.le_of_lt HLp.out))
        have HMZ : Hid (gm ≤ wr.heap.size) := by have := HW.out.size; have := HGM.out; show _ ≤ _; omega
        obtain ⟨p0, p1⟩ := cells2 HSr.out
        obtain ⟨a0, a1, a2, a3, a4, a5⟩ := cells6 HAr.out
        cases gk with
        | zero =>
          obtain rfl : i = n := by omega
          have hii : ¬ (i : Int) < (i : Int) := by omega
          have hjn : j = n7 := by rw [hj, HFN.out, HN7.out]
          have hjj : ((j : Int) == (n7 : Int)) = true := by rw [hjn]; simp
          have HXr := Lib.hid ((HW.out.block g8 HLx.out).trans HX8.out)
          have HOr := Lib.hid (HO8.out.below (HGM.out.symm ▸ HW.out))
          obtain ⟨q0, q1⟩ := cells2 HXr.out
          clear hjn hj
          go_wp2_with fail
          refine (HSM.out wr _ _ _ _ _ _ _ _ _ _ _ _ (HOr.out.shv (by have := HF.out.1; omega) (by have := HF.out.2.1; omega)) (HSS.out wr HBr.out HF.out)).mono ?_
          clear p0 p1 q0 q1 a0 a1 a2 a3 a4 a5
          rintro e w20 ⟨rfl, hb⟩
          have HB20 : Hid (Below g w w20) := HBr.out.trans (hb.mono (Nat.le_of_lt (lt_of_heap HSr.out)))
          have HLZ : Hid (g ≤ w20.heap.size) := Nat.le_trans (Nat.le_of_lt (lt_of_heap HSr.out)) hb.size
          clear hb
          go_wp2_with fail
          refine (HAW.out w20).mono ?_
          rintro e w21 ⟨rfl, hb⟩
          have HB21 : Hid (Below g w w21) := HB20.out.trans (hb.mono HLZ.out)
          clear hb
          go_wp2
          go_ret
          exact ⟨rfl, HB21.out⟩
        | succ gk =>
          have hii : (i : Int) < (n : Int) := by omega
          have hil : i < L.length := by rw [HLN.out]; omega
          obtain ⟨x, hx⟩ : ∃ x, L[i]? = some x := ⟨_, List.getElem?_eq_getElem hil⟩
          have HX := Lib.hid hx
          obtain ⟨b1, o1, rfl, _, k0, k1⟩ := pairAt (HSS.out wr HBr.out HF.out).r1 hx
          obtain ⟨hf1, hf2, hf3⟩ := HFI.out i x hx
          obtain ⟨y, hy⟩ : ∃ y, wr.heap.size = y := ⟨_, rfl⟩
          have HY := Lib.hid hy
          have HGY : Hid (gm ≤ y) := hy ▸ HMZ.out
          have HJ := Lib.hid hj
          have hin := HIN.out x
          clear hx hy hil
          obtain ⟨kx, vx⟩ := x
          have hjb : j ≤ 60 := by have := HJ.out; omega
          cases hz1 : Op.bytesLess kx.toList fr.toList with
          | true =>
            have hin2 : inR (scanC fr to_) ⟨kx, vx⟩ = false := by rw [hin]; show (!Op.bytesLess kx.toList fr.toList && _) = false; rw [hz1]; rfl
            rw [hin2] at hf2
            have HJ2 : Hid (j = F (i + 1)) := HJ.out.trans (by rw [hf2]; rfl)
            clear hf1 hf2 hf3 hin hin2 hj
            go_wp2_with (first
              | ((with_reducible show wpList _ _ _ (⟨some 12, .alloc _, _, _, _, _⟩ :: _) _ _); refine wpList_alloc_var (o := ⟨some 12, _, _, _, _, _⟩) rfl 58 rfl y HY.out _ HZP.out ?_; intro y2 Y2 D2)
              | ((with_reducible show wpList _ _ _ (⟨none, .store _ (.tmp 12) _, _, _, _, _⟩ :: _) _ _); refine wpList_store_whole (o := ⟨none, .store 58 (.tmp 12) (.tmp 47), _, _, _, _⟩) rfl _ _ _ rfl rfl y #[.string kx, .string vx] rfl rfl 58 _ Y2.out size_pair rfl (onesP _ _) ?_; intro y3 Y3 D3; obtain ⟨v0, v1⟩ := cells2 Y3.out; have HW3 : Hid (Below gm x8 y3) := (HW.out.trans ((D2.out.trans D3.out).mono HGY.out)))
              | fail)
            go_roundg gk
            case measure => omega
            case rel => exact ⟨i + 1, j, by omega, by go_num, rfl, HJ2.out, HW3.out⟩
          | false =>
            cases hz2 : to_.toList == ([] : List UInt8) with
            | true =>
              have hin2 : inR (scanC fr to_) ⟨kx, vx⟩ = true := by
                rw [hin]; show (!Op.bytesLess kx.toList fr.toList && (to_.toList.isEmpty || _)) = true
                rw [hz1, show to_.toList = [] from by simpa using hz2]; rfl
              have hmj := hf3 hin2
              rw [hin2] at hf2
              have hz4 : to_.toList = [] := by simpa using hz2
              clear hz2
              have HMJ : Hid (M[j]? = some ⟨kx, vx⟩) := by rw [HJ.out]; exact hmj
              have HJ2 : Hid (j + 1 = F (i + 1)) := by rw [hf2, HJ.out]; rfl
              have hjn : (j : Int) < (n7 : Int) := by have := (List.getElem?_eq_some_iff.1 HMJ.out).1; have := HN7.out; omega
              have hjn2 : decide ((n7 : Int) ≤ (j : Int)) = false := decide_eq_false (by omega)
              have hjn3 : decide (n7 ≤ j) = false := decide_eq_false (by omega)
              obtain ⟨b2, o2, rfl, -, -, -⟩ := pairAt HRM.out HMJ.out
              have HRB : Hid (∀ v, Below gm x8 v → RP.Row v _ M) := fun v hv => HRM.out.below (HGM.out.symm ▸ hv)
              have hk0 : (kx.toList == kx.toList) = true := by simp
              have hk1 : (vx.toList == vx.toList) = true := by simp
              clear hf1 hf2 hf3 hin hin2 hj hmj
              go_wp2_with (first
                | ((with_reducible show wpList _ _ _ (⟨some 12, .alloc _, _, _, _, _⟩ :: _) _ _); refine wpList_alloc_var (o := ⟨some 12, _, _, _, _, _⟩) rfl 58 rfl y HY.out _ HZP.out ?_; intro y2 Y2 D2)
                | ((with_reducible show wpList _ _ _ (⟨none, .store _ (.tmp 12) _, _, _, _, _⟩ :: _) _ _); refine wpList_store_whole (o := ⟨none, .store 58 (.tmp 12) (.tmp 47), _, _, _, _⟩) rfl _ _ _ rfl rfl y #[.string kx, .string vx] rfl rfl 58 _ Y2.out size_pair rfl (onesP _ _) ?_; intro y3 Y3 D3; obtain ⟨v0, v1⟩ := cells2 Y3.out; have HW3 : Hid (Below gm x8 y3) := (HW.out.trans ((D2.out.trans D3.out).mono HGY.out)); have HA3 := Lib.hid ((HW3.out.block h8 HLa.out).trans HA8.out); obtain ⟨z0, z1, z2, z3, z4, z5⟩ := cells6 HA3.out; obtain ⟨b2, o2, e2, _, m0, m1⟩ := pairAt (HRB.out y3 HW3.out) HMJ.out; cases e2)
                | fail)
              go_quiet (fail)
              go_wp2
              go_roundg gk
              case measure => omega
              case rel => exact ⟨i + 1, j + 1, by omega, by go_num, by go_num, HJ2.out, below_drewN HW3.out nq⟩
            | false =>
              cases hz3 : Op.bytesLess kx.toList to_.toList with
              | false =>
                have hin2 : inR (scanC fr to_) ⟨kx, vx⟩ = false := by
                  rw [hin]; show (!Op.bytesLess kx.toList fr.toList && (to_.toList.isEmpty || Op.bytesLess kx.toList to_.toList)) = false
                  rw [hz1, hz3]
                  cases hl : to_.toList with
                  | nil => rw [hl] at hz2; cases hz2
                  | cons a b => rfl
                rw [hin2] at hf2
                have HJ2 : Hid (j = F (i + 1)) := HJ.out.trans (by rw [hf2]; rfl)
                clear hf1 hf2 hf3 hin hin2 hj
                go_wp2_with (first
                  | ((with_reducible show wpList _ _ _ (⟨some 12, .alloc _, _, _, _, _⟩ :: _) _ _); refine wpList_alloc_var (o := ⟨some 12, _, _, _, _, _⟩) rfl 58 rfl y HY.out _ HZP.out ?_; intro y2 Y2 D2)
                  | ((with_reducible show wpList _ _ _ (⟨none, .store _ (.tmp 12) _, _, _, _, _⟩ :: _) _ _); refine wpList_store_whole (o := ⟨none, .store 58 (.tmp 12) (.tmp 47), _, _, _, _⟩) rfl _ _ _ rfl rfl y #[.string kx, .string vx] rfl rfl 58 _ Y2.out size_pair rfl (onesP _ _) ?_; intro y3 Y3 D3; obtain ⟨v0, v1⟩ := cells2 Y3.out; have HW3 : Hid (Below gm x8 y3) := (HW.out.trans ((D2.out.trans D3.out).mono HGY.out)))
                  | fail)
                go_roundg gk
                case measure => omega
                case rel => exact ⟨i + 1, j, by omega, by go_num, rfl, HJ2.out, HW3.out⟩
              | true =>
                have hin2 : inR (scanC fr to_) ⟨kx, vx⟩ = true := by
                  rw [hin]; show (!Op.bytesLess kx.toList fr.toList && (to_.toList.isEmpty || Op.bytesLess kx.toList to_.toList)) = true
                  rw [hz1, hz3]; simp
                have hmj := hf3 hin2
                rw [hin2] at hf2
                have HMJ : Hid (M[j]? = some ⟨kx, vx⟩) := by rw [HJ.out]; exact hmj
                have HJ2 : Hid (j + 1 = F (i + 1)) := by rw [hf2, HJ.out]; rfl
                have hjn : (j : Int) < (n7 : Int) := by have := (List.getElem?_eq_some_iff.1 HMJ.out).1; have := HN7.out; omega
                have hjn2 : decide ((n7 : Int) ≤ (j : Int)) = false := decide_eq_false (by omega)
                have hjn3 : decide (n7 ≤ j) = false := decide_eq_false (by omega)
                obtain ⟨b2, o2, rfl, -, -, -⟩ := pairAt HRM.out HMJ.out
                have HRB : Hid (∀ v, Below gm x8 v → RP.Row v _ M) := fun v hv => HRM.out.below (HGM.out.symm ▸ hv)
                have hk0 : (kx.toList == kx.toList) = true := by simp
                have hk1 : (vx.toList == vx.toList) = true := by simp
                clear hf1 hf2 hf3 hin hin2 hj hmj
                go_wp2_with (first
                  | ((with_reducible show wpList _ _ _ (⟨some 12, .alloc _, _, _, _, _⟩ :: _) _ _); refine wpList_alloc_var (o := ⟨some 12, _, _, _, _, _⟩) rfl 58 rfl y HY.out _ HZP.out ?_; intro y2 Y2 D2)
                  | ((with_reducible show wpList _ _ _ (⟨none, .store _ (.tmp 12) _, _, _, _, _⟩ :: _) _ _); refine wpList_store_whole (o := ⟨none, .store 58 (.tmp 12) (.tmp 47), _, _, _, _⟩) rfl _ _ _ rfl rfl y #[.string kx, .string vx] rfl rfl 58 _ Y2.out size_pair rfl (onesP _ _) ?_; intro y3 Y3 D3; obtain ⟨v0, v1⟩ := cells2 Y3.out; have HW3 : Hid (Below gm x8 y3) := (HW.out.trans ((D2.out.trans D3.out).mono HGY.out)); have HA3 := Lib.hid ((HW3.out.block h8 HLa.out).trans HA8.out); obtain ⟨z0, z1, z2, z3, z4, z5⟩ := cells6 HA3.out; obtain ⟨b2, o2, e2, _, m0, m1⟩ := pairAt (HRB.out y3 HW3.out) HMJ.out; cases e2)
                  | fail)
                go_quiet (fail)
                go_wp2
                go_roundg gk
                case measure => omega
                case rel => exact ⟨i + 1, j + 1, by omega, by go_num, by go_num, HJ2.out, below_drewN HW3.out nq⟩

set_option maxRecDepth 100000 in
theorem lifted (os : Os) (started : os.Started) (H : Type) (enc : TypeId × Value → H) :
    ReturnsInHanded {} Try.checked os 8 .any (Rows.idealScansSpec.pre6 enc Try.prog Try.f8 Rows.idealScansRow.domain false) (Rows.idealScansSpec.post enc Try.prog Try.f8 false true false false) := by
  refine returnsInHanded_of_change (C := Try.checked) own started (by kernel_rfl) Try.func8
    (ChangeSpec.witness6 (enc := enc) (C := Try.checked) false ⟨#[], #[.agg #[.slice none 0 0, .slice none 0 0], .string ByteArray.empty, .string ByteArray.empty], []⟩ 8 (by kernel_rfl) (by kernel_rfl) (by kernel_rfl) (by kernel_rfl)) ?_
  intro W base args ds gs before hval0 hW hcnd _
  have hval : ∀ (j : Nat) t v, Try.f8.params[j]? = some t → args[j]? = some v → Value.okWide Try.prog W .any base t v := hval0
  have hW' := hW
  obtain ⟨p, q, hA0, hV, rfl, hfz, hnd⟩ := hW
  have hA : DataW.TrodAll enc Try.prog W 0 (fun _ => true) true Try.f8.params.toList args.toList ds p := hA0
  rw [Try.params8] at hA hval
  obtain ⟨v0, vs0, d0, ds0, p0, q0, hargs, rfl, rfl, h0, r0⟩ := trodAll_cons hA
  obtain ⟨v1, vs1, d1, ds1, p1, q1, rfl, rfl, rfl, h1, r1⟩ := trodAll_cons r0
  obtain ⟨v2, vs2, d2, ds2, p2, q2, rfl, rfl, rfl, h2, r2⟩ := trodAll_cons r1
  obtain ⟨rfl, rfl, rfl⟩ := trodAll_nil r2
  obtain rfl : args = #[v0, v1, v2] := by cases args; simp_all
  obtain ⟨rfl, rfl⟩ := trodVars_none hV
  obtain ⟨A0, n0, c0, B0, m0, e0, rfl, L0, Q0, w0, u0⟩ := isShelf_of (hval 0 29 v0 rfl rfl) h0
  have k0 := h0
  have lt0 : ∀ x ∈ p0, x.block < W.heap.size := by obtain ⟨m, hm⟩ := k0; exact DataW.trod_lt m _ _ _ hm
  obtain ⟨a1, rfl, rfl, rfl, w1⟩ := open_string Try.underlying9 (hval 1 9 v1 rfl rfl) h1
  obtain ⟨a2, rfl, rfl, rfl, w2⟩ := open_string Try.underlying9 (hval 2 9 v2 rfl rfl) h2
  clear hA0 hval0
  refine (walk A0 n0 c0 B0 m0 e0 L0 Q0 a1 a2 W w0 u0 w1 w2).mono fun e W' ⟨he, bel⟩ => ?_
  subst he
  exact ⟨_, rfl, _, _, _, [], _, [], hW', trodAll_mk1 (shut_bool Try.underlying4 _), (trodAll_cons_mk (Below.trod laidOut (by kernel_rfl) (of_decide_eq_true (by kernel_rfl)) k0 bel lt0) (trodAll_cons_mk (shut_string Try.underlying9 w1) (trodAll_cons_mk (shut_string Try.underlying9 w2) trodAll_mk0))), rfl, bel.frame _, fun h => by cases h⟩

theorem over : Rows.idealScansRow.holds Try.pinned (OpenSpec.ofChange Rows.idealScansSpec) :=
  OpenClaim.holds_of_wide 8 Try.f8 rfl rfl rfl rfl rfl rfl rfl ⟨rfl, rfl, rfl, rfl, rfl⟩ rfl rfl rfl rfl rfl (by kernel_rfl) Try.func8 (by kernel_rfl)
    (of_decide_eq_true (by kernel_rfl)) (by unfold Func.isWrapper; first | (rw [if_pos (by decide +kernel)]; kernel_rfl) | (rw [if_neg (by decide +kernel)]; exact ⟨rfl, rfl⟩))
    (fun os started H enc _ => lifted os started H enc)

theorem proved : Rows.IdealScansSaid := over
#print axioms proved
end Go.Proofs.Ytimpigponjkfkaa.idealScans
