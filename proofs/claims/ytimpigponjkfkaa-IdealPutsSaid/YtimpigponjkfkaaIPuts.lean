/-
Proved here: IdealPuts.
  Conditions: none.
-/
import Derived.Test.YtimpigponjkfkaaRows
import Derived.Test.YtimpigponjkfkaaKvMath15
import Derived.IntWalk
import Derived.WalkSmall
import Derived.Deep.QuietTactic
import Derived.BigQuiet
import Derived.WalkKit
import Derived.ProofKit
import Derived.OpenShut
import Derived.ShutString
import Derived.ChangeOld
import Derived.Below
namespace Go.Proofs.Ytimpigponjkfkaa.idealPuts
open Go.ChangeShapes Go.WideShapes Go.ChangeAt Go.RowKit
open Go.ChangeMaps (open_string shut_string)
set_option linter.unusedVariables false

theorem own : ownKnob Try.prog.godebug = none := by kernel_rfl
theorem laidOut : laidOutB Try.prog = true := by kernel_rfl

set_option maxRecDepth 100000 in
set_option maxHeartbeats 6400000 in
theorem walk (A : Option Addr) (n c : Nat) (B : Option Addr) (m d : Nat) (L : List Kv) (Q : List ByteArray) (key value other : ByteArray) (w : World) (hL : RP.Is w A n c L) (hQ : RS.Is w B m d Q) (_ : key.size ≤ maxLen) (_ : value.size ≤ maxLen) (_ : other.size ≤ maxLen) :
    Calls Try.prog 9 #[.agg #[.slice A n c, .slice B m d], .string key, .string value, .string other] w fun e w' => e = .returned (.bool true) ∧ Below w.heap.size w w' := by
  obtain ⟨g, hg⟩ : ∃ g, w.heap.size = g := ⟨_, rfl⟩
  obtain ⟨w1, hw1⟩ : ∃ w1, w.alloc (.cells #[.slice A n c, .slice B m d] 29) = w1 := ⟨_, rfl⟩
  have HS1 : Hid (w1.heap[g]? = some (.cells #[.slice A n c, .slice B m d] 29 (0, 0))) := by rw [← hw1, ← hg]; exact heap_alloc_new w _
  have HB1 : Hid (Below g w w1) := by rw [← hw1, ← hg]; exact (Below.refl _ _).alloc (Nat.le_refl _) _
  have HPU : Hid (∀ w2, Calls Try.prog 32 #[.string key, .string value] w2 fun e w' => e = .returned (.agg #[.int .i64 2, .string key, .string value, .string ⟨#[]⟩, .slice none 0 0]) ∧ Below w2.heap.size w2 w') := fun w2 => put_any key value w2
  have HLG : Hid (∀ w2, Below g w w2 → Calls Try.prog 12 #[.agg #[.slice A n c, .slice B m d], .agg #[.int .i64 2, .string key, .string value, .string ⟨#[]⟩, .slice none 0 0]] w2 (LargeTo w2 L Q [])) := fun w2 hb => large_any w2 A B n c m d L Q (putC key value) [] (hL.below (hg.symm ▸ hb)) (hQ.below (hg.symm ▸ hb)) (RC.is_nil _)
  have HSS : Hid (∀ w2, Below g w w2 → Fit L Q [] → Shv w2 A n c B m d L Q) := fun w2 hb hf => (hf.shv hL hQ).below (hg.symm ▸ hb)
  have HMY : Hid (∀ w2, Shv w2 A n c B m d L Q → Calls Try.prog 25 #[.agg #[.slice A n c, .slice B m d]] w2 fun e w' => e = .returned (.bool (riseB L)) ∧ Below w2.heap.size w2 w') := fun w2 h => may_any h
  have HGO : Hid (∀ w2, Calls Try.prog 15 #[.agg #[.int .i64 2, .string key, .string value, .string ⟨#[]⟩, .slice none 0 0]] w2 fun e w' => e = .returned (.int .i64 (goodN (putC key value) [])) ∧ Below w2.heap.size w2 w') := fun w2 => good_any (putC key value) [] w2 (grp_none w2 _ rfl rfl)
  have HGE : Hid (∀ w2 A n c B m d L Q k, Shv w2 A n c B m d L Q → Calls Try.prog 21 #[.agg #[.slice A n c, .slice B m d], .string k] w2 fun e w' => e = .returned (.tuple #[.string (valK L k), .bool (hasK L k)]) ∧ Below w2.heap.size w2 w') := fun w2 A n c B m d L Q k h => get15_any h k
  have HAP : Hid (∀ w2, Shv w2 A n c B m d L Q → Fit L Q [] → goodN (putC key value) [] = 0 → Calls Try.prog 18 #[.agg #[.slice A n c, .slice B m d], .agg #[.int .i64 2, .string key, .string value, .string ⟨#[]⟩, .slice none 0 0]] w2 (AppS w2 (setK L key value) Q 0 (hasK L key) ⟨#[]⟩ [] [])) := fun w2 h hf hg => by
    obtain ⟨q1, q2, q3, q4, q5, q6⟩ := ap_good hg rfl L Q
    exact app_as h (by have := hf.1; omega) (by have := hf.2.1; omega) (putC key value) [] (grp_none w2 _ rfl rfl) q1 q2 hg q3 q4 q5 q6
  have HDL : Hid (∀ w2 A n c B m d, Shv w2 A n c B m d (setK L key value) Q → Fit L Q [] → goodN (putC key value) [] = 0 → Calls Try.prog 18 #[.agg #[.slice A n c, .slice B m d], .agg #[.int .i64 3, .string key, .string ⟨#[]⟩, .string ⟨#[]⟩, .slice none 0 0]] w2 (AppS w2 (delK (setK L key value) key) Q 0 (hasK (setK L key value) key) ⟨#[]⟩ [] [])) := fun w2 A n c B m d h hf hg => by
    obtain ⟨q1, q2, q3, q4, q5, q6⟩ := ap_good (good_put_del hg) rfl (setK L key value) Q
    exact app_as h (by have := hf.1; have := setK_len L key value; omega) (by have := hf.2.1; omega) (delC key) [] (grp_none w2 _ rfl rfl) q1 q2 (good_put_del hg) q3 q4 q5 q6
  have HLM : Hid (Fit L Q [] → (setK L key value).length ≤ 1048576 ∧ (delK (setK L key value) key).length ≤ 1048576 ∧ Q.length ≤ 1048576) := fun hf => by
    have h1 := setK_len L key value
    have h2 : (delK (setK L key value) key).length ≤ (setK L key value).length := List.length_filter_le _ _
    have := hf.1; have := hf.2.1
    exact ⟨by omega, by omega, by omega⟩
  have HAW := Lib.hid awake15_any
  have HZS := Lib.hid zero_shelf
  have HZA := Lib.hid zero_answer
  have HZC := Lib.hid zero_call
  rw [hg]
  clear hL hQ
  obtain ⟨p0, p1⟩ := cells2 HS1.out
  go_enter Try.func9, Try.ntmps9
  go_wp2_with fail
  refine (HPU.out w1).mono ?_
  clear p0 p1
  rintro e w2 ⟨rfl, hb⟩
  have HB_1 : Hid (Below g w w2) := HB1.out.trans (hb.mono (Nat.le_of_lt (lt_of_heap HS1.out)))
  have Hp_1 := Lib.hid ((hb.block g (lt_of_heap HS1.out)).trans HS1.out)
  clear hb
  clear hw1 hg
  obtain ⟨g9, hg9⟩ : ∃ z, w2.heap.size = z := ⟨_, rfl⟩
  have HGg9 := Lib.hid hg9
  have HLp9 : Hid (g < g9) := hg9 ▸ lt_of_heap Hp_1.out
  clear hg9
  go_wp2_with (first
    | ((with_reducible show wpList _ _ _ (⟨some 9, .alloc _, _, _, _, _⟩ :: _) _ _); refine wpList_alloc_var (o := ⟨some 9, _, _, _, _, _⟩) rfl 24 rfl g9 HGg9.out _ HZC.out ?_; intro xa9 XA9 CA9)
    | ((with_reducible show wpList _ _ _ (⟨none, .store _ (.tmp 9) _, _, _, _, _⟩ :: _) _ _); refine wpList_store_whole (o := ⟨none, .store 24 (.tmp 9) (.tmp 29), _, _, _, _⟩) rfl _ _ _ rfl rfl g9 #[.int .i64 2, .string key, .string value, .string ⟨#[]⟩, .slice none 0 0] rfl rfl 24 _ XA9.out size_call rfl (onesC _ _ _ _ _ _ _) ?_; intro x9 X9 CB9; have HBX9 : Hid (Below g9 w2 x9) := CA9.out.trans CB9.out; have HP9 := Lib.hid ((HBX9.out.block g HLp9.out).trans Hp_1.out); obtain ⟨p0, p1⟩ := cells2 HP9.out; obtain ⟨c0, c1, c2, c3, c4⟩ := cells5 X9.out)
    | fail)
  have HB9 : Hid (Below g w x9) := HB_1.out.trans (HBX9.out.mono (Nat.le_of_lt HLp9.out))
  refine (HLG.out x9 HB9.out).mono ?_
  clear p0 p1 c0 c1 c2 c3 c4
  rintro e w3 ⟨b, rfl, hf, hb⟩
  have HB_2 : Hid (Below g w w3) := HB9.out.trans (hb.mono (Nat.le_of_lt (lt_of_heap HP9.out)))
  have Hp_2 := Lib.hid ((hb.block g (lt_of_heap HP9.out)).trans HP9.out)
  have Hc_2 := Lib.hid ((hb.block g9 (lt_of_heap X9.out)).trans X9.out)
  clear hb
  obtain ⟨p0, p1⟩ := cells2 Hp_2.out
  obtain ⟨c0, c1, c2, c3, c4⟩ := cells5 Hc_2.out
  cases b with
  | true =>
    clear hf
    go_wp2_with fail
    refine (HAW.out w3).mono ?_
    clear p0 p1 c0 c1 c2 c3 c4
    rintro e wq2 ⟨rfl, hbq⟩
    have HB_3 : Hid (Below g w wq2) := HB_2.out.trans (hbq.mono (Nat.le_of_lt (lt_of_heap Hp_2.out)))
    have Hp_3 := Lib.hid ((hbq.block g (lt_of_heap Hp_2.out)).trans Hp_2.out)
    have Hc_3 := Lib.hid ((hbq.block g9 (lt_of_heap Hc_2.out)).trans Hc_2.out)
    clear hbq
    go_wp2
    go_ret
    exact ⟨rfl, HB_3.out⟩
  | false =>
    have HF := Lib.hid (hf rfl)
    clear hf
    cases hz : decide ((1000 : Int) < (other.size : Int)) with
    | true =>
      go_wp2_with fail
      refine (HAW.out w3).mono ?_
      clear p0 p1 c0 c1 c2 c3 c4
      rintro e wq3 ⟨rfl, hbq⟩
      have HB_4 : Hid (Below g w wq3) := HB_2.out.trans (hbq.mono (Nat.le_of_lt (lt_of_heap Hp_2.out)))
      have Hp_4 := Lib.hid ((hbq.block g (lt_of_heap Hp_2.out)).trans Hp_2.out)
      have Hc_4 := Lib.hid ((hbq.block g9 (lt_of_heap Hc_2.out)).trans Hc_2.out)
      clear hbq
      go_wp2
      go_ret
      exact ⟨rfl, HB_4.out⟩
    | false =>
      go_wp2_with fail
      refine (HMY.out w3 (HSS.out w3 HB_2.out HF.out)).mono ?_
      clear p0 p1 c0 c1 c2 c3 c4
      rintro e w4 ⟨rfl, hb⟩
      clear hz
      have HB_5 : Hid (Below g w w4) := HB_2.out.trans (hb.mono (Nat.le_of_lt (lt_of_heap Hp_2.out)))
      have Hp_5 := Lib.hid ((hb.block g (lt_of_heap Hp_2.out)).trans Hp_2.out)
      have Hc_5 := Lib.hid ((hb.block g9 (lt_of_heap Hc_2.out)).trans Hc_2.out)
      clear hb
      obtain ⟨p0, p1⟩ := cells2 Hp_5.out
      obtain ⟨c0, c1, c2, c3, c4⟩ := cells5 Hc_5.out
      cases riseB L with
      | false =>
        go_wp2_with fail
        refine (HAW.out w4).mono ?_
        clear p0 p1 c0 c1 c2 c3 c4
        rintro e wq5 ⟨rfl, hbq⟩
        have HB_6 : Hid (Below g w wq5) := HB_5.out.trans (hbq.mono (Nat.le_of_lt (lt_of_heap Hp_5.out)))
        have Hp_6 := Lib.hid ((hbq.block g (lt_of_heap Hp_5.out)).trans Hp_5.out)
        have Hc_6 := Lib.hid ((hbq.block g9 (lt_of_heap Hc_5.out)).trans Hc_5.out)
        clear hbq
        go_wp2
        go_ret
        exact ⟨rfl, HB_6.out⟩
      | true =>
        go_wp2_with fail
        refine (HGO.out w4).mono ?_
        clear p0 p1 c0 c1 c2 c3 c4
        rintro e w5 ⟨rfl, hb⟩
        have HB_7 : Hid (Below g w w5) := HB_5.out.trans (hb.mono (Nat.le_of_lt (lt_of_heap Hp_5.out)))
        have Hp_7 := Lib.hid ((hb.block g (lt_of_heap Hp_5.out)).trans Hp_5.out)
        have Hc_7 := Lib.hid ((hb.block g9 (lt_of_heap Hc_5.out)).trans Hc_5.out)
        clear hb
        obtain ⟨p0, p1⟩ := cells2 Hp_7.out
        obtain ⟨c0, c1, c2, c3, c4⟩ := cells5 Hc_7.out
        rcases (Decidable.em (goodN (putC key value) [] = 0)).symm with hgd | hgd
        · have hne : (goodN (putC key value) [] != 0) = true := by simpa using hgd
          generalize goodN (putC key value) [] = r at hne ⊢
          clear hgd
          go_wp2_with fail
          refine (HAW.out w5).mono ?_
          clear p0 p1 c0 c1 c2 c3 c4
          rintro e wq7 ⟨rfl, hbq⟩
          have HB_8 : Hid (Below g w wq7) := HB_7.out.trans (hbq.mono (Nat.le_of_lt (lt_of_heap Hp_7.out)))
          have Hp_8 := Lib.hid ((hbq.block g (lt_of_heap Hp_7.out)).trans Hp_7.out)
          have Hc_8 := Lib.hid ((hbq.block g9 (lt_of_heap Hc_7.out)).trans Hc_7.out)
          clear hbq
          go_wp2
          go_ret
          exact ⟨rfl, HB_8.out⟩
        have HGD := Lib.hid hgd
        rw [hgd]
        clear hgd
        go_wp2_with fail
        refine (HGE.out w5 _ _ _ _ _ _ _ _ other (HSS.out w5 HB_7.out HF.out)).mono ?_
        clear p0 p1 c0 c1 c2 c3 c4
        rintro e w6 ⟨rfl, hb⟩
        have HB_9 : Hid (Below g w w6) := HB_7.out.trans (hb.mono (Nat.le_of_lt (lt_of_heap Hp_7.out)))
        have Hp_9 := Lib.hid ((hb.block g (lt_of_heap Hp_7.out)).trans Hp_7.out)
        have Hc_9 := Lib.hid ((hb.block g9 (lt_of_heap Hc_7.out)).trans Hc_7.out)
        clear hb
        obtain ⟨p0, p1⟩ := cells2 Hp_9.out
        obtain ⟨c0, c1, c2, c3, c4⟩ := cells5 Hc_9.out
        go_wp2_with fail
        refine (HAP.out w6 (HSS.out w6 HB_9.out HF.out) HF.out HGD.out).mono ?_
        clear p0 p1 c0 c1 c2 c3 c4
        rintro e w7 ⟨A6, n6, e6, B6, m6, d6, A7, n7, e7, B7, m7, d7, rfl, ho, -, -, -, -, -, hb⟩
        have OX := Lib.hid ho
        clear ho
        have HB_10 : Hid (Below g w w7) := HB_9.out.trans (hb.mono (Nat.le_of_lt (lt_of_heap Hp_9.out)))
        have Hp_10 := Lib.hid ((hb.block g (lt_of_heap Hp_9.out)).trans Hp_9.out)
        have Hc_10 := Lib.hid ((hb.block g9 (lt_of_heap Hc_9.out)).trans Hc_9.out)
        clear hb
        obtain ⟨p0, p1⟩ := cells2 Hp_10.out
        obtain ⟨c0, c1, c2, c3, c4⟩ := cells5 Hc_10.out
        obtain ⟨g12, hg12⟩ : ∃ z, w7.heap.size = z := ⟨_, rfl⟩
        have HGg12 := Lib.hid hg12
        clear hg12
        have HLp_12 : Hid (g < g12) := HGg12.out ▸ lt_of_heap Hp_10.out
        have HLc_12 : Hid (g9 < g12) := HGg12.out ▸ lt_of_heap Hc_10.out
        clear p0 p1 c0 c1 c2 c3 c4
        go_wp2_with (first
          | ((with_reducible show wpList _ _ _ (⟨some 12, .alloc _, _, _, _, _⟩ :: _) _ _); refine wpList_alloc_var (o := ⟨some 12, _, _, _, _, _⟩) rfl 29 rfl g12 HGg12.out _ HZS.out ?_; intro xa12 XA12 CA12; obtain ⟨h12, hh12⟩ : ∃ z, xa12.heap.size = z := ⟨_, rfl⟩; have HGh12 := Lib.hid hh12; have HL12 : Hid (g12 < h12) := (by rw [← hh12]; exact lt_of_heap XA12.out); clear hh12)
          | ((with_reducible show wpList _ _ _ (⟨some 13, .alloc _, _, _, _, _⟩ :: _) _ _); refine wpList_alloc_var (o := ⟨some 13, _, _, _, _, _⟩) rfl 40 rfl h12 HGh12.out _ HZA.out ?_; intro xb12 XB12 CB12; have XAB12 := Lib.hid ((CB12.out.block g12 HL12.out).trans XA12.out))
          | ((with_reducible show wpList _ _ _ (⟨none, .store _ (.tmp 12) _, _, _, _, _⟩ :: _) _ _); refine wpList_store_only (o := ⟨none, .store 29 (.tmp 12) (.tmp 59), _, _, _, _⟩) rfl _ _ _ rfl rfl g12 #[.slice A6 n6 e6, .slice B6 m6 d6] rfl rfl 29 _ XAB12.out size_shelf rfl (onesV _ _ _ _ _ _) ?_; intro xc12 XC12 TC12; have XBC12 := Lib.hid ((TC12.out.block h12 (fun e => Nat.lt_irrefl _ (e ▸ HL12.out)) (fun e => Nat.lt_irrefl _ (e ▸ HL12.out)) (lt_of_heap XB12.out)).trans XB12.out))
          | ((with_reducible show wpList _ _ _ (⟨none, .store _ (.tmp 13) _, _, _, _, _⟩ :: _) _ _); refine wpList_store_only (o := ⟨none, .store 40 (.tmp 13) (.tmp 60), _, _, _, _⟩) rfl _ _ _ rfl rfl h12 #[.int .i64 0, .bool (hasK L key), .string ⟨#[]⟩, .slice A7 n7 e7, .slice B7 m7 d7, .int .u64 0] rfl rfl 40 _ XBC12.out size_answer rfl (onesA _ _ _ _ _ _ _ _ _ _) ?_; intro x12 Y12 TD12; have X12 := Lib.hid ((TD12.out.block g12 (fun e => Nat.lt_irrefl _ (e ▸ HL12.out)) (fun e => Nat.lt_irrefl _ (e ▸ HL12.out)) (lt_of_heap XC12.out)).trans XC12.out); have HBX12 : Hid (Below g12 w7 x12) := xa_below HL12.out CA12.out CB12.out TC12.out TD12.out (lt_of_heap XA12.out); have Hp_11 := Lib.hid ((HBX12.out.block g HLp_12.out).trans Hp_10.out); have Hc_11 := Lib.hid ((HBX12.out.block g9 HLc_12.out).trans Hc_10.out); obtain ⟨p0, p1⟩ := cells2 Hp_11.out; obtain ⟨c0, c1, c2, c3, c4⟩ := cells5 Hc_11.out; obtain ⟨q0, q1⟩ := cells2 X12.out; obtain ⟨a0, a1, a2, a3, a4, a5⟩ := cells6 Y12.out)
          | fail)
        have HB_11 : Hid (Below g w x12) := HB_10.out.trans (HBX12.out.mono (Nat.le_of_lt HLp_12.out))
        have OX_11 := Lib.hid (OX.out.below (HGg12.out.symm ▸ HBX12.out))
        refine (HGE.out x12 _ _ _ _ _ _ _ _ key (OX_11.out.shv (HLM.out HF.out).1 (HLM.out HF.out).2.2)).mono ?_
        clear p0 p1 c0 c1 c2 c3 c4 q0 q1 a0 a1 a2 a3 a4 a5
        rintro e w8 ⟨rfl, hb⟩
        rw [(has_set L key value).1, (has_set L key value).2]
        have HB_12 : Hid (Below g w w8) := HB_11.out.trans (hb.mono (Nat.le_of_lt (lt_of_heap Hp_11.out)))
        have Hp_12 := Lib.hid ((hb.block g (lt_of_heap Hp_11.out)).trans Hp_11.out)
        have Hc_12 := Lib.hid ((hb.block g9 (lt_of_heap Hc_11.out)).trans Hc_11.out)
        have Hq_12 := Lib.hid ((hb.block g12 (lt_of_heap X12.out)).trans X12.out)
        have Ha_12 := Lib.hid ((hb.block h12 (lt_of_heap Y12.out)).trans Y12.out)
        have OX_12 := Lib.hid (OX_11.out.below hb)
        clear hb
        obtain ⟨p0, p1⟩ := cells2 Hp_12.out
        obtain ⟨c0, c1, c2, c3, c4⟩ := cells5 Hc_12.out
        obtain ⟨q0, q1⟩ := cells2 Hq_12.out
        obtain ⟨a0, a1, a2, a3, a4, a5⟩ := cells6 Ha_12.out
        go_wp2_with fail
        refine (HGE.out w8 _ _ _ _ _ _ _ _ other (OX_12.out.shv (HLM.out HF.out).1 (HLM.out HF.out).2.2)).mono ?_
        clear p0 p1 c0 c1 c2 c3 c4 q0 q1 a0 a1 a2 a3 a4 a5
        rintro e w9 ⟨rfl, hb⟩
        have HB_13 : Hid (Below g w w9) := HB_12.out.trans (hb.mono (Nat.le_of_lt (lt_of_heap Hp_12.out)))
        have Hp_13 := Lib.hid ((hb.block g (lt_of_heap Hp_12.out)).trans Hp_12.out)
        have Hc_13 := Lib.hid ((hb.block g9 (lt_of_heap Hc_12.out)).trans Hc_12.out)
        have Hq_13 := Lib.hid ((hb.block g12 (lt_of_heap Hq_12.out)).trans Hq_12.out)
        have Ha_13 := Lib.hid ((hb.block h12 (lt_of_heap Ha_12.out)).trans Ha_12.out)
        have OX_13 := Lib.hid (OX_12.out.below hb)
        clear hb
        obtain ⟨p0, p1⟩ := cells2 Hp_13.out
        obtain ⟨c0, c1, c2, c3, c4⟩ := cells5 Hc_13.out
        obtain ⟨q0, q1⟩ := cells2 Hq_13.out
        obtain ⟨a0, a1, a2, a3, a4, a5⟩ := cells6 Ha_13.out
        go_wp2_with fail
        refine (HDL.out w9 _ _ _ _ _ _ (OX_13.out.shv (HLM.out HF.out).1 (HLM.out HF.out).2.2) HF.out HGD.out).mono ?_
        clear p0 p1 c0 c1 c2 c3 c4 q0 q1 a0 a1 a2 a3 a4 a5
        rintro e w10 ⟨A8, n8, e8, B8, m8, d8, A9, n9, e9, B9, m9, d9, rfl, ho, -, -, -, -, -, hb⟩
        rw [(has_set L key value).1]
        have OY := Lib.hid ho
        clear ho
        have HB_14 : Hid (Below g w w10) := HB_13.out.trans (hb.mono (Nat.le_of_lt (lt_of_heap Hp_13.out)))
        have Hp_14 := Lib.hid ((hb.block g (lt_of_heap Hp_13.out)).trans Hp_13.out)
        have Hc_14 := Lib.hid ((hb.block g9 (lt_of_heap Hc_13.out)).trans Hc_13.out)
        have Hq_14 := Lib.hid ((hb.block g12 (lt_of_heap Hq_13.out)).trans Hq_13.out)
        have Ha_14 := Lib.hid ((hb.block h12 (lt_of_heap Ha_13.out)).trans Ha_13.out)
        have OX_14 := Lib.hid (OX_13.out.below hb)
        clear hb
        obtain ⟨p0, p1⟩ := cells2 Hp_14.out
        obtain ⟨c0, c1, c2, c3, c4⟩ := cells5 Hc_14.out
        obtain ⟨q0, q1⟩ := cells2 Hq_14.out
        obtain ⟨a0, a1, a2, a3, a4, a5⟩ := cells6 Ha_14.out
        obtain ⟨g18, hg18⟩ : ∃ z, w10.heap.size = z := ⟨_, rfl⟩
        have HGg18 := Lib.hid hg18
        clear hg18
        have HLp_18 : Hid (g < g18) := HGg18.out ▸ lt_of_heap Hp_14.out
        have HLc_18 : Hid (g9 < g18) := HGg18.out ▸ lt_of_heap Hc_14.out
        have HLq_18 : Hid (g12 < g18) := HGg18.out ▸ lt_of_heap Hq_14.out
        have HLa_18 : Hid (h12 < g18) := HGg18.out ▸ lt_of_heap Ha_14.out
        clear p0 p1 c0 c1 c2 c3 c4 q0 q1 a0 a1 a2 a3 a4 a5
        go_wp2_with (first
          | ((with_reducible show wpList _ _ _ (⟨some 18, .alloc _, _, _, _, _⟩ :: _) _ _); refine wpList_alloc_var (o := ⟨some 18, _, _, _, _, _⟩) rfl 29 rfl g18 HGg18.out _ HZS.out ?_; intro xa18 XA18 CA18; obtain ⟨h18, hh18⟩ : ∃ z, xa18.heap.size = z := ⟨_, rfl⟩; have HGh18 := Lib.hid hh18; have HL18 : Hid (g18 < h18) := (by rw [← hh18]; exact lt_of_heap XA18.out); clear hh18)
          | ((with_reducible show wpList _ _ _ (⟨some 19, .alloc _, _, _, _, _⟩ :: _) _ _); refine wpList_alloc_var (o := ⟨some 19, _, _, _, _, _⟩) rfl 40 rfl h18 HGh18.out _ HZA.out ?_; intro xb18 XB18 CB18; have XAB18 := Lib.hid ((CB18.out.block g18 HL18.out).trans XA18.out))
          | ((with_reducible show wpList _ _ _ (⟨none, .store _ (.tmp 18) _, _, _, _, _⟩ :: _) _ _); refine wpList_store_only (o := ⟨none, .store 29 (.tmp 18) (.tmp 78), _, _, _, _⟩) rfl _ _ _ rfl rfl g18 #[.slice A8 n8 e8, .slice B8 m8 d8] rfl rfl 29 _ XAB18.out size_shelf rfl (onesV _ _ _ _ _ _) ?_; intro xc18 XC18 TC18; have XBC18 := Lib.hid ((TC18.out.block h18 (fun e => Nat.lt_irrefl _ (e ▸ HL18.out)) (fun e => Nat.lt_irrefl _ (e ▸ HL18.out)) (lt_of_heap XB18.out)).trans XB18.out))
          | ((with_reducible show wpList _ _ _ (⟨none, .store _ (.tmp 19) _, _, _, _, _⟩ :: _) _ _); refine wpList_store_only (o := ⟨none, .store 40 (.tmp 19) (.tmp 79), _, _, _, _⟩) rfl _ _ _ rfl rfl h18 #[.int .i64 0, .bool true, .string ⟨#[]⟩, .slice A9 n9 e9, .slice B9 m9 d9, .int .u64 0] rfl rfl 40 _ XBC18.out size_answer rfl (onesA _ _ _ _ _ _ _ _ _ _) ?_; intro x18 Y18 TD18; have X18 := Lib.hid ((TD18.out.block g18 (fun e => Nat.lt_irrefl _ (e ▸ HL18.out)) (fun e => Nat.lt_irrefl _ (e ▸ HL18.out)) (lt_of_heap XC18.out)).trans XC18.out); have HBX18 : Hid (Below g18 w10 x18) := xa_below HL18.out CA18.out CB18.out TC18.out TD18.out (lt_of_heap XA18.out); have Hp_15 := Lib.hid ((HBX18.out.block g HLp_18.out).trans Hp_14.out); have Hc_15 := Lib.hid ((HBX18.out.block g9 HLc_18.out).trans Hc_14.out); have Hq_15 := Lib.hid ((HBX18.out.block g12 HLq_18.out).trans Hq_14.out); have Ha_15 := Lib.hid ((HBX18.out.block h12 HLa_18.out).trans Ha_14.out); obtain ⟨p0, p1⟩ := cells2 Hp_15.out; obtain ⟨c0, c1, c2, c3, c4⟩ := cells5 Hc_15.out; obtain ⟨q0, q1⟩ := cells2 Hq_15.out; obtain ⟨a0, a1, a2, a3, a4, a5⟩ := cells6 Ha_15.out; obtain ⟨r0, r1⟩ := cells2 X18.out; obtain ⟨b0, b1, b2, b3, b4, b5⟩ := cells6 Y18.out)
          | fail)
        have HB_15 : Hid (Below g w x18) := HB_14.out.trans (HBX18.out.mono (Nat.le_of_lt HLp_18.out))
        have OY_15 := Lib.hid (OY.out.below (HGg18.out.symm ▸ HBX18.out))
        refine (HGE.out x18 _ _ _ _ _ _ _ _ key (OY_15.out.shv (HLM.out HF.out).2.1 (HLM.out HF.out).2.2)).mono ?_
        clear p0 p1 c0 c1 c2 c3 c4 q0 q1 a0 a1 a2 a3 a4 a5 r0 r1 b0 b1 b2 b3 b4 b5
        rintro e w11 ⟨rfl, hb⟩
        rw [has_del (setK L key value) key]
        have HB_16 : Hid (Below g w w11) := HB_15.out.trans (hb.mono (Nat.le_of_lt (lt_of_heap Hp_15.out)))
        have Hp_16 := Lib.hid ((hb.block g (lt_of_heap Hp_15.out)).trans Hp_15.out)
        have Hc_16 := Lib.hid ((hb.block g9 (lt_of_heap Hc_15.out)).trans Hc_15.out)
        have Hq_16 := Lib.hid ((hb.block g12 (lt_of_heap Hq_15.out)).trans Hq_15.out)
        have Ha_16 := Lib.hid ((hb.block h12 (lt_of_heap Ha_15.out)).trans Ha_15.out)
        have Hr_16 := Lib.hid ((hb.block g18 (lt_of_heap X18.out)).trans X18.out)
        have Hb_16 := Lib.hid ((hb.block h18 (lt_of_heap Y18.out)).trans Y18.out)
        have OY_16 := Lib.hid (OY_15.out.below hb)
        clear hb
        obtain ⟨p0, p1⟩ := cells2 Hp_16.out
        obtain ⟨c0, c1, c2, c3, c4⟩ := cells5 Hc_16.out
        obtain ⟨q0, q1⟩ := cells2 Hq_16.out
        obtain ⟨a0, a1, a2, a3, a4, a5⟩ := cells6 Ha_16.out
        obtain ⟨r0, r1⟩ := cells2 Hr_16.out
        obtain ⟨b0, b1, b2, b3, b4, b5⟩ := cells6 Hb_16.out
        go_wp2_with fail
        refine (HGE.out w11 _ _ _ _ _ _ _ _ other (OY_16.out.shv (HLM.out HF.out).2.1 (HLM.out HF.out).2.2)).mono ?_
        clear p0 p1 c0 c1 c2 c3 c4 q0 q1 a0 a1 a2 a3 a4 a5 r0 r1 b0 b1 b2 b3 b4 b5
        rintro e w12 ⟨rfl, hb⟩
        have HB_17 : Hid (Below g w w12) := HB_16.out.trans (hb.mono (Nat.le_of_lt (lt_of_heap Hp_16.out)))
        have Hp_17 := Lib.hid ((hb.block g (lt_of_heap Hp_16.out)).trans Hp_16.out)
        have Hc_17 := Lib.hid ((hb.block g9 (lt_of_heap Hc_16.out)).trans Hc_16.out)
        have Hq_17 := Lib.hid ((hb.block g12 (lt_of_heap Hq_16.out)).trans Hq_16.out)
        have Ha_17 := Lib.hid ((hb.block h12 (lt_of_heap Ha_16.out)).trans Ha_16.out)
        have Hr_17 := Lib.hid ((hb.block g18 (lt_of_heap Hr_16.out)).trans Hr_16.out)
        have Hb_17 := Lib.hid ((hb.block h18 (lt_of_heap Hb_16.out)).trans Hb_16.out)
        have OY_17 := Lib.hid (OY_16.out.below hb)
        clear hb
        obtain ⟨p0, p1⟩ := cells2 Hp_17.out
        obtain ⟨c0, c1, c2, c3, c4⟩ := cells5 Hc_17.out
        obtain ⟨q0, q1⟩ := cells2 Hq_17.out
        obtain ⟨a0, a1, a2, a3, a4, a5⟩ := cells6 Ha_17.out
        obtain ⟨r0, r1⟩ := cells2 Hr_17.out
        obtain ⟨b0, b1, b2, b3, b4, b5⟩ := cells6 Hb_17.out
        go_wp2_with fail
        refine (HGE.out w12 _ _ _ _ _ _ _ _ key (HSS.out w12 HB_17.out HF.out)).mono ?_
        clear p0 p1 c0 c1 c2 c3 c4 q0 q1 a0 a1 a2 a3 a4 a5 r0 r1 b0 b1 b2 b3 b4 b5
        rintro e w13 ⟨rfl, hb⟩
        have HB_18 : Hid (Below g w w13) := HB_17.out.trans (hb.mono (Nat.le_of_lt (lt_of_heap Hp_17.out)))
        have Hp_18 := Lib.hid ((hb.block g (lt_of_heap Hp_17.out)).trans Hp_17.out)
        have Hc_18 := Lib.hid ((hb.block g9 (lt_of_heap Hc_17.out)).trans Hc_17.out)
        have Hq_18 := Lib.hid ((hb.block g12 (lt_of_heap Hq_17.out)).trans Hq_17.out)
        have Ha_18 := Lib.hid ((hb.block h12 (lt_of_heap Ha_17.out)).trans Ha_17.out)
        have Hr_18 := Lib.hid ((hb.block g18 (lt_of_heap Hr_17.out)).trans Hr_17.out)
        have Hb_18 := Lib.hid ((hb.block h18 (lt_of_heap Hb_17.out)).trans Hb_17.out)
        have OY_18 := Lib.hid (OY_17.out.below hb)
        clear hb
        obtain ⟨p0, p1⟩ := cells2 Hp_18.out
        obtain ⟨c0, c1, c2, c3, c4⟩ := cells5 Hc_18.out
        obtain ⟨q0, q1⟩ := cells2 Hq_18.out
        obtain ⟨a0, a1, a2, a3, a4, a5⟩ := cells6 Ha_18.out
        obtain ⟨r0, r1⟩ := cells2 Hr_18.out
        obtain ⟨b0, b1, b2, b3, b4, b5⟩ := cells6 Hb_18.out
        have hvv : (value.toList == value.toList) = true := by simp
        generalize hasK L key = hk at *
        have hkk : (hk == hk) = true := by simp
        cases hoo : other.toList == key.toList with
        | false =>
          have hne : eqK other key = false := hoo
          rw [(has_set_ne (L := L) (v := value) hne).1, (has_set_ne (L := L) (v := value) hne).2, (has_del_ne (L := setK L key value) hne).1, (has_del_ne (L := setK L key value) hne).2, (has_set_ne (L := L) (v := value) hne).1, (has_set_ne (L := L) (v := value) hne).2]
          generalize valK L other = u at *
          generalize hasK L other = ho at *
          have huu : (u.toList == u.toList) = true := by simp
          have hhh : (ho == ho) = true := by simp
          clear hne
          go_wp2_with fail
          refine (HAW.out w13).mono ?_
          clear p0 p1 c0 c1 c2 c3 c4 q0 q1 a0 a1 a2 a3 a4 a5 r0 r1 b0 b1 b2 b3 b4 b5
          rintro e wq18 ⟨rfl, hbq⟩
          have HB_19 : Hid (Below g w wq18) := HB_18.out.trans (hbq.mono (Nat.le_of_lt (lt_of_heap Hp_18.out)))
          have Hp_19 := Lib.hid ((hbq.block g (lt_of_heap Hp_18.out)).trans Hp_18.out)
          have Hc_19 := Lib.hid ((hbq.block g9 (lt_of_heap Hc_18.out)).trans Hc_18.out)
          have Hq_19 := Lib.hid ((hbq.block g12 (lt_of_heap Hq_18.out)).trans Hq_18.out)
          have Ha_19 := Lib.hid ((hbq.block h12 (lt_of_heap Ha_18.out)).trans Ha_18.out)
          have Hr_19 := Lib.hid ((hbq.block g18 (lt_of_heap Hr_18.out)).trans Hr_18.out)
          have Hb_19 := Lib.hid ((hbq.block h18 (lt_of_heap Hb_18.out)).trans Hb_18.out)
          have OY_19 := Lib.hid (OY_18.out.below hbq)
          clear hbq
          go_wp2
          go_ret
          exact ⟨rfl, HB_19.out⟩
        | true =>
          generalize valK L other = u1 at *
          generalize hasK L other = u2 at *
          generalize valK (setK L key value) other = u3 at *
          generalize hasK (setK L key value) other = u4 at *
          generalize valK (delK (setK L key value) key) other = u5 at *
          generalize hasK (delK (setK L key value) key) other = u6 at *
          go_wp2_with fail
          refine (HAW.out w13).mono ?_
          clear p0 p1 c0 c1 c2 c3 c4 q0 q1 a0 a1 a2 a3 a4 a5 r0 r1 b0 b1 b2 b3 b4 b5
          rintro e wq19 ⟨rfl, hbq⟩
          have HB_20 : Hid (Below g w wq19) := HB_18.out.trans (hbq.mono (Nat.le_of_lt (lt_of_heap Hp_18.out)))
          have Hp_20 := Lib.hid ((hbq.block g (lt_of_heap Hp_18.out)).trans Hp_18.out)
          have Hc_20 := Lib.hid ((hbq.block g9 (lt_of_heap Hc_18.out)).trans Hc_18.out)
          have Hq_20 := Lib.hid ((hbq.block g12 (lt_of_heap Hq_18.out)).trans Hq_18.out)
          have Ha_20 := Lib.hid ((hbq.block h12 (lt_of_heap Ha_18.out)).trans Ha_18.out)
          have Hr_20 := Lib.hid ((hbq.block g18 (lt_of_heap Hr_18.out)).trans Hr_18.out)
          have Hb_20 := Lib.hid ((hbq.block h18 (lt_of_heap Hb_18.out)).trans Hb_18.out)
          have OY_20 := Lib.hid (OY_18.out.below hbq)
          clear hbq
          go_wp2
          go_ret
          exact ⟨rfl, HB_20.out⟩

set_option maxRecDepth 100000 in
theorem lifted (os : Os) (started : os.Started) (H : Type) (enc : TypeId × Value → H) :
    ReturnsInHanded {} Try.checked os 9 .any (Rows.idealPutsSpec.pre6 enc Try.prog Try.f9 Rows.idealPutsRow.domain false) (Rows.idealPutsSpec.post enc Try.prog Try.f9 false true false false) := by
  refine returnsInHanded_of_change (C := Try.checked) own started (by kernel_rfl) Try.func9
    (ChangeSpec.witness6 (enc := enc) (C := Try.checked) false ⟨#[], #[.agg #[.slice none 0 0, .slice none 0 0], .string ByteArray.empty, .string ByteArray.empty, .string ByteArray.empty], []⟩ 8 (by kernel_rfl) (by kernel_rfl) (by kernel_rfl) (by kernel_rfl)) ?_
  intro W base args ds gs before hval0 hW hcnd _
  have hval : ∀ (j : Nat) t v, Try.f9.params[j]? = some t → args[j]? = some v → Value.okWide Try.prog W .any base t v := hval0
  have hW' := hW
  obtain ⟨p, q, hA0, hV, rfl, hfz, hnd⟩ := hW
  have hA : DataW.TrodAll enc Try.prog W 0 (fun _ => true) true Try.f9.params.toList args.toList ds p := hA0
  rw [Try.params9] at hA hval
  obtain ⟨v0, vs0, d0, ds0, p0, q0, hargs, rfl, rfl, h0, r0⟩ := trodAll_cons hA
  obtain ⟨v1, vs1, d1, ds1, p1, q1, rfl, rfl, rfl, h1, r1⟩ := trodAll_cons r0
  obtain ⟨v2, vs2, d2, ds2, p2, q2, rfl, rfl, rfl, h2, r2⟩ := trodAll_cons r1
  obtain ⟨v3, vs3, d3, ds3, p3, q3, rfl, rfl, rfl, h3, r3⟩ := trodAll_cons r2
  obtain ⟨rfl, rfl, rfl⟩ := trodAll_nil r3
  obtain rfl : args = #[v0, v1, v2, v3] := by cases args; simp_all
  obtain ⟨rfl, rfl⟩ := trodVars_none hV
  obtain ⟨A0, n0, c0, B0, m0, e0, rfl, L0, Q0, w0, u0⟩ := isShelf_of (hval 0 29 v0 rfl rfl) h0
  have k0 := h0
  have lt0 : ∀ x ∈ p0, x.block < W.heap.size := by obtain ⟨m, hm⟩ := k0; exact DataW.trod_lt m _ _ _ hm
  obtain ⟨a1, rfl, rfl, rfl, w1⟩ := open_string Try.underlying9 (hval 1 9 v1 rfl rfl) h1
  obtain ⟨a2, rfl, rfl, rfl, w2⟩ := open_string Try.underlying9 (hval 2 9 v2 rfl rfl) h2
  obtain ⟨a3, rfl, rfl, rfl, w3⟩ := open_string Try.underlying9 (hval 3 9 v3 rfl rfl) h3
  clear hA0 hval0
  refine (walk A0 n0 c0 B0 m0 e0 L0 Q0 a1 a2 a3 W w0 u0 w1 w2 w3).mono fun e W' ⟨he, bel⟩ => ?_
  subst he
  exact ⟨_, rfl, _, _, _, [], _, [], hW', trodAll_mk1 (shut_bool Try.underlying4 _), (trodAll_cons_mk (Below.trod laidOut (by kernel_rfl) (of_decide_eq_true (by kernel_rfl)) k0 bel lt0) (trodAll_cons_mk (shut_string Try.underlying9 w1) (trodAll_cons_mk (shut_string Try.underlying9 w2) (trodAll_cons_mk (shut_string Try.underlying9 w3) trodAll_mk0)))), rfl, bel.frame _, fun h => by cases h⟩

theorem over : Rows.idealPutsRow.holds Try.pinned (OpenSpec.ofChange Rows.idealPutsSpec) :=
  OpenClaim.holds_of_wide 9 Try.f9 rfl rfl rfl rfl rfl rfl rfl ⟨rfl, rfl, rfl, rfl, rfl⟩ rfl rfl rfl rfl rfl (by kernel_rfl) Try.func9 (by kernel_rfl)
    (of_decide_eq_true (by kernel_rfl)) (by unfold Func.isWrapper; first | (rw [if_pos (by decide +kernel)]; kernel_rfl) | (rw [if_neg (by decide +kernel)]; exact ⟨rfl, rfl⟩))
    (fun os started H enc _ => lifted os started H enc)

theorem proved : Rows.IdealPutsSaid := over
#print axioms proved
end Go.Proofs.Ytimpigponjkfkaa.idealPuts
