/-
  Proved here: the statement IdealGroups of fuseelaw15 (P15.2): a good group does what its calls do, one behind the other, at any store and any call.
  Conditions: none.
-/
import Derived.Test.YtimpigponjkfkaaRows
import Derived.Test.YtimpigponjkfkaaAwake15
import Derived.Test.YtimpigponjkfkaaCallIn15
import Derived.Test.YtimpigponjkfkaaLarge15
import Derived.Test.YtimpigponjkfkaaSameB15
import Derived.Test.YtimpigponjkfkaaLCopy15
import Derived.Test.YtimpigponjkfkaaGot15
import Derived.Test.YtimpigponjkfkaaKvMath15
import Derived.Test.YtimpigponjkfkaaMay15
import Derived.IntWalk
import Derived.WalkSmall
import Derived.Deep.QuietTactic
import Derived.BigQuiet
import Derived.WalkKit
import Derived.ProofKit
import Derived.OpenShut
import Derived.ShutString
import Derived.ChangeOld
import Derived.Below
namespace Go.Proofs.Ytimpigponjkfkaa.idealGroups
open Go.ChangeShapes Go.WideShapes Go.ChangeAt Go.RowKit
open Go.ChangeMaps (open_string shut_string)
set_option linter.unusedVariables false

theorem own : ownKnob Try.prog.godebug = none := by kernel_rfl
theorem laidOut : laidOutB Try.prog = true := by kernel_rfl

set_option maxRecDepth 100000 in
set_option maxHeartbeats 6400000 in
theorem walk (A : Option Addr) (n k : Nat) (B : Option Addr) (m d : Nat) (L : List Kv) (Q : List ByteArray) (c : Cal) (G : List Cal) (w : World) (hL : RP.Is w A n k L) (hQ : RS.Is w B m d Q) (hG : GrpIn w c G) :
    Calls Try.prog 7 #[.agg #[.slice A n k, .slice B m d], c.agg] w fun e w' => e = .returned (.bool true) ∧ Below w.heap.size w w' := by
  unfold Cal.agg
  obtain ⟨g, hg⟩ : ∃ g, w.heap.size = g := ⟨_, rfl⟩
  obtain ⟨w0, hw0⟩ : ∃ w0, w.alloc (.cells #[.slice A n k, .slice B m d] 29) = w0 := ⟨_, rfl⟩
  have HS0 : Hid (w0.heap[g]? = some (.cells #[.slice A n k, .slice B m d] 29 (0, 0))) := by rw [← hw0, ← hg]; exact heap_alloc_new w _
  have HB0 : Hid (Below g w w0) := by rw [← hw0, ← hg]; exact (Below.refl _ _).alloc (Nat.le_refl _) _
  obtain ⟨g3, hg3⟩ : ∃ g3, w0.heap.size = g3 := ⟨_, rfl⟩
  obtain ⟨w1, hw1⟩ : ∃ w1, w0.alloc (.cells #[.int .i64 c.kd, .string c.key, .string c.val, .string c.to_, .slice c.ga c.gn c.gc] 24) = w1 := ⟨_, rfl⟩
  have HXg3 : Hid (CBox w1 g3 c) := by rw [← hw1, ← hg3]; exact heap_alloc_new w0 _
  have HBg3 : Hid (Below g3 w0 w1) := by rw [← hw1, ← hg3]; exact (Below.refl _ _).alloc (Nat.le_refl _) _
  have HGg3 : Hid (w0.heap.size = g3) := hg3
  have HLg : Hid (g < g3) := by rw [← hg3]; exact lt_of_heap HS0.out
  have HS1 : Hid (w1.heap[g]? = some (.cells #[.slice A n k, .slice B m d] 29 (0, 0))) := (HBg3.out.block g HLg.out).trans HS0.out
  have HC1 : Hid (w1.heap[g3]? = some (.cells #[.int .i64 c.kd, .string c.key, .string c.val, .string c.to_, .slice c.ga c.gn c.gc] 24 (0, 0))) := HXg3.out
  have HB1 : Hid (Below g w w1) := HB0.out.trans (HBg3.out.mono (Nat.le_of_lt HLg.out))
  have HLG : Hid (∀ w2, Below g w w2 → Calls Try.prog 12 #[.agg #[.slice A n k, .slice B m d], .agg #[.int .i64 c.kd, .string c.key, .string c.val, .string c.to_, .slice c.ga c.gn c.gc]] w2 (LargeTo w2 L Q G)) := fun w2 hb => large_any w2 A B n k m d L Q c G (hL.below (hg.symm ▸ hb)) (hQ.below (hg.symm ▸ hb)) (hG.1.below (hg.symm ▸ hb))
  have HSS : Hid (∀ w2, Below g w w2 → Fit L Q G → Shv w2 A n k B m d L Q) := fun w2 hb hf => (hf.shv hL hQ).below (hg.symm ▸ hb)
  have HGR : Hid (∀ w2, Below g w w2 → Fit L Q G → Grp w2 c G) := fun w2 hb hf => (hf.grp hG).below (hg.symm ▸ hb)
  have HFL : Hid (Fit L Q G → ∀ x ∈ G, ∀ w2, Grp w2 x []) := fun hf x hx w2 => by
    have h1 := (hf.grp hG).flat x hx
    exact grp_flat w2 h1
  have HGO : Hid (∀ w2, Grp w2 c G → Calls Try.prog 15 #[.agg #[.int .i64 c.kd, .string c.key, .string c.val, .string c.to_, .slice c.ga c.gn c.gc]] w2 fun e w' => e = .returned (.int .i64 (goodN c G)) ∧ Below w2.heap.size w2 w') := fun w2 h => good_any c G w2 h
  have HAP : Hid (∀ w2, Shv w2 A n k B m d L Q → Grp w2 c G → Fit L Q G → goodN c G = 0 → c.kd = 7 → Calls Try.prog 18 #[.agg #[.slice A n k, .slice B m d], .agg #[.int .i64 c.kd, .string c.key, .string c.val, .string c.to_, .slice c.ga c.gn c.gc]] w2 (AppS w2 (gL G L) (gQ G Q) 0 false ⟨#[]⟩ [] (hitsG G L Q))) := fun w2 h hgr hf hg h7 => by
    obtain ⟨q1, q2, q3, q4, q5, q6⟩ := ap_grp hg h7 L Q
    exact app_as h (by have := hf.1; omega) (by have := hf.2.1; omega) c G hgr q1 q2 hg q3 q4 q5 q6
  have HAM : Hid (∀ w2 A n k B m d i x, G[i]? = some x → Shv w2 A n k B m d (gL (G.take i) L) (gQ (G.take i) Q) → Fit L Q G → goodN c G = 0 → c.kd = 7 → Calls Try.prog 18 #[.agg #[.slice A n k, .slice B m d], .agg #[.int .i64 x.kd, .string x.key, .string x.val, .string x.to_, .slice x.ga x.gn x.gc]] w2 (AppS w2 (gL (G.take (i + 1)) L) (gQ (G.take (i + 1)) Q) 0 (fnd x (gL (G.take i) L) (gQ (G.take i) Q)) (vlu x (gL (G.take i) L) (gQ (G.take i) Q)) (prs x (gL (G.take i) L)) [])) := fun w2 A n k B m d i x hx h hf hg h7 => by
    have hmem := List.mem_of_getElem? hx
    obtain ⟨hgx, hx7⟩ := mem_good hg h7 hmem
    obtain ⟨q1, q2, q3, q4, q5, q6⟩ := ap_good hgx hx7 (gL (G.take i) L) (gQ (G.take i) Q)
    have h1 := gL_len (G.take i) L
    have h2 := gQ_len (G.take i) Q
    rw [List.length_take] at h1 h2
    exact app_as h (by have := hf.1; have := hf.2.2.1; omega) (by have := hf.2.1; have := hf.2.2.1; omega) x [] (grp_flat w2 ((hf.grp hG).flat x hmem)) (q1.trans (gL_succ hx).symm) (q2.trans (gQ_succ hx).symm) hgx q3 q4 q5 q6
  have HLM : Hid (∀ i, Fit L Q G → (gL (G.take i) L).length ≤ 1048576 ∧ (gQ (G.take i) Q).length ≤ 1048576) := fun i hf => by
    have h1 := gL_len (G.take i) L
    have h2 := gQ_len (G.take i) Q
    rw [List.length_take] at h1 h2
    have := hf.1; have := hf.2.1; have := hf.2.2.1
    exact ⟨by omega, by omega⟩
  have HLC : Hid (∀ w2, Shv w2 A n k B m d L Q → Calls Try.prog 17 #[.agg #[.slice A n k, .slice B m d]] w2 (LCopy w2 L Q)) := fun w2 h => lcopy_any h
  have HSM : Hid (∀ w2 A n c B m d A2 n2 c2 B2 m2 d2 L Q, Shv w2 A n c B m d L Q → Shv w2 A2 n2 c2 B2 m2 d2 L Q → Calls Try.prog 23 #[.agg #[.slice A n c, .slice B m d], .agg #[.slice A2 n2 c2, .slice B2 m2 d2]] w2 fun e w' => e = .returned (.bool true) ∧ Below w2.heap.size w2 w') := fun w2 A n c B m d A2 n2 c2 B2 m2 d2 L Q h k => sames_any h k
  have HGN : Hid (G.length = c.gn) := hG.1.1
  have HAW := Lib.hid awake15_any
  have HZS := Lib.hid zero_shelf
  have HZA := Lib.hid zero_answer
  have HZC := Lib.hid zero_call
  rw [hg]
  clear hL hQ hG HXg3
  obtain ⟨p0, p1⟩ := cells2 HS1.out
  obtain ⟨c0, c1, c2, c3, c4⟩ := cells5 HC1.out
  go_enter Try.func7, Try.ntmps7
  go_wp2_with fail
  refine (HLG.out w1 HB1.out).mono ?_
  clear p0 p1 c0 c1 c2 c3 c4
  rintro e w3 ⟨b, rfl, hf, hb⟩
  clear hw0 hw1 hg hg3
  have HB_1 : Hid (Below g w w3) := HB1.out.trans (hb.mono (Nat.le_of_lt (lt_of_heap HS1.out)))
  have Hp_1 := Lib.hid ((hb.block g (lt_of_heap HS1.out)).trans HS1.out)
  have Hc_1 := Lib.hid ((hb.block g3 (lt_of_heap HC1.out)).trans HC1.out)
  clear hb
  obtain ⟨p0, p1⟩ := cells2 Hp_1.out
  obtain ⟨c0, c1, c2, c3, c4⟩ := cells5 Hc_1.out
  cases b with
  | true =>
    clear hf
    go_wp2_with fail
    refine (HAW.out w3).mono ?_
    clear p0 p1 c0 c1 c2 c3 c4
    rintro e wq1 ⟨rfl, hbq⟩
    have HB_2 : Hid (Below g w wq1) := HB_1.out.trans (hbq.mono (Nat.le_of_lt (lt_of_heap Hp_1.out)))
    have Hp_2 := Lib.hid ((hbq.block g (lt_of_heap Hp_1.out)).trans Hp_1.out)
    have Hc_2 := Lib.hid ((hbq.block g3 (lt_of_heap Hc_1.out)).trans Hc_1.out)
    clear hbq
    go_wp2
    go_ret
    exact ⟨rfl, HB_2.out⟩
  | false =>
    have HF := Lib.hid (hf rfl)
    clear hf
    rcases (Decidable.em (c.kd = 7)).symm with h7 | h7
    · have h7n : (c.kd != 7) = true := by simpa using h7
      go_wp2_with fail
      refine (HAW.out w3).mono ?_
      clear p0 p1 c0 c1 c2 c3 c4
      rintro e wq2 ⟨rfl, hbq⟩
      have HB_3 : Hid (Below g w wq2) := HB_1.out.trans (hbq.mono (Nat.le_of_lt (lt_of_heap Hp_1.out)))
      have Hp_3 := Lib.hid ((hbq.block g (lt_of_heap Hp_1.out)).trans Hp_1.out)
      have Hc_3 := Lib.hid ((hbq.block g3 (lt_of_heap Hc_1.out)).trans Hc_1.out)
      clear hbq
      go_wp2
      go_ret
      exact ⟨rfl, HB_3.out⟩
    have H7 := Lib.hid h7
    have h7n : (c.kd != 7) = false := by simpa using h7
    clear h7
    go_wp2_with fail
    refine (HGO.out w3 (HGR.out w3 HB_1.out HF.out)).mono ?_
    clear p0 p1 c0 c1 c2 c3 c4
    rintro e w5 ⟨rfl, hb⟩
    have HB_4 : Hid (Below g w w5) := HB_1.out.trans (hb.mono (Nat.le_of_lt (lt_of_heap Hp_1.out)))
    have Hp_4 := Lib.hid ((hb.block g (lt_of_heap Hp_1.out)).trans Hp_1.out)
    have Hc_4 := Lib.hid ((hb.block g3 (lt_of_heap Hc_1.out)).trans Hc_1.out)
    clear hb
    obtain ⟨p0, p1⟩ := cells2 Hp_4.out
    obtain ⟨c0, c1, c2, c3, c4⟩ := cells5 Hc_4.out
    rcases (Decidable.em (goodN c G = 0)).symm with hgd | hgd
    · have hne : (goodN c G != 0) = true := by simpa using hgd
      generalize goodN c G = r at hne ⊢
      clear hgd
      go_wp2_with fail
      refine (HAW.out w5).mono ?_
      clear p0 p1 c0 c1 c2 c3 c4
      rintro e wq4 ⟨rfl, hbq⟩
      have HB_5 : Hid (Below g w wq4) := HB_4.out.trans (hbq.mono (Nat.le_of_lt (lt_of_heap Hp_4.out)))
      have Hp_5 := Lib.hid ((hbq.block g (lt_of_heap Hp_4.out)).trans Hp_4.out)
      have Hc_5 := Lib.hid ((hbq.block g3 (lt_of_heap Hc_4.out)).trans Hc_4.out)
      clear hbq
      go_wp2
      go_ret
      exact ⟨rfl, HB_5.out⟩
    have HGD := Lib.hid hgd
    rw [hgd]
    clear hgd
    go_wp2_with fail
    refine (HAP.out w5 (HSS.out w5 HB_4.out HF.out) (HGR.out w5 HB_4.out HF.out) HF.out HGD.out H7.out).mono ?_
    clear p0 p1 c0 c1 c2 c3 c4
    rintro e w7 ⟨A6, n6, e6, B6, m6, d6, A7, n7, e7, B7, m7, d7, rfl, ho, -, -, hM, -, hm7, hb⟩
    clear h7n
    have OX := Lib.hid ho
    have OM := Lib.hid hM
    have HM7 := Lib.hid hm7
    clear ho hM hm7
    have HB_6 : Hid (Below g w w7) := HB_4.out.trans (hb.mono (Nat.le_of_lt (lt_of_heap Hp_4.out)))
    have Hp_6 := Lib.hid ((hb.block g (lt_of_heap Hp_4.out)).trans Hp_4.out)
    have Hc_6 := Lib.hid ((hb.block g3 (lt_of_heap Hc_4.out)).trans Hc_4.out)
    clear hb
    obtain ⟨p0, p1⟩ := cells2 Hp_6.out
    obtain ⟨c0, c1, c2, c3, c4⟩ := cells5 Hc_6.out
    obtain ⟨g5, hg5⟩ : ∃ z, w7.heap.size = z := ⟨_, rfl⟩
    have HGg5 := Lib.hid hg5
    clear hg5
    have HLp_5 : Hid (g < g5) := HGg5.out ▸ lt_of_heap Hp_6.out
    have HLc_5 : Hid (g3 < g5) := HGg5.out ▸ lt_of_heap Hc_6.out
    clear p0 p1 c0 c1 c2 c3 c4
    go_wp2_with (first
      | ((with_reducible show wpList _ _ _ (⟨some 5, .alloc _, _, _, _, _⟩ :: _) _ _); refine wpList_alloc_var (o := ⟨some 5, _, _, _, _, _⟩) rfl 29 rfl g5 HGg5.out _ HZS.out ?_; intro xa5 XA5 CA5; obtain ⟨h5, hh5⟩ : ∃ z, xa5.heap.size = z := ⟨_, rfl⟩; have HGh5 := Lib.hid hh5; have HL5 : Hid (g5 < h5) := (by rw [← hh5]; exact lt_of_heap XA5.out); clear hh5)
      | ((with_reducible show wpList _ _ _ (⟨some 6, .alloc _, _, _, _, _⟩ :: _) _ _); refine wpList_alloc_var (o := ⟨some 6, _, _, _, _, _⟩) rfl 40 rfl h5 HGh5.out _ HZA.out ?_; intro xb5 XB5 CB5; have XAB5 := Lib.hid ((CB5.out.block g5 HL5.out).trans XA5.out))
      | ((with_reducible show wpList _ _ _ (⟨none, .store _ (.tmp 5) _, _, _, _, _⟩ :: _) _ _); refine wpList_store_only (o := ⟨none, .store 29 (.tmp 5) (.tmp 29), _, _, _, _⟩) rfl _ _ _ rfl rfl g5 #[.slice A6 n6 e6, .slice B6 m6 d6] rfl rfl 29 _ XAB5.out size_shelf rfl (onesV _ _ _ _ _ _) ?_; intro xc5 XC5 TC5; have XBC5 := Lib.hid ((TC5.out.block h5 (fun e => Nat.lt_irrefl _ (e ▸ HL5.out)) (fun e => Nat.lt_irrefl _ (e ▸ HL5.out)) (lt_of_heap XB5.out)).trans XB5.out))
      | ((with_reducible show wpList _ _ _ (⟨none, .store _ (.tmp 6) _, _, _, _, _⟩ :: _) _ _); refine wpList_store_only (o := ⟨none, .store 40 (.tmp 6) (.tmp 30), _, _, _, _⟩) rfl _ _ _ rfl rfl h5 #[.int .i64 0, .bool false, .string ⟨#[]⟩, .slice A7 n7 e7, .slice B7 m7 d7, .int .u64 0] rfl rfl 40 _ XBC5.out size_answer rfl (onesA _ _ _ _ _ _ _ _ _ _) ?_; intro x5 Y5 TD5; have X5 := Lib.hid ((TD5.out.block g5 (fun e => Nat.lt_irrefl _ (e ▸ HL5.out)) (fun e => Nat.lt_irrefl _ (e ▸ HL5.out)) (lt_of_heap XC5.out)).trans XC5.out); have HBX5 : Hid (Below g5 w7 x5) := xa_below HL5.out CA5.out CB5.out TC5.out TD5.out (lt_of_heap XA5.out); have Hp_7 := Lib.hid ((HBX5.out.block g HLp_5.out).trans Hp_6.out); have Hc_7 := Lib.hid ((HBX5.out.block g3 HLc_5.out).trans Hc_6.out); obtain ⟨p0, p1⟩ := cells2 Hp_7.out; obtain ⟨c0, c1, c2, c3, c4⟩ := cells5 Hc_7.out; obtain ⟨q0, q1⟩ := cells2 X5.out; obtain ⟨a0, a1, a2, a3, a4, a5⟩ := cells6 Y5.out)
      | fail)
    have HB_7 : Hid (Below g w x5) := HB_6.out.trans (HBX5.out.mono (Nat.le_of_lt HLp_5.out))
    have OX_7 := Lib.hid (OX.out.below (HGg5.out.symm ▸ HBX5.out))
    have OM5 := Lib.hid (own_keep OM.out (HGg5.out.symm ▸ HBX5.out))
    refine (HLC.out x5 (HSS.out x5 HB_7.out HF.out)).mono ?_
    clear p0 p1 c0 c1 c2 c3 c4 q0 q1 a0 a1 a2 a3 a4 a5
    rintro e w8 ⟨A8, n8, e8, B8, m8, d8, rfl, ho, hb⟩
    have HB58 := Lib.hid hb
    have OY := Lib.hid ho
    have OM8 := Lib.hid (own_keep OM5.out hb)
    clear ho
    have HB_8 : Hid (Below g w w8) := HB_7.out.trans (hb.mono (Nat.le_of_lt (lt_of_heap Hp_7.out)))
    have Hp_8 := Lib.hid ((hb.block g (lt_of_heap Hp_7.out)).trans Hp_7.out)
    have Hc_8 := Lib.hid ((hb.block g3 (lt_of_heap Hc_7.out)).trans Hc_7.out)
    have Hq_8 := Lib.hid ((hb.block g5 (lt_of_heap X5.out)).trans X5.out)
    have Ha_8 := Lib.hid ((hb.block h5 (lt_of_heap Y5.out)).trans Y5.out)
    have OX_8 := Lib.hid (OX_7.out.below hb)
    clear hb
    obtain ⟨p0, p1⟩ := cells2 Hp_8.out
    obtain ⟨c0, c1, c2, c3, c4⟩ := cells5 Hc_8.out
    obtain ⟨q0, q1⟩ := cells2 Hq_8.out
    obtain ⟨a0, a1, a2, a3, a4, a5⟩ := cells6 Ha_8.out
    clear p0 p1 c0 c1 c2 c3 c4 q0 q1 a0 a1 a2 a3 a4 a5
    obtain ⟨g7, hg7⟩ : ∃ z, w8.heap.size = z := ⟨_, rfl⟩
    have HGg7 := Lib.hid hg7
    clear hg7
    have HLp_7 : Hid (g < g7) := HGg7.out ▸ lt_of_heap Hp_8.out
    have HLc_7 : Hid (g3 < g7) := HGg7.out ▸ lt_of_heap Hc_8.out
    have HLq_7 : Hid (g5 < g7) := HGg7.out ▸ lt_of_heap Hq_8.out
    have HLa_7 : Hid (h5 < g7) := HGg7.out ▸ lt_of_heap Ha_8.out
    have hmn : ((m7 : Int) != (c.gn : Int)) = false := by
      have h1 := hits_len G L Q
      have h2 := HM7.out
      have h3 := HGN.out
      rw [show m7 = c.gn from by omega]
      simp
    go_wp2_with (first
      | ((with_reducible show wpList _ _ _ (⟨some 7, .alloc _, _, _, _, _⟩ :: _) _ _); refine wpList_alloc_var (o := ⟨some 7, _, _, _, _, _⟩) rfl 29 rfl g7 HGg7.out _ HZS.out ?_; intro xa7 XA7 CA7)
      | ((with_reducible show wpList _ _ _ (⟨none, .store _ (.tmp 7) _, _, _, _, _⟩ :: _) _ _); refine wpList_store_whole (o := ⟨none, .store 29 (.tmp 7) (.tmp 32), _, _, _, _⟩) rfl _ _ _ rfl rfl g7 #[.slice A8 n8 e8, .slice B8 m8 d8] rfl rfl 29 _ XA7.out size_shelf rfl (onesV _ _ _ _ _ _) ?_; intro x7 X7 CB7; have HBX7 : Hid (Below g7 w8 x7) := CA7.out.trans CB7.out; have HC7 := Lib.hid ((HBX7.out.block g3 HLc_7.out).trans Hc_8.out); have HA7 := Lib.hid ((HBX7.out.block h5 HLa_7.out).trans Ha_8.out); obtain ⟨c0, c1, c2, c3, c4⟩ := cells5 HC7.out; obtain ⟨a0, a1, a2, a3, a4, a5⟩ := cells6 HA7.out)
      | fail)
    have HP7 := Lib.hid ((HBX7.out.block g HLp_7.out).trans Hp_8.out)
    have HQ7 := Lib.hid ((HBX7.out.block g5 HLq_7.out).trans Hq_8.out)
    have OX7 := Lib.hid (OX_8.out.below (HGg7.out.symm ▸ HBX7.out))
    have OY7 := Lib.hid ((OY.out.below (HGg7.out.symm ▸ HBX7.out)).mono (Nat.zero_le _))
    have OM7 := Lib.hid (own_keep OM8.out (HGg7.out.symm ▸ HBX7.out))
    have HB7 : Hid (Below g w x7) := HB_8.out.trans (HBX7.out.mono (Nat.le_of_lt HLp_7.out))
    have HMN : Hid (m7 = c.gn) := by
      have h1 := hits_len G L Q
      have h2 := HM7.out
      have h3 := HGN.out
      show m7 = c.gn
      omega
    clear c0 c1 c2 c3 c4 a0 a1 a2 a3 a4 a5 hmn
    obtain ⟨-, _, _, ee, -, -, hrh, -, -⟩ := Rec.row_of_own OM.out (by have := hits_len G L Q; have := HF.out.2.2.1; omega)
    cases ee
    have HRH := Lib.hid hrh
    clear hrh
    have hgb : c.gn ≤ 20 := by have := HGN.out; have := HF.out.2.2.1; omega
    obtain ⟨gz, hgz⟩ : ∃ z, x7.heap.size = z := ⟨_, rfl⟩
    have HGZ := Lib.hid hgz
    have HLz : Hid (g7 < gz) := hgz ▸ lt_of_heap X7.out
    clear hgz
    go_loopg [8] c.gn (fun gk s8 wx => ∃ (i : Nat) (A9 : Option Addr) (n9 e9 : Nat) (B9 : Option Addr) (m9 d9 : Nat), i + gk = c.gn ∧ s8 = .int .i64 i ∧ Hid (wx.heap[g7]? = some (.cells #[.slice A9 n9 e9, .slice B9 m9 d9] 29 (0, 0))) ∧ Hid (OwnS wx 0 A9 n9 e9 B9 m9 d9 (gL (G.take i) L) (gQ (G.take i) Q)) ∧ Hid (Below g7 x7 wx) ∧ Hid (gz ≤ wx.heap.size))
    case atStart => exact ⟨0, A8, n8, e8, B8, m8, d8, by omega, rfl, X7, OY7, Below.refl _ _, Nat.le_of_eq HGZ.out.symm⟩
    case round =>
      obtain ⟨i, A9, n9, e9, B9, m9, d9, hig, rfl, HX9, HO9, HW, HWZ⟩ := hrel
      have HBr : Hid (Below g w wr) := HB7.out.trans (HW.out.mono (Nat.le_of_lt HLp_7.out))
      have HCr := Lib.hid ((HW.out.block g3 HLc_7.out).trans HC7.out)
      have HAr := Lib.hid ((HW.out.block h5 HLa_7.out).trans HA7.out)
      obtain ⟨c0, c1, c2, c3, c4⟩ := cells5 HCr.out
      obtain ⟨a0, a1, a2, a3, a4, a5⟩ := cells6 HAr.out
      obtain ⟨y0, y1⟩ := cells2 HX9.out
      have HB5r : Hid (Below g5 w7 wr) := HBX5.out.trans ((HB58.out.mono (Nat.le_of_lt (lt_of_heap X5.out))).trans ((HBX7.out.trans HW.out).mono (Nat.le_of_lt HLq_7.out)))
      cases gk with
      | zero =>
        obtain rfl : i = c.gn := by omega
        have hii : ¬ (c.gn : Int) < (c.gn : Int) := by omega
        have HOX := Lib.hid (OX.out.below (HGg5.out.symm ▸ HB5r.out))
        have HQr := Lib.hid ((HW.out.block g5 HLq_7.out).trans HQ7.out)
        have HO9' : Hid (OwnS wr 0 A9 n9 e9 B9 m9 d9 (gL G L) (gQ G Q)) := by
          have h := HO9.out
          rw [← HGN.out, List.take_length] at h
          exact h
        have HSZ : Hid ((gL G L).length ≤ 1048576 ∧ (gQ G Q).length ≤ 1048576) := by
          have h := HLM.out G.length HF.out
          rw [List.take_length] at h
          exact h
        obtain ⟨q0, q1⟩ := cells2 HQr.out
        go_wp2_with fail
        refine (HSM.out wr _ _ _ _ _ _ _ _ _ _ _ _ _ _ (HOX.out.shv HSZ.out.1 HSZ.out.2) (HO9'.out.shv HSZ.out.1 HSZ.out.2)).mono ?_
        clear y0 y1 q0 q1 c0 c1 c2 c3 c4 a0 a1 a2 a3 a4 a5
        rintro e w20 ⟨rfl, hb⟩
        have HLZ : Hid (g ≤ wr.heap.size) := Nat.le_of_lt (Nat.lt_trans HLp_7.out (lt_of_heap HX9.out))
        have HB20 : Hid (Below g w w20) := HBr.out.trans (hb.mono HLZ.out)
        have HLZ2 : Hid (g ≤ w20.heap.size) := Nat.le_trans HLZ.out hb.size
        clear hb
        go_wp2_with fail
        refine (HAW.out w20).mono ?_
        rintro e w21 ⟨rfl, hb⟩
        have HB21 : Hid (Below g w w21) := HB20.out.trans (hb.mono HLZ2.out)
        clear hb
        go_wp2
        go_ret
        exact ⟨rfl, HB21.out⟩
      | succ gk =>
        have hii : (i : Int) < (c.gn : Int) := by omega
        have hil : i < G.length := by have := HGN.out; omega
        obtain ⟨x, hx⟩ : ∃ x, G[i]? = some x := ⟨_, List.getElem?_eq_getElem hil⟩
        have HX := Lib.hid hx
        have hrow := (HGR.out wr HBr.out HF.out).row
        have HGA : Hid (∀ v, Below wr.heap.size wr v → ∃ b1 o1, c.ga = some ⟨b1, o1, none⟩ ∧ b1 < wr.heap.size ∧ v.cell? ⟨b1, o1 + i * 5, none⟩ = some (.int .i64 x.kd)) := fun v hv => by
          obtain ⟨b1, o1, e1, hlt, k0, -⟩ := callAt hrow hx
          exact ⟨b1, o1, e1, hlt, (hv.cell (p := ⟨b1, o1 + i * 5, none⟩) hlt).trans k0⟩
        obtain ⟨b1, o1, e1, hb1, k0, k1, k2, k3, k4⟩ := callAt hrow hx
        rw [e1] at c4
        have HSV : Hid (∀ W, Below wr.heap.size wr W → Shv W A9 n9 e9 B9 m9 d9 (gL (G.take i) L) (gQ (G.take i) Q)) := fun W h => (HO9.out.shv (HLM.out i HF.out).1 (HLM.out i HF.out).2).below h
        have HKE : Hid (∀ W v, Below wr.heap.size wr W → Below W.heap.size W v → v.cell? ⟨g7, 0, none⟩ = some (.slice A9 n9 e9) ∧ v.cell? ⟨g7, 1, none⟩ = some (.slice B9 m9 d9) ∧ v.cell? ⟨g3, 4, none⟩ = some (.slice (some ⟨b1, o1, none⟩) c.gn c.gc) ∧ v.cell? ⟨b1, o1 + i * 5, none⟩ = some (.int .i64 x.kd) ∧ v.cell? ⟨b1, o1 + i * 5 + 1, none⟩ = some (.string x.key) ∧ v.cell? ⟨b1, o1 + i * 5 + 2, none⟩ = some (.string x.val) ∧ v.cell? ⟨b1, o1 + i * 5 + 3, none⟩ = some (.string x.to_) ∧ v.cell? ⟨b1, o1 + i * 5 + 4, none⟩ = some (.slice x.ga x.gn x.gc)) := fun W v h1 h2 => by
          have h3 := h1.trans (h2.mono h1.size)
          have g7l := lt_of_heap HX9.out
          have g3l := lt_of_heap HCr.out
          exact ⟨(h3.cell (p := ⟨g7, 0, none⟩) g7l).trans y0, (h3.cell (p := ⟨g7, 1, none⟩) g7l).trans y1, (h3.cell (p := ⟨g3, 4, none⟩) g3l).trans c4, (h3.cell (p := ⟨b1, _, none⟩) hb1).trans k0, (h3.cell (p := ⟨b1, _, none⟩) hb1).trans k1, (h3.cell (p := ⟨b1, _, none⟩) hb1).trans k2, (h3.cell (p := ⟨b1, _, none⟩) hb1).trans k3, (h3.cell (p := ⟨b1, _, none⟩) hb1).trans k4⟩
        have hN1 : ¬ g7 = wr.heap.size := by have := lt_of_heap HX9.out; omega
        have hN2 : ¬ g3 = wr.heap.size := by have := lt_of_heap HCr.out; omega
        have hN3 : ¬ b1 = wr.heap.size := by omega
        have hM1 : ¬ wr.heap.size = g7 := fun e => hN1 e.symm
        have hM2 : ¬ wr.heap.size = g3 := fun e => hN2 e.symm
        have hM3 : ¬ wr.heap.size = b1 := fun e => hN3 e.symm
        have hM4 : ¬ wr.heap.size + 1 = g7 := by have := lt_of_heap HX9.out; omega
        have hM5 : ¬ wr.heap.size + 1 = g3 := by have := lt_of_heap HCr.out; omega
        have hM6 : ¬ wr.heap.size + 1 = b1 := by omega
        have HNX : Hid (∀ z, wr.heap.size < z → ¬ z = g7 ∧ ¬ z = g3 ∧ ¬ z = b1) := fun z hz => by
          have := lt_of_heap HX9.out; have := lt_of_heap HCr.out
          exact ⟨by omega, by omega, by omega⟩
        clear hrow hx e1 HGA a0 a1 a2 a3 a4 a5
        go_upto_region 10 with fail
        go_cut [9, 10] from 40 to 65 (fun s9 s10 wx => Got wr (gL (G.take (i + 1)) L) (gQ (G.take (i + 1)) Q) 0 (fnd x (gL (G.take i) L) (gQ (G.take i) Q)) (vlu x (gL (G.take i) L) (gQ (G.take i) Q)) (prs x (gL (G.take i) L)) [] s9 s10 wx)
        case first =>
          go_region_held3 (fun v => v.cell? ⟨g7, 0, none⟩ = some (.slice A9 n9 e9) ∧ v.cell? ⟨g7, 1, none⟩ = some (.slice B9 m9 d9) ∧ v.cell? ⟨g3, 4, none⟩ = some (.slice (some ⟨b1, o1, none⟩) c.gn c.gc) ∧ v.cell? ⟨b1, o1 + i * 5, none⟩ = some (.int .i64 x.kd) ∧ v.cell? ⟨b1, o1 + i * 5 + 1, none⟩ = some (.string x.key) ∧ v.cell? ⟨b1, o1 + i * 5 + 2, none⟩ = some (.string x.val) ∧ v.cell? ⟨b1, o1 + i * 5 + 3, none⟩ = some (.string x.to_) ∧ v.cell? ⟨b1, o1 + i * 5 + 4, none⟩ = some (.slice x.ga x.gn x.gc)) (go_keep)
            (first
              | (go_at_call 18; refine (HAM.out wr.drew _ _ _ _ _ _ _ _ HX.out (HSV.out _ (got_b (.inl rfl))) HF.out HGD.out H7.out).mono ?_; rintro e x1 ⟨A1, n1, c1, B1, m1, d1, A2, n2, c2, B2, m2, d2, rfl, ho, -, hm, hh, hml, hhl, hb⟩; obtain ⟨t0, t1, t2, t3, t4, t5, t6, t7⟩ := HKE.out wr.drew x1 (got_b (.inl rfl)) hb)
              | (go_at_call 18; refine (HAM.out (wr.drew.alloc S0) _ _ _ _ _ _ _ _ HX.out (HSV.out _ (got_b (.inr (.inl rfl)))) HF.out HGD.out H7.out).mono ?_; rintro e x1 ⟨A1, n1, c1, B1, m1, d1, A2, n2, c2, B2, m2, d2, rfl, ho, -, hm, hh, hml, hhl, hb⟩; obtain ⟨t0, t1, t2, t3, t4, t5, t6, t7⟩ := HKE.out (wr.drew.alloc S0) x1 (got_b (.inr (.inl rfl))) hb; obtain ⟨s0, s1, sf⟩ := svar (got_w2 hb); obtain ⟨ne1, ne2⟩ := got_n2 hb; obtain ⟨ne3, ne4, ne5⟩ := HNX.out _ ne1)
              | (go_at_call 18; refine (HAM.out (wr.drew.alloc A0) _ _ _ _ _ _ _ _ HX.out (HSV.out _ (got_b (.inr (.inr (.inl rfl))))) HF.out HGD.out H7.out).mono ?_; rintro e x1 ⟨A1, n1, c1, B1, m1, d1, A2, n2, c2, B2, m2, d2, rfl, ho, -, hm, hh, hml, hhl, hb⟩; obtain ⟨t0, t1, t2, t3, t4, t5, t6, t7⟩ := HKE.out (wr.drew.alloc A0) x1 (got_b (.inr (.inr (.inl rfl)))) hb; obtain ⟨a0, a1, a2, a3, a4, a5, af⟩ := avar (got_w3 hb); obtain ⟨ne1, ne2⟩ := got_n3 hb; obtain ⟨ne3, ne4, ne5⟩ := HNX.out _ ne1)
              | (go_at_call 18; refine (HAM.out ((wr.drew.alloc S0).alloc A0) _ _ _ _ _ _ _ _ HX.out (HSV.out _ (got_b (.inr (.inr (.inr (.inl rfl)))))) HF.out HGD.out H7.out).mono ?_; rintro e x1 ⟨A1, n1, c1, B1, m1, d1, A2, n2, c2, B2, m2, d2, rfl, ho, -, hm, hh, hml, hhl, hb⟩; obtain ⟨t0, t1, t2, t3, t4, t5, t6, t7⟩ := HKE.out ((wr.drew.alloc S0).alloc A0) x1 (got_b (.inr (.inr (.inr (.inl rfl))))) hb; obtain ⟨s0, s1, sf⟩ := svar (got_w4 hb).1; obtain ⟨a0, a1, a2, a3, a4, a5, af⟩ := avar (got_w4 hb).2)
              | (go_at_call 18; refine (HAM.out ((wr.drew.alloc A0).alloc S0) _ _ _ _ _ _ _ _ HX.out (HSV.out _ (got_b (.inr (.inr (.inr (.inr rfl)))))) HF.out HGD.out H7.out).mono ?_; rintro e x1 ⟨A1, n1, c1, B1, m1, d1, A2, n2, c2, B2, m2, d2, rfl, ho, -, hm, hh, hml, hhl, hb⟩; obtain ⟨t0, t1, t2, t3, t4, t5, t6, t7⟩ := HKE.out ((wr.drew.alloc A0).alloc S0) x1 (got_b (.inr (.inr (.inr (.inr rfl))))) hb; obtain ⟨a0, a1, a2, a3, a4, a5, af⟩ := avar (got_w5 hb).1; obtain ⟨s0, s1, sf⟩ := svar (got_w5 hb).2)
              | fail)
          · go_wp2
            go_meet
            case rel => exact got_1 ho hm hh hml hhl hb
          · go_wp2
            go_meet
            case rel => exact got_2 ho hm hh hml hhl hb
          · go_wp2
            go_meet
            case rel => exact got_3 ho hm hh hml hhl hb
          · go_wp2
            go_meet
            case rel => exact got_4 ho hm hh hml hhl hb
          · go_wp2
            go_meet
            case rel => exact got_5 ho hm hh hml hhl hb
          · go_wp2
            go_meet
            case rel => exact got_6 ho hm hh hml hhl hb
        case rest =>
          obtain ⟨gS, gA, A1, n1, c1, B1, m1, d1, A2, n2, c2, B2, m2, d2, rfl, rfl, hS, hA, ho, -, -, -, -, hlS, hlA, hne, hb⟩ := hcut
          have HS := Lib.hid hS
          have HA := Lib.hid hA
          have HO := Lib.hid ho
          have HBC := Lib.hid hb
          have g7l := lt_of_heap HX9.out
          have HG7 := Lib.hid g7l
          have HAc := Lib.hid ((hb.block h5 (by have := lt_of_heap HAr.out; omega)).trans HAr.out)
          have HXc := Lib.hid ((hb.block g7 g7l).trans HX9.out)
          obtain ⟨b2, o2, e2, -, l2⟩ := boolAt (HRH.out.below (HGg5.out.symm ▸ (HB5r.out.trans (hb.mono (by have := HLq_7.out; omega))))) (hits_at HX.out L Q)
          cases e2
          obtain ⟨p0, p1, p2, p3, p4, p5⟩ := cells6 HA.out
          obtain ⟨a0, a1, a2, a3, a4, a5⟩ := cells6 HAc.out
          obtain ⟨q0, q1⟩ := cells2 HS.out
          have hi7 : (i : Int) < (m7 : Int) := by have := HMN.out; omega
          clear hS hA ho hb hlS hlA hne g7l
          generalize fnd x (gL (G.take i) L) (gQ (G.take i) Q) = F at *
          have hFF : (F != F) = false := by simp
          go_upto_region 11 with fail
          go_quiet (fail)
          go_wp2_with (first
            | ((with_reducible show wpList _ _ _ (⟨none, .store _ (.tmp 7) _, _, _, _, _⟩ :: _) _ _); refine wpList_store_only (o := ⟨none, .store 29 (.tmp 7) (.tmp 65), _, _, _, _⟩) rfl _ _ _ rfl rfl g7 #[.slice A1 n1 c1, .slice B1 m1 d1] rfl rfl 29 _ HXc.out size_shelf rfl (onesV _ _ _ _ _ _) ?_; intro x9 X9 T9)
            | fail)
          have HW9 : Hid (Below g7 wr x9) := ((HBC.out.mono (Nat.le_of_lt HG7.out)).trans (below_drewN (Below.refl _ _) nq)).trans (turn_below T9.out (Nat.le_refl _) (Nat.le_of_lt (lt_of_heap HXc.out)))
          go_roundg gk
          case measure => omega
          case rel => exact ⟨i + 1, A1, n1, c1, B1, m1, d1, by omega, by go_num, X9, ((HO.out.below (below_drewN (Below.refl _ _) nq)).turn T9.out HG7.out).mono (Nat.zero_le _), HW.out.trans HW9.out, Nat.le_trans HWZ.out (Nat.le_trans HBC.out.size T9.out.size)⟩

set_option maxRecDepth 100000 in
theorem lifted (os : Os) (started : os.Started) (H : Type) (enc : TypeId × Value → H) :
    ReturnsInHanded {} Try.checked os 7 .any (Rows.idealGroupsSpec.pre6 enc Try.prog Try.f7 Rows.idealGroupsRow.domain false) (Rows.idealGroupsSpec.post enc Try.prog Try.f7 false true false false) := by
  refine returnsInHanded_of_change (C := Try.checked) own started (by kernel_rfl) Try.func7
    (ChangeSpec.witness6 (enc := enc) (C := Try.checked) false ⟨#[], #[.agg #[.slice none 0 0, .slice none 0 0], .agg #[.int .i64 0, .string ByteArray.empty, .string ByteArray.empty, .string ByteArray.empty, .slice none 0 0]], []⟩ 8 (by kernel_rfl) (by kernel_rfl) (by kernel_rfl) (by kernel_rfl)) ?_
  intro W base args ds gs before hval0 hW hcnd _
  have hval : ∀ (j : Nat) t v, Try.f7.params[j]? = some t → args[j]? = some v → Value.okWide Try.prog W .any base t v := hval0
  have hW' := hW
  obtain ⟨p, q, hA0, hV, rfl, hfz, hnd⟩ := hW
  have hA : DataW.TrodAll enc Try.prog W 0 (fun _ => true) true Try.f7.params.toList args.toList ds p := hA0
  rw [Try.params7] at hA hval
  obtain ⟨v0, vs0, d0, ds0, p0, q0, hargs, rfl, rfl, h0, r0⟩ := trodAll_cons hA
  obtain ⟨v1, vs1, d1, ds1, p1, q1, rfl, rfl, rfl, h1, r1⟩ := trodAll_cons r0
  obtain ⟨rfl, rfl, rfl⟩ := trodAll_nil r1
  obtain rfl : args = #[v0, v1] := by cases args; simp_all
  obtain ⟨rfl, rfl⟩ := trodVars_none hV
  obtain ⟨A0, n0, c0, B0, m0, e0, rfl, L0, Q0, w0, u0⟩ := isShelf_of (hval 0 29 v0 rfl rfl) h0
  have k0 := h0
  have lt0 : ∀ x ∈ p0, x.block < W.heap.size := by obtain ⟨m, hm⟩ := k0; exact DataW.trod_lt m _ _ _ hm
  obtain ⟨z1, rfl, y1, w1⟩ := isCall_of (hval 1 24 v1 rfl rfl) h1
  have k1 := h1
  have lt1 : ∀ x ∈ p1, x.block < W.heap.size := by obtain ⟨m, hm⟩ := k1; exact DataW.trod_lt m _ _ _ hm
  clear hA0 hval0
  refine (walk A0 n0 c0 B0 m0 e0 L0 Q0 z1 y1 W w0 u0 w1).mono fun e W' ⟨he, bel⟩ => ?_
  subst he
  exact ⟨_, rfl, _, _, _, [], _, [], hW', trodAll_mk1 (shut_bool Try.underlying4 _), (trodAll_cons_mk (Below.trod laidOut (by kernel_rfl) (of_decide_eq_true (by kernel_rfl)) k0 bel lt0) (trodAll_cons_mk (Below.trod laidOut (by kernel_rfl) (of_decide_eq_true (by kernel_rfl)) k1 bel lt1) trodAll_mk0)), rfl, bel.frame _, fun h => by cases h⟩

theorem over : Rows.idealGroupsRow.holds Try.pinned (OpenSpec.ofChange Rows.idealGroupsSpec) :=
  OpenClaim.holds_of_wide 7 Try.f7 rfl rfl rfl rfl rfl rfl rfl ⟨rfl, rfl, rfl, rfl, rfl⟩ rfl rfl rfl rfl rfl (by kernel_rfl) Try.func7 (by kernel_rfl)
    (of_decide_eq_true (by kernel_rfl)) (by unfold Func.isWrapper; first | (rw [if_pos (by decide +kernel)]; kernel_rfl) | (rw [if_neg (by decide +kernel)]; exact ⟨rfl, rfl⟩))
    (fun os started H enc _ => lifted os started H enc)

theorem proved : Rows.IdealGroupsSaid := over
#print axioms proved
end Go.Proofs.Ytimpigponjkfkaa.idealGroups
