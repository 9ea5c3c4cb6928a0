/-
Proved here: IdealApplies.
  Conditions: none.
-/
import Derived.Test.YtimpigponjkfkaaRows
import Derived.Test.YtimpigponjkfkaaCallIn15
import Derived.Test.YtimpigponjkfkaaLarge15
import Derived.Test.YtimpigponjkfkaaSameB15
import Derived.Test.YtimpigponjkfkaaSameC15
import Derived.Test.YtimpigponjkfkaaRefC15
import Derived.Test.YtimpigponjkfkaaKvMath15
import Derived.Test.YtimpigponjkfkaaMay15
import Derived.IntWalk
import Derived.WalkSmall
import Derived.Deep.QuietTactic
import Derived.BigQuiet
import Derived.WalkKit
import Derived.ProofKit
import Derived.OpenShut
import Derived.ShutString
import Derived.ChangeOld
import Derived.Below
namespace Go.Proofs.Ytimpigponjkfkaa.idealApplies
open Go.ChangeShapes Go.WideShapes Go.ChangeAt Go.RowKit
open Go.ChangeMaps (open_string shut_string)
set_option linter.unusedVariables false

theorem own : ownKnob Try.prog.godebug = none := by kernel_rfl
theorem laidOut : laidOutB Try.prog = true := by kernel_rfl

set_option maxRecDepth 100000 in
set_option maxHeartbeats 12800000 in
theorem walk (A : Option Addr) (n k : Nat) (B : Option Addr) (m d : Nat) (L : List Kv) (Q : List ByteArray) (c : Cal) (G : List Cal) (w : World) (hL : RP.Is w A n k L) (hQ : RS.Is w B m d Q) (hG : GrpIn w c G) :
    Calls Try.prog 4 #[.agg #[.slice A n k, .slice B m d], c.agg] w fun e w' => e = .returned (.bool true) ∧ Below w.heap.size w w' := by
  unfold Cal.agg
  obtain ⟨g, hg⟩ : ∃ g, w.heap.size = g := ⟨_, rfl⟩
  obtain ⟨w0, hw0⟩ : ∃ w0, w.alloc (.cells #[.slice A n k, .slice B m d] 29) = w0 := ⟨_, rfl⟩
  have HS0 : Hid (w0.heap[g]? = some (.cells #[.slice A n k, .slice B m d] 29 (0, 0))) := by rw [← hw0, ← hg]; exact heap_alloc_new w _
  have HB0 : Hid (Below g w w0) := by rw [← hw0, ← hg]; exact (Below.refl _ _).alloc (Nat.le_refl _) _
  obtain ⟨g3, hg3⟩ : ∃ g3, w0.heap.size = g3 := ⟨_, rfl⟩
  obtain ⟨w1, hw1⟩ : ∃ w1, w0.alloc (.cells #[.int .i64 c.kd, .string c.key, .string c.val, .string c.to_, .slice c.ga c.gn c.gc] 24) = w1 := ⟨_, rfl⟩
  have HXg3 : Hid (CBox w1 g3 c) := by rw [← hw1, ← hg3]; exact heap_alloc_new w0 _
  have HBg3 : Hid (Below g3 w0 w1) := by rw [← hw1, ← hg3]; exact (Below.refl _ _).alloc (Nat.le_refl _) _
  have HGg3 : Hid (w0.heap.size = g3) := hg3
  have HLg : Hid (g < g3) := by rw [← hg3]; exact lt_of_heap HS0.out
  have HS1 : Hid (w1.heap[g]? = some (.cells #[.slice A n k, .slice B m d] 29 (0, 0))) := (HBg3.out.block g HLg.out).trans HS0.out
  have HC1 : Hid (w1.heap[g3]? = some (.cells #[.int .i64 c.kd, .string c.key, .string c.val, .string c.to_, .slice c.ga c.gn c.gc] 24 (0, 0))) := HXg3.out
  have HB1 : Hid (Below g w w1) := HB0.out.trans (HBg3.out.mono (Nat.le_of_lt HLg.out))
  have HLG : Hid (∀ w2, Below g w w2 → Calls Try.prog 12 #[.agg #[.slice A n k, .slice B m d], .agg #[.int .i64 c.kd, .string c.key, .string c.val, .string c.to_, .slice c.ga c.gn c.gc]] w2 (LargeTo w2 L Q G)) := fun w2 hb => large_any w2 A B n k m d L Q c G (hL.below (hg.symm ▸ hb)) (hQ.below (hg.symm ▸ hb)) (hG.1.below (hg.symm ▸ hb))
  have HSS : Hid (∀ w2, Below g w w2 → Fit L Q G → Shv w2 A n k B m d L Q) := fun w2 hb hf => (hf.shv hL hQ).below (hg.symm ▸ hb)
  have HGR : Hid (∀ w2, Below g w w2 → Fit L Q G → Grp w2 c G) := fun w2 hb hf => (hf.grp hG).below (hg.symm ▸ hb)
  have HLC : Hid (∀ w2, Shv w2 A n k B m d L Q → Calls Try.prog 17 #[.agg #[.slice A n k, .slice B m d]] w2 (LCopy w2 L Q)) := fun w2 h => lcopy_any h
  have HCC : Hid (∀ v, Grp v c G → Calls Try.prog 19 #[.agg #[.int .i64 c.kd, .string c.key, .string c.val, .string c.to_, .slice c.ga c.gn c.gc]] v (CallTo v c G)) := fun v h => lcall_any c G v h
  have HAP : Hid (∀ (v : World) (A : Option Addr) (n k : Nat) (B : Option Addr) (m d : Nat) (ga : Option Addr) (gc : Nat), Shv v A n k B m d L Q → Grp v { c with ga := ga, gc := gc } G → Fit L Q G → Calls Try.prog 18 #[.agg #[.slice A n k, .slice B m d], .agg #[.int .i64 c.kd, .string c.key, .string c.val, .string c.to_, .slice ga c.gn gc]] v (AppS v (apL c G L) (apQ c G Q) (goodN c G) (apF c G L Q) (apV c G L Q) (apM c G L) (apH c G L Q))) := fun v A n k B m d ga gc h hgr hf => app_as (c := { c with ga := ga, gc := gc }) h (by have := hf.1; omega) (by have := hf.2.1; omega) G hgr rfl rfl rfl rfl rfl rfl rfl
  have HRA : Hid (∀ v, Below g w v → Fit L Q G → Calls Try.prog 20 #[.agg #[.slice A n k, .slice B m d], .agg #[.int .i64 c.kd, .string c.key, .string c.val, .string c.to_, .slice c.ga c.gn c.gc]] v (RApTo v A n B m (apL c G L) (apQ c G Q) (goodN c G) (apF c G L Q) (apV c G L Q) (apM c G L) (apH c G L Q))) := fun v hv hf => rapply_any (HSS.out v hv hf) (by have := hf.1; omega) (by have := hf.2.1; omega) hQ.2.1 hQ.2.2.1 c G (HGR.out v hv hf)
  have HGE : Hid (∀ (v : World) (A : Option Addr) (n k : Nat) (B : Option Addr) (m d : Nat), Shv v A n k B m d L Q → Calls Try.prog 21 #[.agg #[.slice A n k, .slice B m d], .string c.key] v fun e w' => e = .returned (.tuple #[.string (valK L c.key), .bool (hasK L c.key)]) ∧ Below v.heap.size v w') := fun v A n k B m d h => get15_any h c.key
  have HRG : Hid (∀ (v : World) (A : Option Addr) (n k : Nat) (B : Option Addr) (m d : Nat), Shv v A n k B m d L Q → Calls Try.prog 22 #[.agg #[.slice A n k, .slice B m d], .string c.key] v fun e w' => e = .returned (.tuple #[.string (valK L c.key), .bool (hasK L c.key)]) ∧ Below v.heap.size v w') := fun v A n k B m d h => rget15_any h c.key
  have HMY : Hid (∀ (v : World) (A : Option Addr) (n k : Nat) (B : Option Addr) (m d : Nat), Shv v A n k B m d L Q → Calls Try.prog 25 #[.agg #[.slice A n k, .slice B m d]] v fun e w' => e = .returned (.bool (riseB L)) ∧ Below v.heap.size v w') := fun v A n k B m d h => may_any h
  have HMR : Hid (∀ (v : World) (A : Option Addr) (n k : Nat) (B : Option Addr) (m d : Nat), Shv v A n k B m d L Q → Calls Try.prog 26 #[.agg #[.slice A n k, .slice B m d]] v fun e w' => e = .returned (.bool (riseB L)) ∧ Below v.heap.size v w') := fun v A n k B m d h => rmay15_any h
  have HSM : Hid (∀ (w2 : World) (A : Option Addr) (n c : Nat) (B : Option Addr) (m d : Nat) (A2 : Option Addr) (n2 c2 : Nat) (B2 : Option Addr) (m2 d2 : Nat) (L : List Kv) (Q : List ByteArray), Shv w2 A n c B m d L Q → Shv w2 A2 n2 c2 B2 m2 d2 L Q → Calls Try.prog 23 #[.agg #[.slice A n c, .slice B m d], .agg #[.slice A2 n2 c2, .slice B2 m2 d2]] w2 fun e w' => e = .returned (.bool true) ∧ Below w2.heap.size w2 w') := fun w2 A n c B m d A2 n2 c2 B2 m2 d2 L Q h k => sames_any h k
  have HSA : Hid (∀ (v : World) (A : Option Addr) (n c : Nat) (B : Option Addr) (m d : Nat) (A2 : Option Addr) (n2 c2 : Nat) (B2 : Option Addr) (m2 d2 : Nat) (cd : Int) (f : Bool) (s : ByteArray) (M : List Kv) (H : List Bool), M.length = n → M.length = n2 → H.length = m → H.length = m2 → RP.Row v A M → RP.Row v A2 M → RB.Row v B H → RB.Row v B2 H → Calls Try.prog 24 #[.agg #[.int .i64 cd, .bool f, .string s, .slice A n c, .slice B m d, .int .u64 0], .agg #[.int .i64 cd, .bool f, .string s, .slice A2 n2 c2, .slice B2 m2 d2, .int .u64 0]] v fun e w' => e = .returned (.bool true) ∧ Below v.heap.size v w') := fun v A n c B m d A2 n2 c2 B2 m2 d2 cd f s M H h1 h2 h3 h4 r1 r2 r3 r4 => by
    obtain rfl : n = n2 := h1.symm.trans h2
    obtain rfl : m = m2 := h3.symm.trans h4
    exact samea_any cd f s 0 h1 h3 r1 r2 r3 r4
  have HOV : Hid (∀ (v : World) (base : Nat) (A : Option Addr) (n c : Nat) (B : Option Addr) (m d : Nat) (L1 : List Kv) (Q1 : List ByteArray), OwnS v base A n c B m d L1 Q1 → L1.length ≤ 100000 → Q1.length ≤ 100000 → base ≤ v.heap.size → (∀ k, (Value.slice A n c).ownBlock = some k → (Value.slice B m d).ownBlock ≠ some k) → Calls Try.prog 27 #[.agg #[.slice A n c, .slice B m d]] v fun e w' => e = .returned (.tuple #[]) ∧ Below base v w') := fun v base A n c B m d L1 Q1 h1 h2 h3 h4 h5 => overs_any h1 h2 h3 h4 h5
  have HLE : Hid (Fit L Q G → (apL c G L).length ≤ 1000 ∧ (apQ c G Q).length ≤ 1000) := fun hf => by
    have h1 := apL_len c G L
    have h2 := apQ_len c G Q
    have := hf.1; have := hf.2.1; have := hf.2.2.1
    exact ⟨by omega, by omega⟩
  have HML : Hid (Fit L Q G → (apM c G L).length ≤ 1000 ∧ (apH c G L Q).length ≤ 1000) := fun hf => by
    have := hf.1; have := hf.2.2.1
    exact ⟨Nat.le_trans (apM_len c G L) (by omega), Nat.le_trans (apH_len c G L Q) (by omega)⟩
  have HGN : Hid (G.length = c.gn) := hG.1.1
  have HAW := Lib.hid awake15_any
  have HZS := Lib.hid zero_shelf
  have HZA := Lib.hid zero_answer
  rw [hg]
  clear hL hQ hG HXg3
  obtain ⟨p0, p1⟩ := cells2 HS1.out
  obtain ⟨c0, c1, c2, c3, c4⟩ := cells5 HC1.out
  go_enter Try.func4, Try.ntmps4
  go_wp2_with fail
  refine (HLG.out w1 HB1.out).mono ?_
  clear p0 p1 c0 c1 c2 c3 c4
  rintro e w3 ⟨b, rfl, hf, hb⟩
  clear hw0 hw1 hg hg3
  have HB_1 : Hid (Below g w w3) := HB1.out.trans (hb.mono (Nat.le_of_lt (lt_of_heap HS1.out)))
  have Hp_1 := Lib.hid ((hb.block g (lt_of_heap HS1.out)).trans HS1.out)
  have Hc_1 := Lib.hid ((hb.block g3 (lt_of_heap HC1.out)).trans HC1.out)
  clear hb
  obtain ⟨p0, p1⟩ := cells2 Hp_1.out
  obtain ⟨c0, c1, c2, c3, c4⟩ := cells5 Hc_1.out
  cases b with
  | true =>
    clear hf
    go_wp2_with fail
    refine (HAW.out w3).mono ?_
    clear p0 p1 c0 c1 c2 c3 c4
    rintro e wq1 ⟨rfl, hbq⟩
    have HB_2 : Hid (Below g w wq1) := HB_1.out.trans (hbq.mono (Nat.le_of_lt (lt_of_heap Hp_1.out)))
    have Hp_2 := Lib.hid ((hbq.block g (lt_of_heap Hp_1.out)).trans Hp_1.out)
    have Hc_2 := Lib.hid ((hbq.block g3 (lt_of_heap Hc_1.out)).trans Hc_1.out)
    clear hbq
    go_wp2
    go_ret
    exact ⟨rfl, HB_2.out⟩
  | false =>
    have HF := Lib.hid (hf rfl)
    clear hf
    go_wp2_with fail
    refine (HLC.out w3 (HSS.out w3 HB_1.out HF.out)).mono ?_
    clear p0 p1 c0 c1 c2 c3 c4
    rintro e w4 ⟨A4, n4, e4, B4, m4, d4, rfl, ho, hb⟩
    have OI := Lib.hid ho
    clear ho
    have HB_3 : Hid (Below g w w4) := HB_1.out.trans (hb.mono (Nat.le_of_lt (lt_of_heap Hp_1.out)))
    have Hp_3 := Lib.hid ((hb.block g (lt_of_heap Hp_1.out)).trans Hp_1.out)
    have Hc_3 := Lib.hid ((hb.block g3 (lt_of_heap Hc_1.out)).trans Hc_1.out)
    clear hb
    obtain ⟨p0, p1⟩ := cells2 Hp_3.out
    obtain ⟨c0, c1, c2, c3, c4⟩ := cells5 Hc_3.out
    obtain ⟨g5, hg5⟩ : ∃ z, w4.heap.size = z := ⟨_, rfl⟩
    have HGg5 := Lib.hid hg5
    clear hg5
    have HLp_5 : Hid (g < g5) := HGg5.out ▸ lt_of_heap Hp_3.out
    have HLc_5 : Hid (g3 < g5) := HGg5.out ▸ lt_of_heap Hc_3.out
    clear p0 p1 c0 c1 c2 c3 c4
    go_upto_region 4 with (first
      | ((with_reducible show wpList _ _ _ (⟨some 5, .alloc _, _, _, _, _⟩ :: _) _ _); refine wpList_alloc_var (o := ⟨some 5, _, _, _, _, _⟩) rfl 29 rfl g5 HGg5.out _ HZS.out ?_; intro xa5 XA5 CA5)
      | ((with_reducible show wpList _ _ _ (⟨none, .store _ (.tmp 5) _, _, _, _, _⟩ :: _) _ _); refine wpList_store_whole (o := ⟨none, .store 29 (.tmp 5) (.tmp 19), _, _, _, _⟩) rfl _ _ _ rfl rfl g5 #[.slice A4 n4 e4, .slice B4 m4 d4] rfl rfl 29 _ XA5.out size_shelf rfl (onesV _ _ _ _ _ _) ?_; intro x5 X5 CB5)
      | fail)
    have HBX5 : Hid (Below g5 w4 x5) := CA5.out.trans CB5.out
    have HP5 := Lib.hid ((HBX5.out.block g HLp_5.out).trans Hp_3.out)
    have HC5 := Lib.hid ((HBX5.out.block g3 HLc_5.out).trans Hc_3.out)
    have OI5 := Lib.hid (OI.out.below (HGg5.out.symm ▸ HBX5.out))
    have HB5 : Hid (Below g w x5) := HB_3.out.trans (HBX5.out.mono (Nat.le_of_lt HLp_5.out))
    have HSI : Hid (∀ v, Below x5.heap.size x5 v → Shv v A4 n4 e4 B4 m4 d4 L Q) := fun v hv => (OI5.out.shv (by have := HF.out.1; omega) (by have := HF.out.2.1; omega)).below hv
    have HGV : Hid (∀ v, Below x5.heap.size x5 v → Grp v c G) := fun v hv => (HGR.out x5 HB5.out HF.out).below hv
    have HG5L : Hid (g5 < x5.heap.size) := lt_of_heap X5.out
    have HG3L : Hid (g3 < x5.heap.size) := lt_of_heap HC5.out
    have HLMG : Hid (G.length ≤ 1048576) := by have := HF.out.2.2.1; show _ ≤ _; omega
    have HFL : Hid (∀ y ∈ G, y.gn = 0 ∧ y.gc ≤ maxLen ∧ (y.ga = none → y.gc = 0)) := (HGV.out x5 (Below.refl _ _)).flat
    have HKV : Hid (∀ V, Below x5.heap.size x5 V → V.cell? ⟨g5, 0, none⟩ = some (.slice A4 n4 e4) ∧ V.cell? ⟨g5, 1, none⟩ = some (.slice B4 m4 d4) ∧ V.cell? ⟨g3, 0, none⟩ = some (.int .i64 c.kd) ∧ V.cell? ⟨g3, 1, none⟩ = some (.string c.key) ∧ V.cell? ⟨g3, 2, none⟩ = some (.string c.val) ∧ V.cell? ⟨g3, 3, none⟩ = some (.string c.to_) ∧ V.cell? ⟨g3, 4, none⟩ = some (.slice c.ga c.gn c.gc)) := fun V hv => by
      obtain ⟨i0, i1⟩ := cells2 ((hv.block g5 HG5L.out).trans X5.out)
      obtain ⟨c0, c1, c2, c3, c4⟩ := cells5 ((hv.block g3 HG3L.out).trans HC5.out)
      exact ⟨i0, i1, c0, c1, c2, c3, c4⟩
    have HNX : Hid (∀ z, x5.heap.size ≤ z → ¬ z = g5 ∧ ¬ z = g3 ∧ ¬ g5 = z ∧ ¬ g3 = z) := fun z hz => by have := HG5L.out; have := HG3L.out; exact ⟨by omega, by omega, by omega, by omega⟩
    obtain ⟨nx1, nx2, nx3, nx4⟩ := HNX.out x5.heap.size (Nat.le_refl _)
    obtain ⟨ny1, ny2, ny3, ny4⟩ := HNX.out (x5.heap.size + 1) (Nat.le_succ _)
    obtain ⟨t0, t1, t2, t3, t4, t5, t6⟩ := HKV.out x5 (Below.refl _ _)
    simp only [Act.put, List.setIfInBounds_toArray, List.set_cons_zero, List.set_cons_succ]
    go_cut [6, 7] from 20 (fun s6 s7 wx => Got x5 (apL c G L) (apQ c G Q) (goodN c G) (apF c G L Q) (apV c G L Q) (apM c G L) (apH c G L Q) s6 s7 wx)
    case first =>
      go_region_held3 (fun V => V.cell? ⟨g5, 0, none⟩ = some (.slice A4 n4 e4) ∧ V.cell? ⟨g5, 1, none⟩ = some (.slice B4 m4 d4) ∧ V.cell? ⟨g3, 0, none⟩ = some (.int .i64 c.kd) ∧ V.cell? ⟨g3, 1, none⟩ = some (.string c.key) ∧ V.cell? ⟨g3, 2, none⟩ = some (.string c.val) ∧ V.cell? ⟨g3, 3, none⟩ = some (.string c.to_) ∧ V.cell? ⟨g3, 4, none⟩ = some (.slice c.ga c.gn c.gc)) (go_keep)
        (first
    | (go_at_call 19; refine (HCC.out x5.drew (HGV.out _ (got_b (.inl rfl)))).mono ?_; rintro e xc ⟨AC, cC, rfl, hoc, hb0⟩; have HXC : Hid (Below x5.heap.size x5 xc) := (got_b (.inl rfl)).trans (hb0.mono (got_b (.inl rfl)).size); have HGC := Lib.hid (grp_own hoc HGN.out HLMG.out HFL.out); obtain ⟨v0, v1, v2, v3, v4, v5, v6⟩ := HKV.out xc HXC.out; obtain ⟨nz1, nz2, nz3, nz4⟩ := HNX.out xc.heap.size HXC.out.size; obtain ⟨nw1, nw2, nw3, nw4⟩ := HNX.out (xc.heap.size + 1) (Nat.le_succ_of_le HXC.out.size); skip; clear hoc hb0)
            | (go_at_call 19; refine (HCC.out (x5.drew.alloc S0) (HGV.out _ (got_b (.inr (.inl rfl))))).mono ?_; rintro e xc ⟨AC, cC, rfl, hoc, hb0⟩; have HXC : Hid (Below x5.heap.size x5 xc) := (got_b (.inr (.inl rfl))).trans (hb0.mono (got_b (.inr (.inl rfl))).size); have HGC := Lib.hid (grp_own hoc HGN.out HLMG.out HFL.out); obtain ⟨v0, v1, v2, v3, v4, v5, v6⟩ := HKV.out xc HXC.out; obtain ⟨nz1, nz2, nz3, nz4⟩ := HNX.out xc.heap.size HXC.out.size; obtain ⟨nw1, nw2, nw3, nw4⟩ := HNX.out (xc.heap.size + 1) (Nat.le_succ_of_le HXC.out.size); have HSB : Hid (∀ v, Below xc.heap.size xc v → v.heap[x5.heap.size]? = some S0) := fun v hv => (hv.block _ (lt_of_heap (got_w2 hb0))).trans (got_w2 hb0); have HSL : Hid (x5.heap.size ≤ x5.heap.size ∧ x5.heap.size < xc.heap.size) := ⟨by omega, lt_of_heap (got_w2 hb0)⟩; obtain ⟨s0, s1, sf⟩ := svar (got_w2 hb0); clear hoc hb0)
            | (go_at_call 19; refine (HCC.out (x5.drew.alloc A0) (HGV.out _ (got_b (.inr (.inr (.inl rfl)))))).mono ?_; rintro e xc ⟨AC, cC, rfl, hoc, hb0⟩; have HXC : Hid (Below x5.heap.size x5 xc) := (got_b (.inr (.inr (.inl rfl)))).trans (hb0.mono (got_b (.inr (.inr (.inl rfl)))).size); have HGC := Lib.hid (grp_own hoc HGN.out HLMG.out HFL.out); obtain ⟨v0, v1, v2, v3, v4, v5, v6⟩ := HKV.out xc HXC.out; obtain ⟨nz1, nz2, nz3, nz4⟩ := HNX.out xc.heap.size HXC.out.size; obtain ⟨nw1, nw2, nw3, nw4⟩ := HNX.out (xc.heap.size + 1) (Nat.le_succ_of_le HXC.out.size); have HAB : Hid (∀ v, Below xc.heap.size xc v → v.heap[x5.heap.size]? = some A0) := fun v hv => (hv.block _ (lt_of_heap (got_w3 hb0))).trans (got_w3 hb0); have HAL : Hid (x5.heap.size ≤ x5.heap.size ∧ x5.heap.size < xc.heap.size) := ⟨by omega, lt_of_heap (got_w3 hb0)⟩; obtain ⟨a0, a1, a2, a3, a4, a5, af⟩ := avar (got_w3 hb0); clear hoc hb0)
            | (go_at_call 19; refine (HCC.out ((x5.drew.alloc S0).alloc A0) (HGV.out _ (got_b (.inr (.inr (.inr (.inl rfl))))))).mono ?_; rintro e xc ⟨AC, cC, rfl, hoc, hb0⟩; have HXC : Hid (Below x5.heap.size x5 xc) := (got_b (.inr (.inr (.inr (.inl rfl))))).trans (hb0.mono (got_b (.inr (.inr (.inr (.inl rfl))))).size); have HGC := Lib.hid (grp_own hoc HGN.out HLMG.out HFL.out); obtain ⟨v0, v1, v2, v3, v4, v5, v6⟩ := HKV.out xc HXC.out; obtain ⟨nz1, nz2, nz3, nz4⟩ := HNX.out xc.heap.size HXC.out.size; obtain ⟨nw1, nw2, nw3, nw4⟩ := HNX.out (xc.heap.size + 1) (Nat.le_succ_of_le HXC.out.size); have HSB : Hid (∀ v, Below xc.heap.size xc v → v.heap[x5.heap.size]? = some S0) := fun v hv => (hv.block _ (lt_of_heap (got_w4 hb0).1)).trans (got_w4 hb0).1; have HSL : Hid (x5.heap.size ≤ x5.heap.size ∧ x5.heap.size < xc.heap.size) := ⟨by omega, lt_of_heap (got_w4 hb0).1⟩; obtain ⟨s0, s1, sf⟩ := svar (got_w4 hb0).1; have HAB : Hid (∀ v, Below xc.heap.size xc v → v.heap[(x5.heap.size + 1)]? = some A0) := fun v hv => (hv.block _ (lt_of_heap (got_w4 hb0).2)).trans (got_w4 hb0).2; have HAL : Hid (x5.heap.size ≤ (x5.heap.size + 1) ∧ (x5.heap.size + 1) < xc.heap.size) := ⟨by omega, lt_of_heap (got_w4 hb0).2⟩; obtain ⟨a0, a1, a2, a3, a4, a5, af⟩ := avar (got_w4 hb0).2; clear hoc hb0)
            | (go_at_call 19; refine (HCC.out ((x5.drew.alloc A0).alloc S0) (HGV.out _ (got_b (.inr (.inr (.inr (.inr rfl))))))).mono ?_; rintro e xc ⟨AC, cC, rfl, hoc, hb0⟩; have HXC : Hid (Below x5.heap.size x5 xc) := (got_b (.inr (.inr (.inr (.inr rfl))))).trans (hb0.mono (got_b (.inr (.inr (.inr (.inr rfl))))).size); have HGC := Lib.hid (grp_own hoc HGN.out HLMG.out HFL.out); obtain ⟨v0, v1, v2, v3, v4, v5, v6⟩ := HKV.out xc HXC.out; obtain ⟨nz1, nz2, nz3, nz4⟩ := HNX.out xc.heap.size HXC.out.size; obtain ⟨nw1, nw2, nw3, nw4⟩ := HNX.out (xc.heap.size + 1) (Nat.le_succ_of_le HXC.out.size); have HAB : Hid (∀ v, Below xc.heap.size xc v → v.heap[x5.heap.size]? = some A0) := fun v hv => (hv.block _ (lt_of_heap (got_w5 hb0).1)).trans (got_w5 hb0).1; have HAL : Hid (x5.heap.size ≤ x5.heap.size ∧ x5.heap.size < xc.heap.size) := ⟨by omega, lt_of_heap (got_w5 hb0).1⟩; obtain ⟨a0, a1, a2, a3, a4, a5, af⟩ := avar (got_w5 hb0).1; have HSB : Hid (∀ v, Below xc.heap.size xc v → v.heap[(x5.heap.size + 1)]? = some S0) := fun v hv => (hv.block _ (lt_of_heap (got_w5 hb0).2)).trans (got_w5 hb0).2; have HSL : Hid (x5.heap.size ≤ (x5.heap.size + 1) ∧ (x5.heap.size + 1) < xc.heap.size) := ⟨by omega, lt_of_heap (got_w5 hb0).2⟩; obtain ⟨s0, s1, sf⟩ := svar (got_w5 hb0).2; clear hoc hb0)
            | (go_at_call 18; refine (HAP.out xc _ _ _ _ _ _ _ _ (HSI.out _ (HXC.out.trans ((Below.refl xc.heap.size xc).mono HXC.out.size))) (HGC.out.below (Below.refl xc.heap.size xc)) HF.out).mono ?_; rintro e x1 ⟨A1, n1, c1, B1, m1, d1, A2, n2, c2, B2, m2, d2, rfl, ho, hdis, hm, hh, hml, hhl, hb⟩; have hbx : Below x5.heap.size x5 x1 := HXC.out.trans (((Below.refl xc.heap.size xc).trans (hb.mono (Below.refl xc.heap.size xc).size)).mono HXC.out.size); have hB0 : x5.heap.size ≤ (xc).heap.size := Nat.le_trans HXC.out.size (Below.refl xc.heap.size xc).size; obtain ⟨z0, z1, z2, z3, z4, z5, z6⟩ := HKV.out x1 hbx; obtain ⟨nu1, nu2, nu3, nu4⟩ := HNX.out x1.heap.size hbx.size; obtain ⟨nt1, nt2, nt3, nt4⟩ := HNX.out (x1.heap.size + 1) (Nat.le_succ_of_le hbx.size); (try (have hS1 := HSB.out x1 ((Below.refl xc.heap.size xc).trans (hb.mono (Below.refl xc.heap.size xc).size)); have hSN := HSL.out.1; have hSB := Nat.lt_of_lt_of_le HSL.out.2 (Below.refl xc.heap.size xc).size)); (try (have hA1 := HAB.out x1 ((Below.refl xc.heap.size xc).trans (hb.mono (Below.refl xc.heap.size xc).size)); have hAN := HAL.out.1; have hAB := Nat.lt_of_lt_of_le HAL.out.2 (Below.refl xc.heap.size xc).size)); (try (obtain ⟨sa0, sa1, saf⟩ := svar hS1; have sl := lt_of_heap hS1; have sn := Nat.ne_of_lt sl; have sn2 := Nat.ne_of_gt sl)); (try (obtain ⟨aa0, aa1, aa2, aa3, aa4, aa5, aaf⟩ := avar hA1; have sl2 := lt_of_heap hA1; have sn3 := Nat.ne_of_lt sl2; have sn4 := Nat.ne_of_gt sl2)); (try (have hNK := ne_of_vars hS1 hA1; have hKN := Ne.symm hNK)))
            | (go_at_call 18; refine (HAP.out (xc.alloc S0) _ _ _ _ _ _ _ _ (HSI.out _ (HXC.out.trans ((al1 xc S0).mono HXC.out.size))) (HGC.out.below (al1 xc S0)) HF.out).mono ?_; rintro e x1 ⟨A1, n1, c1, B1, m1, d1, A2, n2, c2, B2, m2, d2, rfl, ho, hdis, hm, hh, hml, hhl, hb⟩; have hbx : Below x5.heap.size x5 x1 := HXC.out.trans (((al1 xc S0).trans (hb.mono (al1 xc S0).size)).mono HXC.out.size); have hB0 : x5.heap.size ≤ ((xc.alloc S0)).heap.size := Nat.le_trans HXC.out.size (al1 xc S0).size; obtain ⟨z0, z1, z2, z3, z4, z5, z6⟩ := HKV.out x1 hbx; obtain ⟨nu1, nu2, nu3, nu4⟩ := HNX.out x1.heap.size hbx.size; obtain ⟨nt1, nt2, nt3, nt4⟩ := HNX.out (x1.heap.size + 1) (Nat.le_succ_of_le hbx.size); have hS1 := ((hb.block xc.heap.size (by simp)).trans (heap_alloc_new xc _)); have hSN : x5.heap.size ≤ xc.heap.size := (by have := HXC.out.size; omega); have hSB : xc.heap.size < ((xc.alloc S0)).heap.size := (by simp <;> omega); (try (have hA1 := HAB.out x1 ((al1 xc S0).trans (hb.mono (al1 xc S0).size)); have hAN := HAL.out.1; have hAB := Nat.lt_of_lt_of_le HAL.out.2 (al1 xc S0).size)); (try (obtain ⟨sa0, sa1, saf⟩ := svar hS1; have sl := lt_of_heap hS1; have sn := Nat.ne_of_lt sl; have sn2 := Nat.ne_of_gt sl)); (try (obtain ⟨aa0, aa1, aa2, aa3, aa4, aa5, aaf⟩ := avar hA1; have sl2 := lt_of_heap hA1; have sn3 := Nat.ne_of_lt sl2; have sn4 := Nat.ne_of_gt sl2)); (try (have hNK := ne_of_vars hS1 hA1; have hKN := Ne.symm hNK)))
            | (go_at_call 18; refine (HAP.out (xc.alloc A0) _ _ _ _ _ _ _ _ (HSI.out _ (HXC.out.trans ((al1 xc A0).mono HXC.out.size))) (HGC.out.below (al1 xc A0)) HF.out).mono ?_; rintro e x1 ⟨A1, n1, c1, B1, m1, d1, A2, n2, c2, B2, m2, d2, rfl, ho, hdis, hm, hh, hml, hhl, hb⟩; have hbx : Below x5.heap.size x5 x1 := HXC.out.trans (((al1 xc A0).trans (hb.mono (al1 xc A0).size)).mono HXC.out.size); have hB0 : x5.heap.size ≤ ((xc.alloc A0)).heap.size := Nat.le_trans HXC.out.size (al1 xc A0).size; obtain ⟨z0, z1, z2, z3, z4, z5, z6⟩ := HKV.out x1 hbx; obtain ⟨nu1, nu2, nu3, nu4⟩ := HNX.out x1.heap.size hbx.size; obtain ⟨nt1, nt2, nt3, nt4⟩ := HNX.out (x1.heap.size + 1) (Nat.le_succ_of_le hbx.size); (try (have hS1 := HSB.out x1 ((al1 xc A0).trans (hb.mono (al1 xc A0).size)); have hSN := HSL.out.1; have hSB := Nat.lt_of_lt_of_le HSL.out.2 (al1 xc A0).size)); have hA1 := ((hb.block xc.heap.size (by simp)).trans (heap_alloc_new xc _)); have hAN : x5.heap.size ≤ xc.heap.size := (by have := HXC.out.size; omega); have hAB : xc.heap.size < ((xc.alloc A0)).heap.size := (by simp <;> omega); (try (obtain ⟨sa0, sa1, saf⟩ := svar hS1; have sl := lt_of_heap hS1; have sn := Nat.ne_of_lt sl; have sn2 := Nat.ne_of_gt sl)); (try (obtain ⟨aa0, aa1, aa2, aa3, aa4, aa5, aaf⟩ := avar hA1; have sl2 := lt_of_heap hA1; have sn3 := Nat.ne_of_lt sl2; have sn4 := Nat.ne_of_gt sl2)); (try (have hNK := ne_of_vars hS1 hA1; have hKN := Ne.symm hNK)))
            | (go_at_call 18; refine (HAP.out ((xc.alloc S0).alloc A0) _ _ _ _ _ _ _ _ (HSI.out _ (HXC.out.trans ((al2 xc S0 A0).mono HXC.out.size))) (HGC.out.below (al2 xc S0 A0)) HF.out).mono ?_; rintro e x1 ⟨A1, n1, c1, B1, m1, d1, A2, n2, c2, B2, m2, d2, rfl, ho, hdis, hm, hh, hml, hhl, hb⟩; have hbx : Below x5.heap.size x5 x1 := HXC.out.trans (((al2 xc S0 A0).trans (hb.mono (al2 xc S0 A0).size)).mono HXC.out.size); have hB0 : x5.heap.size ≤ (((xc.alloc S0).alloc A0)).heap.size := Nat.le_trans HXC.out.size (al2 xc S0 A0).size; obtain ⟨z0, z1, z2, z3, z4, z5, z6⟩ := HKV.out x1 hbx; obtain ⟨nu1, nu2, nu3, nu4⟩ := HNX.out x1.heap.size hbx.size; obtain ⟨nt1, nt2, nt3, nt4⟩ := HNX.out (x1.heap.size + 1) (Nat.le_succ_of_le hbx.size); have hS1 := ((hb.block xc.heap.size (by simp <;> omega)).trans (alloc_old (heap_alloc_new xc _))); have hSN : x5.heap.size ≤ xc.heap.size := (by have := HXC.out.size; omega); have hSB : xc.heap.size < (((xc.alloc S0).alloc A0)).heap.size := (by simp <;> omega); have hA1 := ((hb.block (xc.heap.size + 1) (by simp)).trans (alloc_two xc _ _)); have hAN : x5.heap.size ≤ (xc.heap.size + 1) := (by have := HXC.out.size; omega); have hAB : (xc.heap.size + 1) < (((xc.alloc S0).alloc A0)).heap.size := (by simp <;> omega); (try (obtain ⟨sa0, sa1, saf⟩ := svar hS1; have sl := lt_of_heap hS1; have sn := Nat.ne_of_lt sl; have sn2 := Nat.ne_of_gt sl)); (try (obtain ⟨aa0, aa1, aa2, aa3, aa4, aa5, aaf⟩ := avar hA1; have sl2 := lt_of_heap hA1; have sn3 := Nat.ne_of_lt sl2; have sn4 := Nat.ne_of_gt sl2)); (try (have hNK := ne_of_vars hS1 hA1; have hKN := Ne.symm hNK)))
            | (go_at_call 18; refine (HAP.out ((xc.alloc A0).alloc S0) _ _ _ _ _ _ _ _ (HSI.out _ (HXC.out.trans ((al2 xc A0 S0).mono HXC.out.size))) (HGC.out.below (al2 xc A0 S0)) HF.out).mono ?_; rintro e x1 ⟨A1, n1, c1, B1, m1, d1, A2, n2, c2, B2, m2, d2, rfl, ho, hdis, hm, hh, hml, hhl, hb⟩; have hbx : Below x5.heap.size x5 x1 := HXC.out.trans (((al2 xc A0 S0).trans (hb.mono (al2 xc A0 S0).size)).mono HXC.out.size); have hB0 : x5.heap.size ≤ (((xc.alloc A0).alloc S0)).heap.size := Nat.le_trans HXC.out.size (al2 xc A0 S0).size; obtain ⟨z0, z1, z2, z3, z4, z5, z6⟩ := HKV.out x1 hbx; obtain ⟨nu1, nu2, nu3, nu4⟩ := HNX.out x1.heap.size hbx.size; obtain ⟨nt1, nt2, nt3, nt4⟩ := HNX.out (x1.heap.size + 1) (Nat.le_succ_of_le hbx.size); have hS1 := ((hb.block (xc.heap.size + 1) (by simp)).trans (alloc_two xc _ _)); have hSN : x5.heap.size ≤ (xc.heap.size + 1) := (by have := HXC.out.size; omega); have hSB : (xc.heap.size + 1) < (((xc.alloc A0).alloc S0)).heap.size := (by simp <;> omega); have hA1 := ((hb.block xc.heap.size (by simp <;> omega)).trans (alloc_old (heap_alloc_new xc _))); have hAN : x5.heap.size ≤ xc.heap.size := (by have := HXC.out.size; omega); have hAB : xc.heap.size < (((xc.alloc A0).alloc S0)).heap.size := (by simp <;> omega); (try (obtain ⟨sa0, sa1, saf⟩ := svar hS1; have sl := lt_of_heap hS1; have sn := Nat.ne_of_lt sl; have sn2 := Nat.ne_of_gt sl)); (try (obtain ⟨aa0, aa1, aa2, aa3, aa4, aa5, aaf⟩ := avar hA1; have sl2 := lt_of_heap hA1; have sn3 := Nat.ne_of_lt sl2; have sn4 := Nat.ne_of_gt sl2)); (try (have hNK := ne_of_vars hS1 hA1; have hKN := Ne.symm hNK)))
            | fail)
      all_goals
        go_wp2
        go_meet
        case rel => first
          | (have hgot := gen_4 (cd := goodN c G) (f := apF c G L Q) (v := apV c G L Q) hS1 hSN hSB hA1 hAN hAB hNK ho hm hh hml hhl hB0 hbx; with_reducible exact hgot)
          | (have hgot := gen_3 (cd := goodN c G) (f := apF c G L Q) (v := apV c G L Q) hS1 hSN hSB ho hm hh hml hhl hB0 hbx; with_reducible exact hgot)
          | (have hgot := gen_5 (cd := goodN c G) (f := apF c G L Q) (v := apV c G L Q) hA1 hAN hAB ho hm hh hml hhl hB0 hbx; with_reducible exact hgot)
          | (have hgot := gen_1 (cd := goodN c G) (f := apF c G L Q) (v := apV c G L Q) ho hm hh hml hhl hB0 hbx; with_reducible exact hgot)
          | (have hgot := gen_2 (cd := goodN c G) (f := apF c G L Q) (v := apV c G L Q) ho hm hh hml hhl hB0 hbx; with_reducible exact hgot)
    case rest =>
      obtain ⟨gS, gA, A6, n6, e6, B6, m6, d6, A7, n7, e7, B7, m7, d7, rfl, rfl, hS, hA, ho, hm, hh, hml, hhl, hlS, hlA, hne, hb⟩ := hcut
      clear nx1 nx2 nx3 nx4 ny1 ny2 ny3 ny4 t0 t1 t2 t3 t4 t5 t6
      have HXc := Lib.hid hS
      have HAc := Lib.hid hA
      have OXc := Lib.hid ho
      have HBC := Lib.hid hb
      obtain ⟨-, _, _, ee, -, -, hrm, -, -⟩ := Rec.row_of_own hm (by have := (HML.out HF.out).1; omega)
      cases ee
      obtain ⟨-, _, _, ee, -, -, hrh, -, -⟩ := Rec.row_of_own hh (by have := (HML.out HF.out).2; omega)
      cases ee
      have HRM1 := Lib.hid hrm
      have HRH1 := Lib.hid hrh
      have HN7 := Lib.hid hml
      have HM7 := Lib.hid hhl
      have HPc := Lib.hid ((hb.block g (lt_of_heap HP5.out)).trans HP5.out)
      have HCc := Lib.hid ((hb.block g3 HG3L.out).trans HC5.out)
      have HIc := Lib.hid ((hb.block g5 HG5L.out).trans X5.out)
      have OIc := Lib.hid (OI5.out.below hb)
      have HBc : Hid (Below g w wc) := HB5.out.trans (hb.mono (Nat.le_of_lt (lt_of_heap HP5.out)))
      clear hS hA ho hm hh hml hhl hlS hlA hne hb hrm hrh
      obtain ⟨p0, p1⟩ := cells2 HPc.out
      obtain ⟨c0, c1, c2, c3, c4⟩ := cells5 HCc.out
      obtain ⟨i0, i1⟩ := cells2 HIc.out
      obtain ⟨x0, x1⟩ := cells2 HXc.out
      obtain ⟨a0, a1, a2, a3, a4, a5⟩ := cells6 HAc.out
      go_wp2_with fail
      refine (HRA.out wc HBc.out HF.out).mono ?_
      clear p0 p1 c0 c1 c2 c3 c4 i0 i1 x0 x1 a0 a1 a2 a3 a4 a5
      rintro e w9 ⟨A9, n9, e9, B9, m9, d9, A10, n10, e10, B10, m10, d10, rfl, hv, -, -, hrm, hrn, hrh, hro, hb⟩
      have Z9 := Lib.hid hb
      have HVY := Lib.hid hv
      have HRM2 := Lib.hid hrm
      have HRH2 := Lib.hid hrh
      have HN10 := Lib.hid hrn
      have HM10 := Lib.hid hro
      clear hv hrm hrh hrn hro
      have HB_1 : Hid (Below g w w9) := HBc.out.trans (hb.mono (Nat.le_of_lt (lt_of_heap HPc.out)))
      have Hp_1 := Lib.hid ((hb.block g (lt_of_heap HPc.out)).trans HPc.out)
      have Hc_1 := Lib.hid ((hb.block g3 (lt_of_heap HCc.out)).trans HCc.out)
      have Hi_1 := Lib.hid ((hb.block g5 (lt_of_heap HIc.out)).trans HIc.out)
      have Hx_1 := Lib.hid ((hb.block gS (lt_of_heap HXc.out)).trans HXc.out)
      have Ha_1 := Lib.hid ((hb.block gA (lt_of_heap HAc.out)).trans HAc.out)
      have OX_1 := Lib.hid (OXc.out.below hb)
      have OI_1 := Lib.hid (OIc.out.below hb)
      clear hb
      obtain ⟨p0, p1⟩ := cells2 Hp_1.out
      obtain ⟨c0, c1, c2, c3, c4⟩ := cells5 Hc_1.out
      obtain ⟨i0, i1⟩ := cells2 Hi_1.out
      obtain ⟨x0, x1⟩ := cells2 Hx_1.out
      obtain ⟨a0, a1, a2, a3, a4, a5⟩ := cells6 Ha_1.out
      obtain ⟨g8, hg8⟩ : ∃ z, w9.heap.size = z := ⟨_, rfl⟩
      have HGg8 := Lib.hid hg8
      clear hg8
      have HLp_8 : Hid (g < g8) := HGg8.out ▸ lt_of_heap Hp_1.out
      have HLc_8 : Hid (g3 < g8) := HGg8.out ▸ lt_of_heap Hc_1.out
      have HLi_8 : Hid (g5 < g8) := HGg8.out ▸ lt_of_heap Hi_1.out
      have HLx_8 : Hid (gS < g8) := HGg8.out ▸ lt_of_heap Hx_1.out
      have HLa_8 : Hid (gA < g8) := HGg8.out ▸ lt_of_heap Ha_1.out
      clear p0 p1 c0 c1 c2 c3 c4 i0 i1 x0 x1 a0 a1 a2 a3 a4 a5
      go_wp2_with (first
        | ((with_reducible show wpList _ _ _ (⟨some 8, .alloc _, _, _, _, _⟩ :: _) _ _); refine wpList_alloc_var (o := ⟨some 8, _, _, _, _, _⟩) rfl 29 rfl g8 HGg8.out _ HZS.out ?_; intro xa8 XA8 CA8; obtain ⟨h8, hh8⟩ : ∃ z, xa8.heap.size = z := ⟨_, rfl⟩; have HGh8 := Lib.hid hh8; have HL8 : Hid (g8 < h8) := (by rw [← hh8]; exact lt_of_heap XA8.out); clear hh8)
        | ((with_reducible show wpList _ _ _ (⟨some 9, .alloc _, _, _, _, _⟩ :: _) _ _); refine wpList_alloc_var (o := ⟨some 9, _, _, _, _, _⟩) rfl 40 rfl h8 HGh8.out _ HZA.out ?_; intro xb8 XB8 CB8; have XAB8 := Lib.hid ((CB8.out.block g8 HL8.out).trans XA8.out))
        | ((with_reducible show wpList _ _ _ (⟨none, .store _ (.tmp 8) _, _, _, _, _⟩ :: _) _ _); refine wpList_store_only (o := ⟨none, .store 29 (.tmp 8) (.tmp 31), _, _, _, _⟩) rfl _ _ _ rfl rfl g8 #[.slice A9 n9 e9, .slice B9 m9 d9] rfl rfl 29 _ XAB8.out size_shelf rfl (onesV _ _ _ _ _ _) ?_; intro xc8 XC8 TC8; have XBC8 := Lib.hid ((TC8.out.block h8 (fun e => Nat.lt_irrefl _ (e ▸ HL8.out)) (fun e => Nat.lt_irrefl _ (e ▸ HL8.out)) (lt_of_heap XB8.out)).trans XB8.out))
        | ((with_reducible show wpList _ _ _ (⟨none, .store _ (.tmp 9) _, _, _, _, _⟩ :: _) _ _); refine wpList_store_only (o := ⟨none, .store 40 (.tmp 9) (.tmp 32), _, _, _, _⟩) rfl _ _ _ rfl rfl h8 #[.int .i64 (goodN c G), .bool (apF c G L Q), .string (apV c G L Q), .slice A10 n10 e10, .slice B10 m10 d10, .int .u64 0] rfl rfl 40 _ XBC8.out size_answer rfl (onesA _ _ _ _ _ _ _ _ _ _) ?_; intro x8 Y8 TD8; have X8 := Lib.hid ((TD8.out.block g8 (fun e => Nat.lt_irrefl _ (e ▸ HL8.out)) (fun e => Nat.lt_irrefl _ (e ▸ HL8.out)) (lt_of_heap XC8.out)).trans XC8.out); have HBX8 : Hid (Below g8 w9 x8) := xa_below HL8.out CA8.out CB8.out TC8.out TD8.out (lt_of_heap XA8.out); have Hp_2 := Lib.hid ((HBX8.out.block g HLp_8.out).trans Hp_1.out); have Hc_2 := Lib.hid ((HBX8.out.block g3 HLc_8.out).trans Hc_1.out); have Hi_2 := Lib.hid ((HBX8.out.block g5 HLi_8.out).trans Hi_1.out); have Hx_2 := Lib.hid ((HBX8.out.block gS HLx_8.out).trans Hx_1.out); have Ha_2 := Lib.hid ((HBX8.out.block gA HLa_8.out).trans Ha_1.out); obtain ⟨p0, p1⟩ := cells2 Hp_2.out; obtain ⟨c0, c1, c2, c3, c4⟩ := cells5 Hc_2.out; obtain ⟨i0, i1⟩ := cells2 Hi_2.out; obtain ⟨x0, x1⟩ := cells2 Hx_2.out; obtain ⟨a0, a1, a2, a3, a4, a5⟩ := cells6 Ha_2.out; obtain ⟨y0, y1⟩ := cells2 X8.out; obtain ⟨b0, b1, b2, b3, b4, b5⟩ := cells6 Y8.out)
        | fail)
      have HB_2 : Hid (Below g w x8) := HB_1.out.trans (HBX8.out.mono (Nat.le_of_lt HLp_8.out))
      have OX_2 := Lib.hid (OX_1.out.below (HGg8.out.symm ▸ HBX8.out))
      have OI_2 := Lib.hid (OI_1.out.below (HGg8.out.symm ▸ HBX8.out))
      go_wp2_with fail
      refine (HGE.out x8 _ _ _ _ _ _ (OI_2.out.shv (by have := HF.out.1; omega) (by have := HF.out.2.1; omega))).mono ?_
      clear p0 p1 c0 c1 c2 c3 c4 i0 i1 x0 x1 a0 a1 a2 a3 a4 a5 y0 y1 b0 b1 b2 b3 b4 b5
      rintro e w11 ⟨rfl, hb⟩
      have Z11 := Lib.hid hb
      have HB_3 : Hid (Below g w w11) := HB_2.out.trans (hb.mono (Nat.le_of_lt (lt_of_heap Hp_2.out)))
      have Hp_3 := Lib.hid ((hb.block g (lt_of_heap Hp_2.out)).trans Hp_2.out)
      have Hc_3 := Lib.hid ((hb.block g3 (lt_of_heap Hc_2.out)).trans Hc_2.out)
      have Hi_3 := Lib.hid ((hb.block g5 (lt_of_heap Hi_2.out)).trans Hi_2.out)
      have Hx_3 := Lib.hid ((hb.block gS (lt_of_heap Hx_2.out)).trans Hx_2.out)
      have Ha_3 := Lib.hid ((hb.block gA (lt_of_heap Ha_2.out)).trans Ha_2.out)
      have Hy_3 := Lib.hid ((hb.block g8 (lt_of_heap X8.out)).trans X8.out)
      have Hb_3 := Lib.hid ((hb.block h8 (lt_of_heap Y8.out)).trans Y8.out)
      have OX_3 := Lib.hid (OX_2.out.below hb)
      have OI_3 := Lib.hid (OI_2.out.below hb)
      clear hb
      obtain ⟨p0, p1⟩ := cells2 Hp_3.out
      obtain ⟨c0, c1, c2, c3, c4⟩ := cells5 Hc_3.out
      obtain ⟨i0, i1⟩ := cells2 Hi_3.out
      obtain ⟨x0, x1⟩ := cells2 Hx_3.out
      obtain ⟨a0, a1, a2, a3, a4, a5⟩ := cells6 Ha_3.out
      obtain ⟨y0, y1⟩ := cells2 Hy_3.out
      obtain ⟨b0, b1, b2, b3, b4, b5⟩ := cells6 Hb_3.out
      go_wp2_with fail
      refine (HRG.out w11 _ _ _ _ _ _ (HSS.out w11 HB_3.out HF.out)).mono ?_
      clear p0 p1 c0 c1 c2 c3 c4 i0 i1 x0 x1 a0 a1 a2 a3 a4 a5 y0 y1 b0 b1 b2 b3 b4 b5
      rintro e w12 ⟨rfl, hb⟩
      have Z12 := Lib.hid hb
      have HB_4 : Hid (Below g w w12) := HB_3.out.trans (hb.mono (Nat.le_of_lt (lt_of_heap Hp_3.out)))
      have Hp_4 := Lib.hid ((hb.block g (lt_of_heap Hp_3.out)).trans Hp_3.out)
      have Hc_4 := Lib.hid ((hb.block g3 (lt_of_heap Hc_3.out)).trans Hc_3.out)
      have Hi_4 := Lib.hid ((hb.block g5 (lt_of_heap Hi_3.out)).trans Hi_3.out)
      have Hx_4 := Lib.hid ((hb.block gS (lt_of_heap Hx_3.out)).trans Hx_3.out)
      have Ha_4 := Lib.hid ((hb.block gA (lt_of_heap Ha_3.out)).trans Ha_3.out)
      have Hy_4 := Lib.hid ((hb.block g8 (lt_of_heap Hy_3.out)).trans Hy_3.out)
      have Hb_4 := Lib.hid ((hb.block h8 (lt_of_heap Hb_3.out)).trans Hb_3.out)
      have OX_4 := Lib.hid (OX_3.out.below hb)
      have OI_4 := Lib.hid (OI_3.out.below hb)
      clear hb
      obtain ⟨p0, p1⟩ := cells2 Hp_4.out
      obtain ⟨c0, c1, c2, c3, c4⟩ := cells5 Hc_4.out
      obtain ⟨i0, i1⟩ := cells2 Hi_4.out
      obtain ⟨x0, x1⟩ := cells2 Hx_4.out
      obtain ⟨a0, a1, a2, a3, a4, a5⟩ := cells6 Ha_4.out
      obtain ⟨y0, y1⟩ := cells2 Hy_4.out
      obtain ⟨b0, b1, b2, b3, b4, b5⟩ := cells6 Hb_4.out
      have ZC : Hid (Below wc.heap.size wc w12) := ((Z9.out.trans ((HBX8.out).mono (by have := HGg8.out; have := Z9.out.size; omega))).trans (Z11.out.mono (by have := HBX8.out.size; have := HGg8.out; have := Z9.out.size; omega))).trans (Z12.out.mono (by have := HBX8.out.size; have := HGg8.out; have := Z9.out.size; have := Z11.out.size; omega))
      have ZY : Hid (Below w9.heap.size w9 w12) := ((HGg8.out.symm ▸ HBX8.out).trans (Z11.out.mono (by have := HBX8.out.size; have := HGg8.out; omega))).trans (Z12.out.mono (by have := HBX8.out.size; have := HGg8.out; have := Z11.out.size; omega))
      have HYV : Hid (∀ v, Below w12.heap.size w12 v → Shv v A9 n9 e9 B9 m9 d9 (apL c G L) (apQ c G Q)) := fun v hv => (HVY.out.below ZY.out).below hv
      have HXV : Hid (∀ v, Below w12.heap.size w12 v → Shv v A6 n6 e6 B6 m6 d6 (apL c G L) (apQ c G Q)) := fun v hv => (OX_4.out.shv (by have := (HLE.out HF.out).1; omega) (by have := (HLE.out HF.out).2; omega)).below hv
      have HIV : Hid (∀ v, Below w12.heap.size w12 v → Shv v A4 n4 e4 B4 m4 d4 L Q) := fun v hv => (OI_4.out.shv (by have := HF.out.1; omega) (by have := HF.out.2.1; omega)).below hv
      have HSV : Hid (∀ v, Below w12.heap.size w12 v → Shv v A n k B m d L Q) := fun v hv => (HSS.out w12 HB_4.out HF.out).below hv
      have HR1 : Hid (∀ v, Below w12.heap.size w12 v → RP.Row v A7 (apM c G L) ∧ RB.Row v B7 (apH c G L Q)) := fun v hv => ⟨(HRM1.out.below ZC.out).below hv, (HRH1.out.below ZC.out).below hv⟩
      have HR2 : Hid (∀ v, Below w12.heap.size w12 v → RP.Row v A10 (apM c G L) ∧ RB.Row v B10 (apH c G L Q)) := fun v hv => ⟨(HRM2.out.below ZY.out).below hv, (HRH2.out.below ZY.out).below hv⟩
      clear p0 p1 c0 c1 c2 c3 c4 i0 i1 x0 x1 a0 a1 a2 a3 a4 a5 y0 y1 b0 b1 b2 b3 b4 b5
      have HKW : Hid (∀ V, Below w12.heap.size w12 V → V.cell? ⟨gS, 0, none⟩ = some (.slice A6 n6 e6) ∧ V.cell? ⟨gS, 1, none⟩ = some (.slice B6 m6 d6) ∧ V.cell? ⟨g8, 0, none⟩ = some (.slice A9 n9 e9) ∧ V.cell? ⟨g8, 1, none⟩ = some (.slice B9 m9 d9) ∧ V.cell? ⟨gA, 0, none⟩ = some (.int .i64 (goodN c G)) ∧ V.cell? ⟨gA, 1, none⟩ = some (.bool (apF c G L Q)) ∧ V.cell? ⟨gA, 2, none⟩ = some (.string (apV c G L Q)) ∧ V.cell? ⟨gA, 3, none⟩ = some (.slice A7 n7 e7) ∧ V.cell? ⟨gA, 4, none⟩ = some (.slice B7 m7 d7) ∧ V.cell? ⟨gA, 5, none⟩ = some (.int .u64 0) ∧ V.cell? ⟨h8, 0, none⟩ = some (.int .i64 (goodN c G)) ∧ V.cell? ⟨h8, 1, none⟩ = some (.bool (apF c G L Q)) ∧ V.cell? ⟨h8, 2, none⟩ = some (.string (apV c G L Q)) ∧ V.cell? ⟨h8, 3, none⟩ = some (.slice A10 n10 e10) ∧ V.cell? ⟨h8, 4, none⟩ = some (.slice B10 m10 d10) ∧ V.cell? ⟨h8, 5, none⟩ = some (.int .u64 0) ∧ V.cell? ⟨g5, 0, none⟩ = some (.slice A4 n4 e4) ∧ V.cell? ⟨g5, 1, none⟩ = some (.slice B4 m4 d4) ∧ V.cell? ⟨g, 0, none⟩ = some (.slice A n k) ∧ V.cell? ⟨g, 1, none⟩ = some (.slice B m d)) := fun V hv => by
        obtain ⟨x0, x1⟩ := cells2 ((hv.block gS (lt_of_heap Hx_4.out)).trans Hx_4.out)
        obtain ⟨y0, y1⟩ := cells2 ((hv.block g8 (lt_of_heap Hy_4.out)).trans Hy_4.out)
        obtain ⟨a0, a1, a2, a3, a4, a5⟩ := cells6 ((hv.block gA (lt_of_heap Ha_4.out)).trans Ha_4.out)
        obtain ⟨b0, b1, b2, b3, b4, b5⟩ := cells6 ((hv.block h8 (lt_of_heap Hb_4.out)).trans Hb_4.out)
        obtain ⟨i0, i1⟩ := cells2 ((hv.block g5 (lt_of_heap Hi_4.out)).trans Hi_4.out)
        obtain ⟨p0, p1⟩ := cells2 ((hv.block g (lt_of_heap Hp_4.out)).trans Hp_4.out)
        exact ⟨x0, x1, y0, y1, a0, a1, a2, a3, a4, a5, b0, b1, b2, b3, b4, b5, i0, i1, p0, p1⟩
      have HDW : Hid (Below w12.heap.size w12 w12.drew) := (Below.refl _ _).drew
      generalize valK L c.key = vl at *
      generalize hasK L c.key = hs at *
      generalize riseB L = rb at *
      have hvv : (vl.toList == vl.toList) = true := by simp
      have hss : (hs != hs) = false := by simp
      have hrr : (rb != rb) = false := by simp
      obtain ⟨f0_0, f0_1, f0_2, f0_3, f0_4, f0_5, f0_6, f0_7, f0_8, f0_9, f0_10, f0_11, f0_12, f0_13, f0_14, f0_15, f0_16, f0_17, f0_18, f0_19⟩ := HKW.out w12 (Below.refl _ _)
      go_upto_region 8 with fail
      go_region_held3 (fun V => V.cell? ⟨gS, 0, none⟩ = some (.slice A6 n6 e6) ∧ V.cell? ⟨gS, 1, none⟩ = some (.slice B6 m6 d6) ∧ V.cell? ⟨g8, 0, none⟩ = some (.slice A9 n9 e9) ∧ V.cell? ⟨g8, 1, none⟩ = some (.slice B9 m9 d9) ∧ V.cell? ⟨gA, 0, none⟩ = some (.int .i64 (goodN c G)) ∧ V.cell? ⟨gA, 1, none⟩ = some (.bool (apF c G L Q)) ∧ V.cell? ⟨gA, 2, none⟩ = some (.string (apV c G L Q)) ∧ V.cell? ⟨gA, 3, none⟩ = some (.slice A7 n7 e7) ∧ V.cell? ⟨gA, 4, none⟩ = some (.slice B7 m7 d7) ∧ V.cell? ⟨gA, 5, none⟩ = some (.int .u64 0) ∧ V.cell? ⟨h8, 0, none⟩ = some (.int .i64 (goodN c G)) ∧ V.cell? ⟨h8, 1, none⟩ = some (.bool (apF c G L Q)) ∧ V.cell? ⟨h8, 2, none⟩ = some (.string (apV c G L Q)) ∧ V.cell? ⟨h8, 3, none⟩ = some (.slice A10 n10 e10) ∧ V.cell? ⟨h8, 4, none⟩ = some (.slice B10 m10 d10) ∧ V.cell? ⟨h8, 5, none⟩ = some (.int .u64 0) ∧ V.cell? ⟨g5, 0, none⟩ = some (.slice A4 n4 e4) ∧ V.cell? ⟨g5, 1, none⟩ = some (.slice B4 m4 d4) ∧ V.cell? ⟨g, 0, none⟩ = some (.slice A n k) ∧ V.cell? ⟨g, 1, none⟩ = some (.slice B m d)) (go_keep)
        (first
          | (go_at_call 23; refine (HSM.out w12.drew _ _ _ _ _ _ _ _ _ _ _ _ _ _ (HXV.out _ HDW.out) (HYV.out _ HDW.out)).mono ?_; rintro e v1 ⟨rfl, hb⟩; have V1 := Lib.hid (HDW.out.trans hb); clear hb; obtain ⟨f1_0, f1_1, f1_2, f1_3, f1_4, f1_5, f1_6, f1_7, f1_8, f1_9, f1_10, f1_11, f1_12, f1_13, f1_14, f1_15, f1_16, f1_17, f1_18, f1_19⟩ := HKW.out v1 V1.out)
          | (go_at_call 24; refine (HSA.out v1 _ _ _ _ _ _ _ _ _ _ _ _ _ _ _ (apM c G L) (apH c G L Q) HN7.out HN10.out HM7.out HM10.out (HR1.out _ V1.out).1 (HR2.out _ V1.out).1 (HR1.out _ V1.out).2 (HR2.out _ V1.out).2).mono ?_; rintro e v2 ⟨rfl, hb⟩; have V2 := Lib.hid (V1.out.trans (hb.mono V1.out.size)); clear hb; obtain ⟨f2_0, f2_1, f2_2, f2_3, f2_4, f2_5, f2_6, f2_7, f2_8, f2_9, f2_10, f2_11, f2_12, f2_13, f2_14, f2_15, f2_16, f2_17, f2_18, f2_19⟩ := HKW.out v2 V2.out)
          | (go_at_call 25; refine (HMY.out v2 _ _ _ _ _ _ (HIV.out _ V2.out)).mono ?_; rintro e v3 ⟨rfl, hb⟩; have V3 := Lib.hid (V2.out.trans (hb.mono V2.out.size)); clear hb; obtain ⟨f3_0, f3_1, f3_2, f3_3, f3_4, f3_5, f3_6, f3_7, f3_8, f3_9, f3_10, f3_11, f3_12, f3_13, f3_14, f3_15, f3_16, f3_17, f3_18, f3_19⟩ := HKW.out v3 V3.out)
          | (go_at_call 26; refine (HMR.out v3 _ _ _ _ _ _ (HSV.out _ V3.out)).mono ?_; rintro e v4 ⟨rfl, hb⟩; have V4 := Lib.hid (V3.out.trans (hb.mono V3.out.size)); clear hb; obtain ⟨f4_0, f4_1, f4_2, f4_3, f4_4, f4_5, f4_6, f4_7, f4_8, f4_9, f4_10, f4_11, f4_12, f4_13, f4_14, f4_15, f4_16, f4_17, f4_18, f4_19⟩ := HKW.out v4 V4.out)
          | fail)
      clear f0_0 f0_1 f0_2 f0_3 f0_4 f0_5 f0_6 f0_7 f0_8 f0_9 f0_10 f0_11 f0_12 f0_13 f0_14 f0_15 f0_16 f0_17 f0_18 f0_19 f1_0 f1_1 f1_2 f1_3 f1_4 f1_5 f1_6 f1_7 f1_8 f1_9 f1_10 f1_11 f1_12 f1_13 f1_14 f1_15 f1_16 f1_17 f1_18 f1_19 f2_0 f2_1 f2_2 f2_3 f2_4 f2_5 f2_6 f2_7 f2_8 f2_9 f2_10 f2_11 f2_12 f2_13 f2_14 f2_15 f2_16 f2_17 f2_18 f2_19 f3_0 f3_1 f3_2 f3_3 f3_4 f3_5 f3_6 f3_7 f3_8 f3_9 f3_10 f3_11 f3_12 f3_13 f3_14 f3_15 f3_16 f3_17 f3_18 f3_19 f4_0 f4_1 f4_2 f4_3 f4_4 f4_5 f4_6 f4_7 f4_8 f4_9 f4_10 f4_11 f4_12 f4_13 f4_14 f4_15 f4_16 f4_17 f4_18 f4_19
      have Z5 : Hid (Below x5.heap.size x5 v4) := (HBC.out.trans (ZC.out.mono HBC.out.size)).trans (V4.out.mono (by have := HBC.out.size; have := ZC.out.size; omega))
      have OX4 : Hid (OwnS v4 x5.heap.size A6 n6 e6 B6 m6 d6 (apL c G L) (apQ c G Q)) := (OX_4.out.below V4.out)
      have HX4 := Lib.hid ((V4.out.block gS (lt_of_heap Hx_4.out)).trans Hx_4.out)
      obtain ⟨x0, x1⟩ := cells2 HX4.out
      go_wp2_with fail
      refine (HOV.out v4 x5.heap.size _ _ _ _ _ _ _ _ OX4.out (by have := (HLE.out HF.out).1; omega) (by have := (HLE.out HF.out).2; omega) Z5.out.size OX4.out.dis).mono ?_
      clear x0 x1
      rintro e v5 ⟨rfl, hb⟩
      have Z6 : Hid (Below x5.heap.size x5 v5) := Z5.out.trans hb
      have HB6 : Hid (Below g w v5) := HB5.out.trans (Z6.out.mono (Nat.le_of_lt (lt_of_heap HP5.out)))
      clear hb
      have HI6 := Lib.hid ((Z6.out.block g5 HG5L.out).trans X5.out)
      have HP6 := Lib.hid ((Z6.out.block g (lt_of_heap HP5.out)).trans HP5.out)
      obtain ⟨i0, i1⟩ := cells2 HI6.out
      obtain ⟨p0, p1⟩ := cells2 HP6.out
      have HGL : Hid (g ≤ v5.heap.size) := Nat.le_of_lt (lt_of_heap HP6.out)
      go_wp2_with fail
      refine (HSM.out v5 _ _ _ _ _ _ _ _ _ _ _ _ _ _ (HSI.out v5 Z6.out) (HSS.out v5 HB6.out HF.out)).mono ?_
      clear i0 i1 p0 p1
      rintro e v6 ⟨rfl, hb⟩
      have HB7 := Lib.hid (HB6.out.trans (hb.mono HGL.out))
      have HGM : Hid (g ≤ v6.heap.size) := Nat.le_trans HGL.out hb.size
      clear hb
      go_wp2_with fail
      refine (HAW.out v6).mono ?_
      rintro e v7 ⟨rfl, hb⟩
      have HB8 := Lib.hid (HB7.out.trans (hb.mono HGM.out))
      clear hb
      go_wp2
      go_ret
      exact ⟨rfl, HB8.out⟩

set_option maxRecDepth 100000 in
theorem lifted (os : Os) (started : os.Started) (H : Type) (enc : TypeId × Value → H) :
    ReturnsInHanded {} Try.checked os 4 .any (Rows.idealAppliesSpec.pre6 enc Try.prog Try.f4 Rows.idealAppliesRow.domain false) (Rows.idealAppliesSpec.post enc Try.prog Try.f4 false true false false) := by
  refine returnsInHanded_of_change (C := Try.checked) own started (by kernel_rfl) Try.func4
    (ChangeSpec.witness6 (enc := enc) (C := Try.checked) false ⟨#[], #[.agg #[.slice none 0 0, .slice none 0 0], .agg #[.int .i64 0, .string ByteArray.empty, .string ByteArray.empty, .string ByteArray.empty, .slice none 0 0]], []⟩ 8 (by kernel_rfl) (by kernel_rfl) (by kernel_rfl) (by kernel_rfl)) ?_
  intro W base args ds gs before hval0 hW hcnd _
  have hval : ∀ (j : Nat) t v, Try.f4.params[j]? = some t → args[j]? = some v → Value.okWide Try.prog W .any base t v := hval0
  have hW' := hW
  obtain ⟨p, q, hA0, hV, rfl, hfz, hnd⟩ := hW
  have hA : DataW.TrodAll enc Try.prog W 0 (fun _ => true) true Try.f4.params.toList args.toList ds p := hA0
  rw [Try.params4] at hA hval
  obtain ⟨v0, vs0, d0, ds0, p0, q0, hargs, rfl, rfl, h0, r0⟩ := trodAll_cons hA
  obtain ⟨v1, vs1, d1, ds1, p1, q1, rfl, rfl, rfl, h1, r1⟩ := trodAll_cons r0
  obtain ⟨rfl, rfl, rfl⟩ := trodAll_nil r1
  obtain rfl : args = #[v0, v1] := by cases args; simp_all
  obtain ⟨rfl, rfl⟩ := trodVars_none hV
  obtain ⟨A0, n0, c0, B0, m0, e0, rfl, L0, Q0, w0, u0⟩ := isShelf_of (hval 0 29 v0 rfl rfl) h0
  have k0 := h0
  have lt0 : ∀ x ∈ p0, x.block < W.heap.size := by obtain ⟨m, hm⟩ := k0; exact DataW.trod_lt m _ _ _ hm
  obtain ⟨z1, rfl, y1, w1⟩ := isCall_of (hval 1 24 v1 rfl rfl) h1
  have k1 := h1
  have lt1 : ∀ x ∈ p1, x.block < W.heap.size := by obtain ⟨m, hm⟩ := k1; exact DataW.trod_lt m _ _ _ hm
  clear hA0 hval0
  refine (walk A0 n0 c0 B0 m0 e0 L0 Q0 z1 y1 W w0 u0 w1).mono fun e W' ⟨he, bel⟩ => ?_
  subst he
  exact ⟨_, rfl, _, _, _, [], _, [], hW', trodAll_mk1 (shut_bool Try.underlying4 _), (trodAll_cons_mk (Below.trod laidOut (by kernel_rfl) (of_decide_eq_true (by kernel_rfl)) k0 bel lt0) (trodAll_cons_mk (Below.trod laidOut (by kernel_rfl) (of_decide_eq_true (by kernel_rfl)) k1 bel lt1) trodAll_mk0)), rfl, bel.frame _, fun h => by cases h⟩

theorem over : Rows.idealAppliesRow.holds Try.pinned (OpenSpec.ofChange Rows.idealAppliesSpec) :=
  OpenClaim.holds_of_wide 4 Try.f4 rfl rfl rfl rfl rfl rfl rfl ⟨rfl, rfl, rfl, rfl, rfl⟩ rfl rfl rfl rfl rfl (by kernel_rfl) Try.func4 (by kernel_rfl)
    (of_decide_eq_true (by kernel_rfl)) (by unfold Func.isWrapper; first | (rw [if_pos (by decide +kernel)]; kernel_rfl) | (rw [if_neg (by decide +kernel)]; exact ⟨rfl, rfl⟩))
    (fun os started H enc _ => lifted os started H enc)

theorem proved : Rows.IdealAppliesSaid := over
#print axioms proved
end Go.Proofs.Ytimpigponjkfkaa.idealApplies
