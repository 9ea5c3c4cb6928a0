/-
Proved here: IdealRises.
  Conditions: none.
-/
import Derived.Test.YtimpigponjkfkaaRows
import Derived.Test.YtimpigponjkfkaaAwake15
import Derived.Test.YtimpigponjkfkaaCallIn15
import Derived.Test.YtimpigponjkfkaaLarge15
import Derived.Test.YtimpigponjkfkaaSameB15
import Derived.Test.YtimpigponjkfkaaRise15
import Derived.IntWalk
import Derived.WalkSmall
import Derived.Deep.QuietTactic
import Derived.BigQuiet
import Derived.WalkKit
import Derived.ProofKit
import Derived.OpenShut
import Derived.ShutString
import Derived.ChangeOld
import Derived.Below
namespace Go.Proofs.Ytimpigponjkfkaa.idealRises
open Go.ChangeShapes Go.WideShapes Go.ChangeAt Go.RowKit
open Go.ChangeMaps (open_string shut_string)
set_option linter.unusedVariables false

theorem own : ownKnob Try.prog.godebug = none := by kernel_rfl
theorem laidOut : laidOutB Try.prog = true := by kernel_rfl

set_option maxRecDepth 100000 in
set_option maxHeartbeats 6400000 in
theorem walk (A : Option Addr) (n cp : Nat) (Z : List Cal) (w : World) (hZ : RC.Is w A n cp Z) (hG : ∀ x ∈ Z, ∃ G, GrpIn w x G) :
    Calls Try.prog 6 #[.slice A n cp] w fun e w' => e = .returned (.bool true) ∧ Below w.heap.size w w' := by
  have HZ := Lib.hid hZ
  have HGI := Lib.hid hG
  have HLG : Hid (∀ (w2 : World) (A : Option Addr) (n k : Nat) (B : Option Addr) (m d : Nat) (L : List Kv) (Q : List ByteArray) (x : Cal) (G : List Cal), RP.Is w2 A n k L → RS.Is w2 B m d Q → RC.Is w2 x.ga x.gn x.gc G → Calls Try.prog 12 #[.agg #[.slice A n k, .slice B m d], .agg #[.int .i64 x.kd, .string x.key, .string x.val, .string x.to_, .slice x.ga x.gn x.gc]] w2 (LargeTo w2 L Q G)) := fun w2 A n k B m d L Q x G h1 h2 h3 => large_any w2 A B n k m d L Q x G h1 h2 h3
  have HAP : Hid (∀ (w2 : World) (A : Option Addr) (n k : Nat) (B : Option Addr) (m d : Nat) (L : List Kv) (Q : List ByteArray) (x : Cal) (G : List Cal), Shv w2 A n k B m d L Q → Grp w2 x G → L.length ≤ 200 → Q.length ≤ 200 → Calls Try.prog 18 #[.agg #[.slice A n k, .slice B m d], .agg #[.int .i64 x.kd, .string x.key, .string x.val, .string x.to_, .slice x.ga x.gn x.gc]] w2 (AppS w2 (apL x G L) (apQ x G Q) (goodN x G) (apF x G L Q) (apV x G L Q) (apM x G L) (apH x G L Q))) := fun w2 A n k B m d L Q x G h1 h2 h3 h4 => app_as h1 (by omega) (by omega) x G h2 rfl rfl rfl rfl rfl rfl rfl
  have HGO : Hid (∀ (w2 : World) (x : Cal) (G : List Cal), Grp w2 x G → Calls Try.prog 15 #[.agg #[.int .i64 x.kd, .string x.key, .string x.val, .string x.to_, .slice x.ga x.gn x.gc]] w2 fun e w' => e = .returned (.int .i64 (goodN x G)) ∧ Below w2.heap.size w2 w') := fun w2 x G h => good_any x G w2 h
  have HMY : Hid (∀ (w2 : World) (A : Option Addr) (n k : Nat) (B : Option Addr) (m d : Nat) (L : List Kv) (Q : List ByteArray), Shv w2 A n k B m d L Q → riseB L = true → Calls Try.prog 25 #[.agg #[.slice A n k, .slice B m d]] w2 fun e w' => e = .returned (.bool true) ∧ Below w2.heap.size w2 w') := fun w2 A n k B m d L Q h hr => by
    have q := may_any h
    rw [hr] at q
    exact q
  have HSM : Hid (∀ w2 A n c B m d A2 n2 c2 B2 m2 d2 L Q, Shv w2 A n c B m d L Q → Shv w2 A2 n2 c2 B2 m2 d2 L Q → Calls Try.prog 23 #[.agg #[.slice A n c, .slice B m d], .agg #[.slice A2 n2 c2, .slice B2 m2 d2]] w2 fun e w' => e = .returned (.bool true) ∧ Below w2.heap.size w2 w') := fun w2 A n c B m d A2 n2 c2 B2 m2 d2 L Q h k => sames_any h k
  have HAW := Lib.hid awake15_any
  have HZS := Lib.hid zero_shelf
  have HZA := Lib.hid zero_answer
  obtain ⟨g3, hg3⟩ : ∃ g, w.heap.size = g := ⟨_, rfl⟩
  have HG3 := Lib.hid hg3
  have HZL : Hid (Z.length = n) := hZ.1
  rw [hg3]
  clear hZ hG
  go_enter Try.func6, Try.ntmps6
  rcases Nat.lt_or_ge 30 n with hn | hn
  · have hn' : (30 : Int) < (n : Int) := by omega
    clear hg3
    go_wp2_with fail
    refine (HAW.out w).mono ?_
    rintro e w1 ⟨rfl, hb⟩
    have HB := Lib.hid hb
    clear hb
    go_wp2
    go_ret
    exact ⟨rfl, HG3.out ▸ HB.out⟩
  have hn' : ¬ (30 : Int) < (n : Int) := by omega
  clear hg3
  go_wp2_with (first
    | ((with_reducible show wpList _ _ _ (⟨some 3, .alloc _, _, _, _, _⟩ :: _) _ _); refine wpList_alloc_var (o := ⟨some 3, _, _, _, _, _⟩) rfl 29 rfl g3 HG3.out _ HZS.out ?_; intro w3 X3 B3)
    | fail)
  clear hn'
  have HLz : Hid (g3 < w3.heap.size) := lt_of_heap X3.out
  go_loopg [4] n (fun gk s4 wx => ∃ (i : Nat) (A9 : Option Addr) (n9 e9 : Nat) (B9 : Option Addr) (m9 d9 : Nat) (L : List Kv) (Q : List ByteArray), i + gk = n ∧ s4 = .int .i64 i ∧ Hid (wx.heap[g3]? = some (.cells #[.slice A9 n9 e9, .slice B9 m9 d9] 29 (0, 0))) ∧ Hid (OwnS wx 0 A9 n9 e9 B9 m9 d9 L Q) ∧ Hid (Rise L) ∧ Hid (L.length ≤ 200 ∧ Q.length ≤ 200) ∧ Hid (Below g3 w wx))
  case atStart => exact ⟨0, none, 0, 0, none, 0, 0, [], [], by omega, rfl, X3, OwnS.none _ _, List.Pairwise.nil, ⟨Nat.zero_le _, Nat.zero_le _⟩, B3⟩
  case round =>
    obtain ⟨i, A9, n9, e9, B9, m9, d9, L, Q, hig, rfl, HX9, HO9, HRI, HLB, HW⟩ := hrel
    obtain ⟨y0, y1⟩ := cells2 HX9.out
    have HZr := Lib.hid (HZ.out.below (HG3.out.symm ▸ HW.out))
    have g3l := lt_of_heap HX9.out
    cases gk with
    | zero =>
      obtain rfl : i = n := by omega
      have hii : ¬ (i : Int) < (i : Int) := by omega
      have HGL := Lib.hid g3l
      clear g3l hn
      go_wp2_with fail
      refine (HAW.out wr).mono ?_
      clear y0 y1
      rintro e w1 ⟨rfl, hb⟩
      have HB := Lib.hid (HW.out.trans (hb.mono (Nat.le_of_lt HGL.out)))
      clear hb
      go_wp2
      go_ret
      exact ⟨rfl, HB.out⟩
    | succ gk =>
      have hii : (i : Int) < (n : Int) := by omega
      have hil : i < Z.length := by rw [HZL.out]; omega
      obtain ⟨x, hx⟩ : ∃ x, Z[i]? = some x := ⟨_, List.getElem?_eq_getElem hil⟩
      obtain ⟨Gx, hGx⟩ := HGI.out x (List.mem_of_getElem? hx)
      have HGX0 : Hid (∀ v, Below wr.heap.size wr v → GrpIn v x Gx) := fun v hv => hGx.below (HG3.out.symm ▸ HW.out.trans (hv.mono (Nat.le_of_lt g3l)))
      obtain ⟨b1, o1, eA, hb1, k0, k1, k2, k3, k4⟩ := callAt (HZr.out.row (by omega)) hx
      have HI : Hid (∀ v, Below wr.heap.size wr v → RP.Is v A9 n9 e9 L ∧ RS.Is v B9 m9 d9 Q) := fun v hv => ⟨(HO9.out.is (by have := HLB.out.1; omega) (by have := HLB.out.2; omega)).1.below hv, (HO9.out.is (by have := HLB.out.1; omega) (by have := HLB.out.2; omega)).2.below hv⟩
      have HSV : Hid (∀ W, Below wr.heap.size wr W → Shv W A9 n9 e9 B9 m9 d9 L Q) := fun W h => (HO9.out.shv (by have := HLB.out.1; omega) (by have := HLB.out.2; omega)).below h
      have HK : Hid (∀ V, Below wr.heap.size wr V → V.cell? ⟨g3, 0, none⟩ = some (.slice A9 n9 e9) ∧ V.cell? ⟨g3, 1, none⟩ = some (.slice B9 m9 d9) ∧ V.cell? ⟨b1, o1 + i * 5, none⟩ = some (.int .i64 x.kd) ∧ V.cell? ⟨b1, o1 + i * 5 + 1, none⟩ = some (.string x.key) ∧ V.cell? ⟨b1, o1 + i * 5 + 2, none⟩ = some (.string x.val) ∧ V.cell? ⟨b1, o1 + i * 5 + 3, none⟩ = some (.string x.to_) ∧ V.cell? ⟨b1, o1 + i * 5 + 4, none⟩ = some (.slice x.ga x.gn x.gc)) := fun V h3 => ⟨(h3.cell (p := ⟨g3, 0, none⟩) g3l).trans y0, (h3.cell (p := ⟨g3, 1, none⟩) g3l).trans y1, (h3.cell (p := ⟨b1, _, none⟩) hb1).trans k0, (h3.cell (p := ⟨b1, _, none⟩) hb1).trans k1, (h3.cell (p := ⟨b1, _, none⟩) hb1).trans k2, (h3.cell (p := ⟨b1, _, none⟩) hb1).trans k3, (h3.cell (p := ⟨b1, _, none⟩) hb1).trans k4⟩
      have HG3L := Lib.hid g3l
      have HB1L := Lib.hid hb1
      have HDR : Hid (Below wr.heap.size wr wr.drew) := (Below.refl _ _).drew
      subst eA
      have hib : i < 30 := by omega
      clear g3l hb1 hx hGx hil hn
      go_upto_region 7 with fail
      go_region_held3 (fun V => V.cell? ⟨g3, 0, none⟩ = some (.slice A9 n9 e9) ∧ V.cell? ⟨g3, 1, none⟩ = some (.slice B9 m9 d9) ∧ V.cell? ⟨b1, o1 + i * 5, none⟩ = some (.int .i64 x.kd) ∧ V.cell? ⟨b1, o1 + i * 5 + 1, none⟩ = some (.string x.key) ∧ V.cell? ⟨b1, o1 + i * 5 + 2, none⟩ = some (.string x.val) ∧ V.cell? ⟨b1, o1 + i * 5 + 3, none⟩ = some (.string x.to_) ∧ V.cell? ⟨b1, o1 + i * 5 + 4, none⟩ = some (.slice x.ga x.gn x.gc)) (go_keep)
        (first
          | (go_at_call 12; refine (HLG.out wr.drew _ _ _ _ _ _ _ _ x Gx (HI.out _ HDR.out).1 (HI.out _ HDR.out).2 (HGX0.out _ HDR.out).1).mono ?_; rintro e wv ⟨b, rfl, hf, hb⟩; obtain ⟨t0, t1, t2, t3, t4, t5, t6⟩ := HK.out wv (HDR.out.trans hb))
          | fail)
      have HBa := Lib.hid (HDR.out.trans hb)
      clear hb y0 y1 k0 k1 k2 k3 k4
      cases b with
      | true =>
        clear hf t0 t1 t2 t3 t4 t5 t6
        go_wp2_with fail
        refine (HAW.out wv).mono ?_
        rintro e w4 ⟨rfl, hb⟩
        have HB := Lib.hid (HW.out.trans ((HBa.out.mono (Nat.le_of_lt HG3L.out)).trans (hb.mono (Nat.le_of_lt (Nat.lt_of_lt_of_le HG3L.out HBa.out.size)))))
        clear hb
        go_wp2
        go_ret
        exact ⟨rfl, HB.out⟩
      | false =>
        have HF := Lib.hid (hf rfl)
        clear hf t0 t1 t2 t3 t4 t5 t6
        have HLn : Hid (wr.heap.size ≤ wv.heap.size) := HBa.out.size
        have HKv : Hid (∀ V, Below wv.heap.size wv V → V.cell? ⟨g3, 0, none⟩ = some (.slice A9 n9 e9) ∧ V.cell? ⟨g3, 1, none⟩ = some (.slice B9 m9 d9) ∧ V.cell? ⟨b1, o1 + i * 5, none⟩ = some (.int .i64 x.kd) ∧ V.cell? ⟨b1, o1 + i * 5 + 1, none⟩ = some (.string x.key) ∧ V.cell? ⟨b1, o1 + i * 5 + 2, none⟩ = some (.string x.val) ∧ V.cell? ⟨b1, o1 + i * 5 + 3, none⟩ = some (.string x.to_) ∧ V.cell? ⟨b1, o1 + i * 5 + 4, none⟩ = some (.slice x.ga x.gn x.gc)) := fun V h => HK.out V (HBa.out.trans (h.mono HLn.out))
        have HSW : Hid (∀ V, Below wv.heap.size wv V → Shv V A9 n9 e9 B9 m9 d9 L Q) := fun V h => HSV.out V (HBa.out.trans (h.mono HLn.out))
        have HGX : Hid (∀ V, Below wv.heap.size wv V → Grp V x Gx) := fun V h => HF.out.grp (HGX0.out V (HBa.out.trans (h.mono HLn.out)))
        have HXv := Lib.hid ((HBa.out.block g3 HG3L.out).trans HX9.out)
        have HO9v := Lib.hid (HO9.out.below HBa.out)
        have HWv := Lib.hid (HW.out.trans (HBa.out.mono (Nat.le_of_lt HG3L.out)))
        have HG3v : Hid (g3 < wv.heap.size) := lt_of_heap HXv.out
        have HB1v : Hid (b1 < wv.heap.size) := Nat.lt_of_lt_of_le HB1L.out HLn.out
        have hN1 : ¬ g3 = wv.heap.size := Nat.ne_of_lt HG3v.out
        have hN3 : ¬ b1 = wv.heap.size := Nat.ne_of_lt HB1v.out
        have hM1 : ¬ wv.heap.size = g3 := fun e => hN1 e.symm
        have hM3 : ¬ wv.heap.size = b1 := fun e => hN3 e.symm
        have hM4 : ¬ wv.heap.size + 1 = g3 := fun e => by have := HG3v.out; rw [← e] at this; exact Nat.not_succ_lt_self this
        have hM6 : ¬ wv.heap.size + 1 = b1 := fun e => by have := HB1v.out; rw [← e] at this; exact Nat.not_succ_lt_self this
        have HNX : Hid (∀ z, wv.heap.size < z → ¬ z = g3 ∧ ¬ z = b1) := fun z hz => by
          have := HG3v.out; have := HB1v.out
          exact ⟨by omega, by omega⟩
        have HKX : Hid (∀ W V, Below wv.heap.size wv W → Below W.heap.size W V → V.cell? ⟨g3, 0, none⟩ = some (.slice A9 n9 e9) ∧ V.cell? ⟨g3, 1, none⟩ = some (.slice B9 m9 d9) ∧ V.cell? ⟨b1, o1 + i * 5, none⟩ = some (.int .i64 x.kd) ∧ V.cell? ⟨b1, o1 + i * 5 + 1, none⟩ = some (.string x.key) ∧ V.cell? ⟨b1, o1 + i * 5 + 2, none⟩ = some (.string x.val) ∧ V.cell? ⟨b1, o1 + i * 5 + 3, none⟩ = some (.string x.to_) ∧ V.cell? ⟨b1, o1 + i * 5 + 4, none⟩ = some (.slice x.ga x.gn x.gc)) := fun W V h1 h2 => HKv.out V (h1.trans (h2.mono h1.size))
        obtain ⟨t0, t1, t2, t3, t4, t5, t6⟩ := HKv.out wv (Below.refl _ _)
        go_upto_region 9 with fail
        go_cut [5, 6] from 11 to 57 (fun s5 s6 wx => Got wv (apL x Gx L) (apQ x Gx Q) (goodN x Gx) (apF x Gx L Q) (apV x Gx L Q) (apM x Gx L) (apH x Gx L Q) s5 s6 wx)
        case first =>
          go_region_held3 (fun V => V.cell? ⟨g3, 0, none⟩ = some (.slice A9 n9 e9) ∧ V.cell? ⟨g3, 1, none⟩ = some (.slice B9 m9 d9) ∧ V.cell? ⟨b1, o1 + i * 5, none⟩ = some (.int .i64 x.kd) ∧ V.cell? ⟨b1, o1 + i * 5 + 1, none⟩ = some (.string x.key) ∧ V.cell? ⟨b1, o1 + i * 5 + 2, none⟩ = some (.string x.val) ∧ V.cell? ⟨b1, o1 + i * 5 + 3, none⟩ = some (.string x.to_) ∧ V.cell? ⟨b1, o1 + i * 5 + 4, none⟩ = some (.slice x.ga x.gn x.gc)) (go_keep)
          (first
          | (go_at_call 18; refine (HAP.out wv.drew _ _ _ _ _ _ _ _ x Gx (HSW.out _ (got_b (.inl rfl))) (HGX.out _ (got_b (.inl rfl))) HLB.out.1 HLB.out.2).mono ?_; rintro e x1 ⟨A1, n1, c1, B1, m1, d1, A2, n2, c2, B2, m2, d2, rfl, ho, -, hm, hh, hml, hhl, hb⟩; obtain ⟨t0, t1, t2, t3, t4, t5, t6⟩ := HKX.out wv.drew x1 (got_b (.inl rfl)) hb)
          | (go_at_call 18; refine (HAP.out (wv.drew.alloc S0) _ _ _ _ _ _ _ _ x Gx (HSW.out _ (got_b (.inr (.inl rfl)))) (HGX.out _ (got_b (.inr (.inl rfl)))) HLB.out.1 HLB.out.2).mono ?_; rintro e x1 ⟨A1, n1, c1, B1, m1, d1, A2, n2, c2, B2, m2, d2, rfl, ho, -, hm, hh, hml, hhl, hb⟩; obtain ⟨t0, t1, t2, t3, t4, t5, t6⟩ := HKX.out (wv.drew.alloc S0) x1 (got_b (.inr (.inl rfl))) hb; obtain ⟨s0, s1, sf⟩ := svar (got_w2 hb); obtain ⟨ne1, ne2⟩ := got_n2 hb; obtain ⟨ne3, ne4⟩ := HNX.out _ ne1)
          | (go_at_call 18; refine (HAP.out (wv.drew.alloc A0) _ _ _ _ _ _ _ _ x Gx (HSW.out _ (got_b (.inr (.inr (.inl rfl))))) (HGX.out _ (got_b (.inr (.inr (.inl rfl))))) HLB.out.1 HLB.out.2).mono ?_; rintro e x1 ⟨A1, n1, c1, B1, m1, d1, A2, n2, c2, B2, m2, d2, rfl, ho, -, hm, hh, hml, hhl, hb⟩; obtain ⟨t0, t1, t2, t3, t4, t5, t6⟩ := HKX.out (wv.drew.alloc A0) x1 (got_b (.inr (.inr (.inl rfl)))) hb; obtain ⟨a0, a1, a2, a3, a4, a5, af⟩ := avar (got_w3 hb); obtain ⟨ne1, ne2⟩ := got_n3 hb; obtain ⟨ne3, ne4⟩ := HNX.out _ ne1)
          | (go_at_call 18; refine (HAP.out ((wv.drew.alloc S0).alloc A0) _ _ _ _ _ _ _ _ x Gx (HSW.out _ (got_b (.inr (.inr (.inr (.inl rfl)))))) (HGX.out _ (got_b (.inr (.inr (.inr (.inl rfl)))))) HLB.out.1 HLB.out.2).mono ?_; rintro e x1 ⟨A1, n1, c1, B1, m1, d1, A2, n2, c2, B2, m2, d2, rfl, ho, -, hm, hh, hml, hhl, hb⟩; obtain ⟨t0, t1, t2, t3, t4, t5, t6⟩ := HKX.out ((wv.drew.alloc S0).alloc A0) x1 (got_b (.inr (.inr (.inr (.inl rfl))))) hb; obtain ⟨s0, s1, sf⟩ := svar (got_w4 hb).1; obtain ⟨a0, a1, a2, a3, a4, a5, af⟩ := avar (got_w4 hb).2)
          | (go_at_call 18; refine (HAP.out ((wv.drew.alloc A0).alloc S0) _ _ _ _ _ _ _ _ x Gx (HSW.out _ (got_b (.inr (.inr (.inr (.inr rfl)))))) (HGX.out _ (got_b (.inr (.inr (.inr (.inr rfl)))))) HLB.out.1 HLB.out.2).mono ?_; rintro e x1 ⟨A1, n1, c1, B1, m1, d1, A2, n2, c2, B2, m2, d2, rfl, ho, -, hm, hh, hml, hhl, hb⟩; obtain ⟨t0, t1, t2, t3, t4, t5, t6⟩ := HKX.out ((wv.drew.alloc A0).alloc S0) x1 (got_b (.inr (.inr (.inr (.inr rfl))))) hb; obtain ⟨a0, a1, a2, a3, a4, a5, af⟩ := avar (got_w5 hb).1; obtain ⟨s0, s1, sf⟩ := svar (got_w5 hb).2)
          | fail)
          · go_wp2
            go_meet
            case rel => exact got_1 ho hm hh hml hhl hb
          · go_wp2
            go_meet
            case rel => exact got_2 ho hm hh hml hhl hb
          · go_wp2
            go_meet
            case rel => exact got_3 ho hm hh hml hhl hb
          · go_wp2
            go_meet
            case rel => exact got_4 ho hm hh hml hhl hb
          · go_wp2
            go_meet
            case rel => exact got_5 ho hm hh hml hhl hb
          · go_wp2
            go_meet
            case rel => exact got_6 ho hm hh hml hhl hb
        case rest =>
          obtain ⟨gS, gA, A1, n1, c1, B1, m1, d1, A2, n2, c2, B2, m2, d2, rfl, rfl, hS, hA, ho, -, -, -, -, hlS, hlA, hne, hb⟩ := hcut
          have HS := Lib.hid hS
          have HA := Lib.hid hA
          have HO := Lib.hid ho
          have HBC := Lib.hid hb
          have HL1 := apL_len x Gx L
          have HL2 := apQ_len x Gx Q
          have HLEN : Hid ((apL x Gx L).length ≤ 200 ∧ (apQ x Gx Q).length ≤ 200) := by have := HF.out.1; have := HF.out.2.1; have := HF.out.2.2.1; exact ⟨by omega, by omega⟩
          have HRI2 : Hid (Rise (apL x Gx L)) := rise_ap x Gx HRI.out
          have HRB : Hid (riseB (apL x Gx L) = true) := (rise_iff _).2 HRI2.out
          have HXc := Lib.hid ((hb.block g3 HG3v.out).trans HXv.out)
          have HSZ : Hid (∀ V, Below wc.heap.size wc V → Shv V A1 n1 c1 B1 m1 d1 (apL x Gx L) (apQ x Gx Q)) := fun V h => (ho.shv (by have := HLEN.out.1; omega) (by have := HLEN.out.2; omega)).below h
          obtain ⟨r, hr⟩ : ∃ r, goodN x Gx = r := ⟨_, rfl⟩
          have HR := Lib.hid hr
          have HA2 := Lib.hid hA
          rw [hr] at HA2
          have HKc : Hid (∀ V, Below wc.heap.size wc V → V.cell? ⟨g3, 0, none⟩ = some (.slice A9 n9 e9) ∧ V.cell? ⟨g3, 1, none⟩ = some (.slice B9 m9 d9) ∧ V.cell? ⟨b1, o1 + i * 5, none⟩ = some (.int .i64 x.kd) ∧ V.cell? ⟨b1, o1 + i * 5 + 1, none⟩ = some (.string x.key) ∧ V.cell? ⟨b1, o1 + i * 5 + 2, none⟩ = some (.string x.val) ∧ V.cell? ⟨b1, o1 + i * 5 + 3, none⟩ = some (.string x.to_) ∧ V.cell? ⟨b1, o1 + i * 5 + 4, none⟩ = some (.slice x.ga x.gn x.gc) ∧ V.cell? ⟨gS, 0, none⟩ = some (.slice A1 n1 c1) ∧ V.cell? ⟨gS, 1, none⟩ = some (.slice B1 m1 d1) ∧ V.cell? ⟨gA, 0, none⟩ = some (.int .i64 r)) := fun V h => by
            have hz := hb.size
            obtain ⟨t0, t1, t2, t3, t4, t5, t6⟩ := HKv.out V (hb.trans (h.mono hz))
            obtain ⟨p0, p1, -⟩ := cells6 HA2.out
            obtain ⟨q0, q1⟩ := cells2 HS.out
            exact ⟨t0, t1, t2, t3, t4, t5, t6, (h.cell (p := ⟨gS, 0, none⟩) (lt_of_heap HS.out)).trans q0, (h.cell (p := ⟨gS, 1, none⟩) (lt_of_heap HS.out)).trans q1, (h.cell (p := ⟨gA, 0, none⟩) (lt_of_heap HA2.out)).trans p0⟩
          have HDC : Hid (Below wc.heap.size wc wc.drew) := (Below.refl _ _).drew
          clear hS hA ho hb hlS hlA hne HL1 HL2 t0 t1 t2 t3 t4 t5 t6 hN1 hN3 hM1 hM3 hM4 hM6
          have hrr : (r != r) = false := by simp
          obtain ⟨t0, t1, t2, t3, t4, t5, t6, t7, t8, t9⟩ := HKc.out wc (Below.refl _ _)
          rcases (Decidable.em (r = 0)).symm with hz | hz
          · have hr0 : (r != 0) = true := by simpa using hz
            obtain ⟨q1, q2, -⟩ := ap_bad (c := x) (G := Gx) (by rw [HR.out]; exact hz) L Q
            have Q1 := Lib.hid q1
            have Q2 := Lib.hid q2
            clear hz hr q1 q2
            go_upto_region 10 with fail
            go_region_held3 (fun V => V.cell? ⟨g3, 0, none⟩ = some (.slice A9 n9 e9) ∧ V.cell? ⟨g3, 1, none⟩ = some (.slice B9 m9 d9) ∧ V.cell? ⟨b1, o1 + i * 5, none⟩ = some (.int .i64 x.kd) ∧ V.cell? ⟨b1, o1 + i * 5 + 1, none⟩ = some (.string x.key) ∧ V.cell? ⟨b1, o1 + i * 5 + 2, none⟩ = some (.string x.val) ∧ V.cell? ⟨b1, o1 + i * 5 + 3, none⟩ = some (.string x.to_) ∧ V.cell? ⟨b1, o1 + i * 5 + 4, none⟩ = some (.slice x.ga x.gn x.gc) ∧ V.cell? ⟨gS, 0, none⟩ = some (.slice A1 n1 c1) ∧ V.cell? ⟨gS, 1, none⟩ = some (.slice B1 m1 d1) ∧ V.cell? ⟨gA, 0, none⟩ = some (.int .i64 r)) (go_keep)
              (first
                | (go_at_call 25; refine (HMY.out wc.drew _ _ _ _ _ _ _ _ (HSZ.out _ HDC.out) HRB.out).mono ?_; rintro e v1 ⟨rfl, hb⟩; have V1 := Lib.hid (HDC.out.trans hb); clear hb; obtain ⟨u0, u1, u2, u3, u4, u5, u6, u7, u8, u9⟩ := HKc.out v1 V1.out)
                | (go_at_call 15; refine (HGO.out v1 x Gx (HGX.out _ (HBC.out.trans (V1.out.mono HBC.out.size)))).mono ?_; rintro e v2 ⟨rfl, hb⟩; rw [HR.out]; have V2 := Lib.hid (V1.out.trans (hb.mono V1.out.size)); clear hb; obtain ⟨x0, x1, x2, x3, x4, x5, x6, x7, x8, x9⟩ := HKc.out v2 V2.out)
                | (go_at_call 23; refine (HSM.out v2 _ _ _ _ _ _ _ _ _ _ _ _ _ _ (HSZ.out _ V2.out) (by rw [Q1.out, Q2.out]; exact HSW.out _ (HBC.out.trans (V2.out.mono HBC.out.size)))).mono ?_; rintro e v3 ⟨rfl, hb⟩; have V3 := Lib.hid (V2.out.trans (hb.mono V2.out.size)); clear hb; obtain ⟨z0, z1, z2, z3, z4, z5, z6, z7, z8, z9⟩ := HKc.out v3 V3.out)
                | fail)
            have HXz := Lib.hid ((V3.out.block g3 (lt_of_heap HXc.out)).trans HXc.out)
            have HLz2 : Hid (g3 < v3.heap.size) := lt_of_heap HXz.out
            go_wp2_with (first
              | ((with_reducible show wpList _ _ _ (⟨none, .store _ (.tmp 3) _, _, _, _, _⟩ :: _) _ _); refine wpList_store_only (o := ⟨none, .store 29 (.tmp 3) (.tmp 57), _, _, _, _⟩) rfl _ _ _ rfl rfl g3 #[.slice A1 n1 c1, .slice B1 m1 d1] rfl rfl 29 _ HXz.out size_shelf rfl (onesV _ _ _ _ _ _) ?_; intro x9 X9 T9)
              | fail)
            have HW9 : Hid (Below g3 w x9) := (HWv.out.trans (HBC.out.mono (Nat.le_of_lt HG3v.out))).trans ((V3.out.mono (Nat.le_of_lt (Nat.lt_of_lt_of_le HG3v.out HBC.out.size))).trans (turn_below T9.out (Nat.le_refl _) (Nat.le_of_lt HLz2.out)))
            go_roundg gk
            case measure => omega
            case rel => exact ⟨i + 1, A1, n1, c1, B1, m1, d1, apL x Gx L, apQ x Gx Q, by omega, by go_num, X9, ((HO.out.below V3.out).turn T9.out HG3v.out).mono (Nat.zero_le _), HRI2.out, HLEN.out, HW9.out⟩
          · have hr0 : (r != 0) = false := by rw [hz]; rfl
            clear hz hr
            go_upto_region 10 with fail
            first
              | (go_region_law
              (first
                | (refine step_skip (by rfl) ?_)
                | (go_simp; go_at_call 25; refine (HMY.out wc.drew _ _ _ _ _ _ _ _ (HSZ.out _ HDC.out) HRB.out).mono ?_; rintro e v1 ⟨rfl, hb⟩; have V1 := Lib.hid (HDC.out.trans hb); clear hb; obtain ⟨u0, u1, u2, u3, u4, u5, u6, u7, u8, u9⟩ := HKc.out v1 V1.out; dsimp only)
                | (go_simp; go_at_call 15; refine (HGO.out v1 x Gx (HGX.out _ (HBC.out.trans (V1.out.mono HBC.out.size)))).mono ?_; rintro e v2 ⟨rfl, hb⟩; rw [HR.out]; have V2 := Lib.hid (V1.out.trans (hb.mono V1.out.size)); clear hb; obtain ⟨x0, x1, x2, x3, x4, x5, x6, x7, x8, x9⟩ := HKc.out v2 V2.out; dsimp only)))
              | fail
            all_goals
              have HXz := Lib.hid ((V2.out.block g3 (lt_of_heap HXc.out)).trans HXc.out)
              have HLz2 : Hid (g3 < v2.heap.size) := lt_of_heap HXz.out
              go_wp2_with (first
                | ((with_reducible show wpList _ _ _ (⟨none, .store _ (.tmp 3) _, _, _, _, _⟩ :: _) _ _); refine wpList_store_only (o := ⟨none, .store 29 (.tmp 3) (.tmp 57), _, _, _, _⟩) rfl _ _ _ rfl rfl g3 #[.slice A1 n1 c1, .slice B1 m1 d1] rfl rfl 29 _ HXz.out size_shelf rfl (onesV _ _ _ _ _ _) ?_; intro x9 X9 T9)
                | fail)
              have HW9 : Hid (Below g3 w x9) := (HWv.out.trans (HBC.out.mono (Nat.le_of_lt HG3v.out))).trans ((V2.out.mono (Nat.le_of_lt (Nat.lt_of_lt_of_le HG3v.out HBC.out.size))).trans (turn_below T9.out (Nat.le_refl _) (Nat.le_of_lt HLz2.out)))
              go_roundg gk
              case measure => omega
              case rel => exact ⟨i + 1, A1, n1, c1, B1, m1, d1, apL x Gx L, apQ x Gx Q, by omega, by go_num, X9, ((HO.out.below V2.out).turn T9.out HG3v.out).mono (Nat.zero_le _), HRI2.out, HLEN.out, HW9.out⟩

set_option maxRecDepth 100000 in
theorem lifted (os : Os) (started : os.Started) (H : Type) (enc : TypeId × Value → H) :
    ReturnsInHanded {} Try.checked os 6 .any (Rows.idealRisesSpec.pre6 enc Try.prog Try.f6 Rows.idealRisesRow.domain false) (Rows.idealRisesSpec.post enc Try.prog Try.f6 false true false false) := by
  refine returnsInHanded_of_change (C := Try.checked) own started (by kernel_rfl) Try.func6
    (ChangeSpec.witness6 (enc := enc) (C := Try.checked) false ⟨#[], #[.slice none 0 0], []⟩ 8 (by kernel_rfl) (by kernel_rfl) (by kernel_rfl) (by kernel_rfl)) ?_
  intro W base args ds gs before hval0 hW hcnd _
  have hval : ∀ (j : Nat) t v, Try.f6.params[j]? = some t → args[j]? = some v → Value.okWide Try.prog W .any base t v := hval0
  have hW' := hW
  obtain ⟨p, q, hA0, hV, rfl, hfz, hnd⟩ := hW
  have hA : DataW.TrodAll enc Try.prog W 0 (fun _ => true) true Try.f6.params.toList args.toList ds p := hA0
  rw [Try.params6] at hA hval
  obtain ⟨v0, vs0, d0, ds0, p0, q0, hargs, rfl, rfl, h0, r0⟩ := trodAll_cons hA
  obtain ⟨rfl, rfl, rfl⟩ := trodAll_nil r0
  obtain rfl : args = #[v0] := by cases args; simp_all
  obtain ⟨rfl, rfl⟩ := trodVars_none hV
  obtain ⟨a0, len0, cap0, rfl⟩ := okWide_slice Try.underlying22 (hval 0 22 v0 rfl rfl)
  have k0 := h0
  have lt0 : ∀ x ∈ p0, x.block < W.heap.size := by obtain ⟨m, hm⟩ := k0; exact DataW.trod_lt m _ _ _ hm
  obtain ⟨z0, w0, u0⟩ : ∃ xs, RC.Is W a0 len0 cap0 xs ∧ ∀ x ∈ xs, ∃ G, GrpIn W x G := by
    obtain ⟨fuel, hf⟩ := h0
    exact isCalls_of hf
  clear hA0 hval0
  refine (walk a0 len0 cap0 z0 W w0 u0).mono fun e W' ⟨he, bel⟩ => ?_
  subst he
  exact ⟨_, rfl, _, _, _, [], _, [], hW', trodAll_mk1 (shut_bool Try.underlying4 _), (trodAll_cons_mk (Below.trod laidOut (by kernel_rfl) (of_decide_eq_true (by kernel_rfl)) k0 bel lt0) trodAll_mk0), rfl, bel.frame _, fun h => by cases h⟩

theorem over : Rows.idealRisesRow.holds Try.pinned (OpenSpec.ofChange Rows.idealRisesSpec) :=
  OpenClaim.holds_of_wide 6 Try.f6 rfl rfl rfl rfl rfl rfl rfl ⟨rfl, rfl, rfl, rfl, rfl⟩ rfl rfl rfl rfl rfl (by kernel_rfl) Try.func6 (by kernel_rfl)
    (of_decide_eq_true (by kernel_rfl)) (by unfold Func.isWrapper; first | (rw [if_pos (by decide +kernel)]; kernel_rfl) | (rw [if_neg (by decide +kernel)]; exact ⟨rfl, rfl⟩))
    (fun os started H enc _ => lifted os started H enc)

theorem proved : Rows.IdealRisesSaid := over
#print axioms proved
end Go.Proofs.Ytimpigponjkfkaa.idealRises
