/-
OrderScript: whatever is set, dropped and asked, each call of an order answers as the document says. Conditions: at most 120 acts, keys of at most 200 bytes (else the statements' own example alone).
-/
import Derived.Test.YtfdifimakaiccaaRows
import Derived.Test.YtfdifimakaiccaaPair13
import Derived.IntWalk
import Derived.WalkSmall
import Derived.Deep.QuietTactic
import Derived.BigQuiet
import Derived.WalkKit
import Derived.ProofKit
import Derived.OpenShut
import Derived.ShutString
import Derived.ChangeOld
import Derived.Below
namespace Go.Proofs.Ytfdifimakaiccaa.orderScript
open Go.ChangeShapes Go.WideShapes Go.ChangeAt Go.RowKit
open Go.ChangeMaps (open_string shut_string)
set_option linter.unusedVariables false

theorem own : ownKnob Try.prog.godebug = none := by kernel_rfl
theorem laidOut : laidOutB Try.prog = true := by kernel_rfl

set_option maxRecDepth 100000 in
set_option maxHeartbeats 1600000 in
theorem many (a0 : Option Addr) (len0 cap0 : Nat) (z0 : List ActP) (w : World) (w0 : IsActs w a0 len0 z0) (hb : largeB z0 = true) :
    Calls Try.prog 3 #[.slice a0 len0 cap0] w fun e w' => e = .returned (.bool true) ∧ Below w.heap.size w w' := by
  have HAW := Lib.hid (awake13_any w)
  have HLG := Lib.hid (large_any (cap := cap0) w0)
  rw [hb] at HLG
  clear w0 hb
  go_enter Try.func3, Try.ntmps3
  go_wp2_with fail
  refine HLG.out.mono ?_
  rintro e w' ⟨rfl, rfl⟩
  go_wp2_with fail
  refine HAW.out.mono ?_
  rintro e w' ⟨rfl, hb⟩
  have HB := Lib.hid hb
  clear hb
  go_wp2
  go_ret
  exact ⟨rfl, HB.out⟩
set_option maxRecDepth 100000 in
set_option maxHeartbeats 16000000 in
theorem few (a0 : Option Addr) (len0 cap0 : Nat) (z0 : List ActP) (w : World) (w0 : IsActs w a0 len0 z0) (hb : largeB z0 = false) :
    Calls Try.prog 3 #[.slice a0 len0 cap0] w fun e w' => e = .returned (.bool true) ∧ Below w.heap.size w w' := by
  have HAW := Lib.hid (fun w1 => awake13_any w1)
  have HLG := Lib.hid (large_any (cap := cap0) w0)
  rw [hb] at HLG
  obtain ⟨hl1, hl2⟩ := large_no hb
  have HK : Hid (∀ x ∈ z0, x.l.k.length ≤ 200) := hl2
  have HA := Lib.hid w0
  have hlm : len0 ≤ 120 := by rw [← w0.1.1]; exact hl1
  have HLM := Lib.hid hlm
  obtain ⟨g, hg⟩ : ∃ g, w.heap.size = g := ⟨_, rfl⟩
  have HG := Lib.hid hg
  have HN := Lib.hid (odnew_any w)
  rw [hg] at HN ⊢
  have HZ := Lib.hid zero_link
  have HZA := Lib.hid zero_act
  have hgu := guard_link12
  clear w0 hb hl1 hl2
  go_enter Try.func3, Try.ntmps3
  go_wp2_with fail
  refine HLG.out.mono ?_
  rintro e w' ⟨rfl, rfl⟩
  go_wp2_with fail
  refine HN.out.mono ?_
  rintro e v1 ⟨rfl, ht1, hb1⟩
  have HT1 := Lib.hid (tg_new HG.out ht1 hb1)
  have hrt := rt_new v1 g
  obtain ⟨v2, hv2⟩ : ∃ v2, v1.alloc (.cells #[.slice none 0 0] 30) = v2 := ⟨_, rfl⟩
  have hbl2 : Below v1.heap.size v1 v2 := by rw [← hv2]; exact (Below.refl _ _).alloc (Nat.le_refl _) _
  rw [hv2] at hrt
  obtain ⟨r, hr⟩ : ∃ r, v1.heap.size = r := ⟨_, rfl⟩
  rw [hr] at hrt hbl2
  have HP0 := Lib.hid (pr_new HT1.out hr hrt hbl2)
  clear ht1 hb1 hrt hbl2 HT1
  go_wp2
  clear hv2 hr hg
  go_loopg [5] len0 (fun gk s5 wx => ∃ (i q : Nat) (m : Nat → Value) (L : List Ln), i + gk = len0 ∧ s5 = .int .i64 i ∧ Hid (L.length ≤ i) ∧ Hid (Pr w g wx r q m (fun _ => False) L L))
  case atStart => exact ⟨0, r, _, [], by omega, rfl, Nat.le_refl _, HP0⟩
  case round =>
    obtain ⟨i, q, m, L, hin, rfl, HL, HP⟩ := hrel
    cases gk with
    | zero =>
      obtain rfl : i = len0 := by omega
      have hii : ¬ (i : Int) < (i : Int) := by omega
      have HPd : Hid (Pr w g wr.drew r q m (fun _ => False) L L) := HP.out.drewN 1
      have HLL : Hid (L.length ≤ 1048576) := by have h1 := HL.out; have h2 := HLM.out; show _ ≤ _; omega
      have HAL := Lib.hid (odall_any HPd.out.tg.tb HLL.out)
      unfold AllTo at HAL
      obtain ⟨A2, cap2, -, -, hrd⟩ := HPd.out.rt.reads
      have HRD2 := Lib.hid hrd
      have hc4 := (hrd _ (Below.refl _ _)).1
      clear hrd HP0
      go_wp2
      go_region_with (first
        | (go_at_call 18; refine HAL.out.mono ?_; rintro e w5 ⟨ga, cap1, rfl, ho5, hb5⟩; obtain ⟨-, A1, c1, e1, -, hr5, -⟩ := rowL_of_own ho5 HLL.out; cases e1; have HR5 := Lib.hid hr5; have HB5 := Lib.hid hb5; have hc5 := (HRD2.out w5 HB5.out).1; clear ho5 hr5 hb5)
        | (go_at_call 19; refine (samel_any _ _ _ _ _ _ L rfl HR5.out (HRD2.out w5 HB5.out).2).mono ?_; rintro e w6 ⟨rfl, k6, rfl⟩)
        | (go_at_call 9; refine (HAW.out _).mono ?_; rintro e w7 ⟨rfl, hb7⟩; have HB7 : Hid (Below g w w7) := (HPd.out.tg.bel.trans (HB5.out.mono HPd.out.tg.gw)).trans ((below_drewN (Below.refl g w5) k6).trans (hb7.mono (Nat.le_trans HPd.out.tg.gw HB5.out.size))); clear hb7))
      all_goals
        go_wp2
        go_ret
        exact ⟨rfl, HB7.out⟩
    | succ gk =>
      have hii : (i : Int) < (len0 : Int) := by omega
      obtain ⟨x, b0, off, hx, -, rfl, -, c0, c1, c2, c3, c4, c5, c6, c7⟩ := (HA.out.below (HG.out.symm ▸ HP.out.tg.bel)).at_ (i := i) (by omega)
      have hkx : x.l.k.length ≤ 1073741824 := Nat.le_trans (HK.out x (List.mem_of_getElem? hx)) (by omega)
      have HKX := Lib.hid hkx
      have HRS := Lib.hid HP.out.tg.tb.rises
      have HKS := Lib.hid HP.out.tg.tb.keys
      have HL1 : Hid (L.length < 1048576) := by have h1 := HL.out; show _ < _; omega
      obtain ⟨L', hL'⟩ : ∃ L', stepT L x = L' := ⟨_, rfl⟩
      have HL2 : Hid (L'.length ≤ i + 1) := by have h1 := HL.out; have h2 := stepT_len HRS.out x; show _ ≤ _; rw [← hL']; omega
      have HLS : Hid (L'.length ≤ 1048576) := by have h1 := HL2.out; show _ ≤ _; omega
      obtain ⟨bx, hbx⟩ : ∃ bx, wr.heap.size = bx := ⟨_, rfl⟩
      have HBX := Lib.hid hbx
      clear hx hkx hbx HP0
      rcases Classical.em (x.kd = 0) with h0 | h0
      · have hk := h0
        clear h0
        have k0 : (x.kd == 0) = true := by simp [hk]
        have hst : setT L x.l = L' := by rw [← hL']; unfold stepT; rw [if_pos hk]
        have HSP : Hid (∀ (v : World) q m N, Pr w g v r q m N L L → Calls Try.prog 11 #[.pointer (some ⟨g, 0, none⟩), .agg #[.string x.l.str, .int .u64 (x.l.id : Nat), .int .u64 (x.l.ver : Nat), .int .i64 x.l.line, .int .i64 x.l.cl]] v fun e w' => e = .returned (.bool (hasT L x.l.k)) ∧ OdTo v g m L' w') := fun v q m N h => by rw [← hst]; exact odset_any h.tg.tb x.l HKX.out HL1.out
        have HSR : Hid (∀ (v : World) q m N, Pr w g v r q m N L' L → Calls Try.prog 12 #[.pointer (some ⟨r, 0, none⟩), .agg #[.string x.l.str, .int .u64 (x.l.id : Nat), .int .u64 (x.l.ver : Nat), .int .i64 x.l.line, .int .i64 x.l.cl]] v fun e w' => e = .returned (.bool (hasT L x.l.k)) ∧ RtTo v r g q L' w') := fun v q m N h => by rw [← hst]; exact r12set_any h.rt h.tg.gw HL1.out x.l
        generalize hasT L x.l.k = hb at *
        clear hk hL' hst
        generalize x.l.str = x0 at *
        generalize (x.l.id : Int) = x1 at *
        generalize (x.l.ver : Int) = x2 at *
        generalize x.l.line = x3 at *
        generalize x.l.cl = x4 at *
        generalize x.kd = kd at *
        generalize x.b = bu at *
        generalize x.past = past at *
        go_wp2_with (first
          | ((with_reducible show wpList _ _ _ (⟨some 6, .alloc _, _, _, _, _⟩ :: _) _ _); refine wpList_alloc_var (o := ⟨some 6, _, _, _, _, _⟩) rfl 35 rfl bx HBX.out _ HZA.out ?_; intro v1 H1 B1)
          | ((with_reducible show wpList _ _ _ (⟨none, .store _ (.tmp 6) _, _, _, _, _⟩ :: _) _ _); refine wpList_store_whole (o := ⟨none, .store 35 (.tmp 6) (.tmp 29), _, _, _, _⟩) rfl _ _ _ rfl rfl bx #[.int .i64 kd, .string x0, .int .u64 x1, .int .u64 x2, .int .i64 x3, .int .i64 x4, .int .i64 bu, .bool past] rfl rfl 35 _ H1.out size_act12 rfl (ones8 _ _ _ _ _ _ _ _) ?_; intro v2 H2 B2; obtain ⟨ba, hba⟩ : ∃ ba, v2.heap.size = ba := ⟨_, rfl⟩; have HBA := Lib.hid hba; clear hba)
          | ((with_reducible show wpList _ _ _ (⟨some 7, .alloc _, _, _, _, _⟩ :: _) _ _); refine wpList_alloc_var (o := ⟨some 7, _, _, _, _, _⟩) rfl 33 rfl ba HBA.out _ HZ.out ?_; intro v3 H3 B3; obtain ⟨bb, hbb⟩ : ∃ bb, v3.heap.size = bb := ⟨_, rfl⟩; have HBB := Lib.hid hbb; clear hbb)
          | ((with_reducible show wpList _ _ _ (⟨some 8, .alloc _, _, _, _, _⟩ :: _) _ _); refine wpList_alloc_var (o := ⟨some 8, _, _, _, _, _⟩) rfl 33 rfl bb HBB.out _ HZ.out ?_; intro v4 H4 B4; have HLX : Hid (bx < ba) := HBA.out ▸ lt_of_heap H2.out; have HLA : Hid (ba < bb) := HBB.out ▸ lt_of_heap H3.out; have HA3 : Hid (v3.heap[bx]? = _) := (B3.out.block bx HLX.out).trans H2.out; have HX4 := Lib.hid ((B4.out.block bx (Nat.lt_trans HLX.out HLA.out)).trans HA3.out); have HA4 := Lib.hid ((B4.out.block ba HLA.out).trans H3.out); obtain ⟨d0, d1, d2, d3, d4, d5, d6, d7⟩ := cells8 HX4.out)
          | fail)
        have HP4 : Hid (Pr w g v4 r q m (fun k => ((False ∨ k = bx) ∨ k = ba) ∨ k = bb) L L) := ((HP.out.add HBX.out (B1.out.trans B2.out) (lt_of_heap H2.out)).add HBA.out B3.out (lt_of_heap H3.out)).add HBB.out B4.out (lt_of_heap H4.out)
        obtain ⟨N, hN⟩ : ∃ N : Nat → Prop, (fun k => ((False ∨ k = bx) ∨ k = ba) ∨ k = bb) = N := ⟨_, rfl⟩
        rw [hN] at HP4
        have HNX : Hid (N bx) := by rw [← hN]; exact .inl (.inl (.inr rfl))
        have HNA : Hid (N ba) := by rw [← hN]; exact .inl (.inr rfl)
        have HNB : Hid (N bb) := by rw [← hN]; exact .inr rfl
        clear hN HA3 H1 B1 B2 B3 B4 H2 H3 c0 c1 c2 c3 c4 c5 c6 c7
        have HP4d : Hid (Pr w g v4.drew r q m N L L) := HP4.out.drewN 1
        have HX4d : Hid (v4.drew.heap[bx]? = some (.cells #[.int .i64 kd, .string x0, .int .u64 x1, .int .u64 x2, .int .i64 x3, .int .i64 x4, .int .i64 bu, .bool past] 35 (0, 0))) := HX4.out
        clear d0 d1 d2 d3 d4 d5 d6 d7
        obtain ⟨-, d1, d2, d3, d4, d5, -, -⟩ := cells8 HX4d.out
        go_region_held3 (fun w' => w'.cell? ⟨bx, 1, none⟩ = some (.string x0) ∧ w'.cell? ⟨bx, 2, none⟩ = some (.int .u64 x1) ∧ w'.cell? ⟨bx, 3, none⟩ = some (.int .u64 x2) ∧ w'.cell? ⟨bx, 4, none⟩ = some (.int .i64 x3) ∧ w'.cell? ⟨bx, 5, none⟩ = some (.int .i64 x4)) (go_keep)
          (first
            | (go_at_call 11; refine (HSP.out _ _ _ _ HP4d.out).mono ?_; rintro e w5 ⟨rfl, hb5⟩; obtain ⟨⟨m', hp5⟩, hk5⟩ := HP4d.out.setP hb5; have HP5 := Lib.hid hp5; have HX5 := Lib.hid ((hk5 bx HNX.out).trans HX4d.out); have HA5 := Lib.hid ((hk5 ba HNA.out).trans HA4.out); have HB5 := Lib.hid ((hk5 bb HNB.out).trans H4.out); obtain ⟨-, e1, e2, e3, e4, e5, -, -⟩ := cells8 HX5.out; clear hb5 hp5 hk5)
            | (go_at_call 12; refine (HSR.out _ _ _ _ HP5.out).mono ?_; rintro e wt ⟨rfl, hb6⟩; obtain ⟨⟨q', hp6⟩, hk6⟩ := HP5.out.setR hb6; have HPt := Lib.hid hp6; have HX6 := Lib.hid ((hk6 bx HNX.out).trans HX5.out); have HAz := Lib.hid ((hk6 ba HNA.out).trans HA5.out); have HBz := Lib.hid ((hk6 bb HNB.out).trans HB5.out); obtain ⟨-, f1, f2, f3, f4, f5, -, -⟩ := cells8 HX6.out; clear hb6 hp6 hk6))
        all_goals
          clear d1 d2 d3 d4 d5 e1 e2 e3 e4 e5 f1 f2 f3 f4 f5
          obtain ⟨y0, y1, y2, y3, y4, HAt, HBt⟩ : ∃ (y0 : ByteArray) (y1 y2 y3 y4 : Int), Hid (wt.heap[ba]? = some (.cells #[.string y0, .int .u64 y1, .int .u64 y2, .int .i64 y3, .int .i64 y4] 33 (0, 0))) ∧ Hid (wt.heap[bb]? = some (.cells #[.string y0, .int .u64 y1, .int .u64 y2, .int .i64 y3, .int .i64 y4] 33 (0, 0))) := ⟨⟨#[]⟩, 0, 0, 0, 0, HAz, HBz⟩
          clear HAz HBz
          have hs0 : (y0.toList == y0.toList) = true := by simp
          have hs1 : (y1 == y1) = true := by simp
          have hs2 : (y2 == y2) = true := by simp
          have hs3 : (y3 == y3) = true := by simp
          have hs4 : (y4 == y4) = true := by simp
          have hs5 : (hb == hb) = true := by simp
          have hs6 : ((L'.length : Int) == (L'.length : Int)) = true := by simp
          obtain ⟨p0, p1, p2, p3, p4⟩ := cellsL HAt.out
          obtain ⟨q0, q1, q2, q3, q4⟩ := cellsL HBt.out
          obtain ⟨A2, cap2, -, -, hrd⟩ := HPt.out.rt.reads
          have HRD2 := Lib.hid hrd
          have hct := (hrd _ (Below.refl _ _)).1
          have HLN : Hid (∀ k, Calls Try.prog 17 #[.pointer (some ⟨g, 0, none⟩)] (wt.drewN k) fun e w' => e = .returned (.int .i64 (L'.length : Nat)) ∧ ∃ m, w' = wt.drewN m) := fun k => (odlen_any (HPt.out.drewN k).tg.tb HLS.out).mono fun _ _ hh => ⟨hh.1, k, hh.2.symm⟩
          clear hrd
          go_wp2
          go_quiet (first | (go_at_call 17; exact HLN.out _))
          have HPq : Hid (Pr w g (wt.drewN nq) r q' m' N L' L') := HPt.out.drewN nq
          clear p0 p1 p2 p3 p4 q0 q1 q2 q3 q4
          by_cases hmod : i % 5 = 0
          · have hm5 : ((i : Int) % 5 == 0) = true := by
              simp
              omega
            have HAL := Lib.hid (odall_any HPq.out.tg.tb HLS.out)
            unfold AllTo at HAL
            clear hmod
            go_wp2_with fail
            refine HAL.out.mono ?_
            rintro e w8 ⟨ga, cap1, rfl, ho8, hb8⟩
            obtain ⟨-, A1, c1, e1, -, hr8, -⟩ := rowL_of_own ho8 HLS.out
            cases e1
            have HO8 := Lib.hid ho8
            have HB8 := Lib.hid hb8
            have HBT : Hid (Below wt.heap.size wt w8) := (below_drewN (Below.refl _ _) nq).trans hb8
            have HSM := Lib.hid (samel_any w8 _ _ _ cap1 cap2 L' rfl hr8 (HRD2.out w8 HBT.out).2)
            have hc8 := (HRD2.out w8 HBT.out).1
            clear ho8 hb8 hr8
            go_wp2_with fail
            refine HSM.out.mono ?_
            rintro e w9 ⟨rfl, k9, rfl⟩
            have HOV := Lib.hid (overl_sp (w8.drewN k9) (wt.drewN nq).heap.size L'.length _ L' rfl (by have := HL2.out; omega) (own_keep (w := w8) HO8.out (below_drewN (Below.refl _ _) k9)) HB8.out.size)
            go_wp2_with fail
            refine HOV.out.mono ?_
            rintro e w10 ⟨rfl, hb10⟩
            have HP10 := Lib.hid (HPq.out.below (HB8.out.trans ((below_drewN (Below.refl _ w8) k9).trans hb10))).less
            clear hb10
            go_wp2
            go_roundg gk
            case measure => omega
            case rel => exact ⟨i + 1, q', m', L', by omega, by go_num, HL2, HP10⟩
          · have hm5 : ((i : Int) % 5 == 0) = false := by
              simp
              omega
            have HP10 := Lib.hid HPq.out.less
            clear hmod
            go_wp2
            go_roundg gk
            case measure => omega
            case rel => exact ⟨i + 1, q', m', L', by omega, by go_num, HL2, HP10⟩
      · rcases Classical.em (x.kd = 1) with h1 | h1
        · have hk := h1
          clear h0 h1
          have k0 : (x.kd == 0) = false := by simp [hk]
          have k1 : (x.kd == 1) = true := by simp [hk]
          have hst : dropT L x.l.k = L' := by rw [← hL']; unfold stepT; rw [if_neg (by omega), if_pos hk]
          have HSP : Hid (∀ (v : World) q m N, Pr w g v r q m N L L → Calls Try.prog 13 #[.pointer (some ⟨g, 0, none⟩), .string x.l.str] v fun e w' => e = .returned (.bool (hasT L x.l.k)) ∧ OdTo v g m L' w') := fun v q m N h => by rw [← hst]; exact oddrop_any h.tg.tb x.l.str (by rw [str_size]; exact HKX.out) (Nat.le_of_lt HL1.out)
          have HSR : Hid (∀ (v : World) q m N, Pr w g v r q m N L' L → Calls Try.prog 14 #[.pointer (some ⟨r, 0, none⟩), .string x.l.str] v fun e w' => e = .returned (.tuple #[.agg #[.string (linkT L x.l.k).str, .int .u64 ((linkT L x.l.k).id : Nat), .int .u64 ((linkT L x.l.k).ver : Nat), .int .i64 (linkT L x.l.k).line, .int .i64 (linkT L x.l.k).cl], .bool (hasT L x.l.k)]) ∧ RtTo v r g q L' w') := fun v q m N h => by rw [← hst]; exact r12drop_any h.rt h.tg.gw HL1.out x.l.str
          obtain ⟨y, hy⟩ : ∃ y, linkT L x.l.k = y := ⟨_, rfl⟩
          rw [hy] at HSR
          generalize hasT L x.l.k = hb at *
          clear hk hL' hst hy
          generalize y.str = z0 at *
          generalize (y.id : Int) = z1 at *
          generalize (y.ver : Int) = z2 at *
          generalize y.line = z3 at *
          generalize y.cl = z4 at *
          generalize x.l.str = x0 at *
          generalize (x.l.id : Int) = x1 at *
          generalize (x.l.ver : Int) = x2 at *
          generalize x.l.line = x3 at *
          generalize x.l.cl = x4 at *
          generalize x.kd = kd at *
          generalize x.b = bu at *
          generalize x.past = past at *
          go_wp2_with (first
            | ((with_reducible show wpList _ _ _ (⟨some 6, .alloc _, _, _, _, _⟩ :: _) _ _); refine wpList_alloc_var (o := ⟨some 6, _, _, _, _, _⟩) rfl 35 rfl bx HBX.out _ HZA.out ?_; intro v1 H1 B1)
            | ((with_reducible show wpList _ _ _ (⟨none, .store _ (.tmp 6) _, _, _, _, _⟩ :: _) _ _); refine wpList_store_whole (o := ⟨none, .store 35 (.tmp 6) (.tmp 29), _, _, _, _⟩) rfl _ _ _ rfl rfl bx #[.int .i64 kd, .string x0, .int .u64 x1, .int .u64 x2, .int .i64 x3, .int .i64 x4, .int .i64 bu, .bool past] rfl rfl 35 _ H1.out size_act12 rfl (ones8 _ _ _ _ _ _ _ _) ?_; intro v2 H2 B2; obtain ⟨ba, hba⟩ : ∃ ba, v2.heap.size = ba := ⟨_, rfl⟩; have HBA := Lib.hid hba; clear hba)
            | ((with_reducible show wpList _ _ _ (⟨some 7, .alloc _, _, _, _, _⟩ :: _) _ _); refine wpList_alloc_var (o := ⟨some 7, _, _, _, _, _⟩) rfl 33 rfl ba HBA.out _ HZ.out ?_; intro v3 H3 B3; obtain ⟨bb, hbb⟩ : ∃ bb, v3.heap.size = bb := ⟨_, rfl⟩; have HBB := Lib.hid hbb; clear hbb)
            | ((with_reducible show wpList _ _ _ (⟨some 8, .alloc _, _, _, _, _⟩ :: _) _ _); refine wpList_alloc_var (o := ⟨some 8, _, _, _, _, _⟩) rfl 33 rfl bb HBB.out _ HZ.out ?_; intro v4 H4 B4; have HLX : Hid (bx < ba) := HBA.out ▸ lt_of_heap H2.out; have HLA : Hid (ba < bb) := HBB.out ▸ lt_of_heap H3.out; have HA3 : Hid (v3.heap[bx]? = _) := (B3.out.block bx HLX.out).trans H2.out; have HX4 := Lib.hid ((B4.out.block bx (Nat.lt_trans HLX.out HLA.out)).trans HA3.out); have HA4 := Lib.hid ((B4.out.block ba HLA.out).trans H3.out); obtain ⟨d0, d1, d2, d3, d4, d5, d6, d7⟩ := cells8 HX4.out)
            | fail)
          have HP4 : Hid (Pr w g v4 r q m (fun k => ((False ∨ k = bx) ∨ k = ba) ∨ k = bb) L L) := ((HP.out.add HBX.out (B1.out.trans B2.out) (lt_of_heap H2.out)).add HBA.out B3.out (lt_of_heap H3.out)).add HBB.out B4.out (lt_of_heap H4.out)
          obtain ⟨N, hN⟩ : ∃ N : Nat → Prop, (fun k => ((False ∨ k = bx) ∨ k = ba) ∨ k = bb) = N := ⟨_, rfl⟩
          rw [hN] at HP4
          have HNX : Hid (N bx) := by rw [← hN]; exact .inl (.inl (.inr rfl))
          have HNA : Hid (N ba) := by rw [← hN]; exact .inl (.inr rfl)
          have HNB : Hid (N bb) := by rw [← hN]; exact .inr rfl
          clear hN HA3 H1 B1 B2 B3 B4 H2 H3 c0 c1 c2 c3 c4 c5 c6 c7
          clear d0 d1 d2 d3 d4 d5 d6 d7
          obtain ⟨d0, d1, d2, d3, d4, d5, d6, d7⟩ := cells8 HX4.out
          go_wp2_with fail
          refine (HSP.out _ _ _ _ HP4.out).mono ?_
          rintro e w5 ⟨rfl, hb5⟩
          obtain ⟨⟨m', hp5⟩, hk5⟩ := HP4.out.setP hb5
          have HP5 := Lib.hid hp5
          have HX5 := Lib.hid ((hk5 bx HNX.out).trans HX4.out)
          have HA5 := Lib.hid ((hk5 ba HNA.out).trans HA4.out)
          have HB5 := Lib.hid ((hk5 bb HNB.out).trans H4.out)
          clear hb5 hp5 hk5 d0 d1 d2 d3 d4 d5 d6 d7
          obtain ⟨d0, d1, d2, d3, d4, d5, d6, d7⟩ := cells8 HX5.out
          go_wp2_with fail
          refine (HSR.out _ _ _ _ HP5.out).mono ?_
          rintro e wt ⟨rfl, hb7⟩
          obtain ⟨⟨q', hp7⟩, hk7⟩ := HP5.out.setR hb7
          have HPt := Lib.hid hp7
          have HAz := Lib.hid ((hk7 ba HNA.out).trans HA5.out)
          have HBz := Lib.hid ((hk7 bb HNB.out).trans HB5.out)
          clear hb7 hp7 hk7 d0 d1 d2 d3 d4 d5 d6 d7
          obtain ⟨y0, y1, y2, y3, y4, HAt, HBt⟩ : ∃ (y0 : ByteArray) (y1 y2 y3 y4 : Int), Hid (wt.heap[ba]? = some (.cells #[.string y0, .int .u64 y1, .int .u64 y2, .int .i64 y3, .int .i64 y4] 33 (0, 0))) ∧ Hid (wt.heap[bb]? = some (.cells #[.string y0, .int .u64 y1, .int .u64 y2, .int .i64 y3, .int .i64 y4] 33 (0, 0))) := ⟨⟨#[]⟩, 0, 0, 0, 0, HAz, HBz⟩
          clear HAz HBz
          have hs0 : (y0.toList == y0.toList) = true := by simp
          have hs1 : (y1 == y1) = true := by simp
          have hs2 : (y2 == y2) = true := by simp
          have hs3 : (y3 == y3) = true := by simp
          have hs4 : (y4 == y4) = true := by simp
          have hs5 : (hb == hb) = true := by simp
          have hs6 : ((L'.length : Int) == (L'.length : Int)) = true := by simp
          obtain ⟨p0, p1, p2, p3, p4⟩ := cellsL HAt.out
          obtain ⟨q0, q1, q2, q3, q4⟩ := cellsL HBt.out
          obtain ⟨A2, cap2, -, -, hrd⟩ := HPt.out.rt.reads
          have HRD2 := Lib.hid hrd
          have hct := (hrd _ (Below.refl _ _)).1
          have HLN : Hid (∀ k, Calls Try.prog 17 #[.pointer (some ⟨g, 0, none⟩)] (wt.drewN k) fun e w' => e = .returned (.int .i64 (L'.length : Nat)) ∧ ∃ m, w' = wt.drewN m) := fun k => (odlen_any (HPt.out.drewN k).tg.tb HLS.out).mono fun _ _ hh => ⟨hh.1, k, hh.2.symm⟩
          clear hrd
          go_wp2
          go_quiet (first | (go_at_call 17; exact HLN.out _))
          have HPq : Hid (Pr w g (wt.drewN nq) r q' m' N L' L') := HPt.out.drewN nq
          clear p0 p1 p2 p3 p4 q0 q1 q2 q3 q4
          by_cases hmod : i % 5 = 0
          · have hm5 : ((i : Int) % 5 == 0) = true := by
              simp
              omega
            have HAL := Lib.hid (odall_any HPq.out.tg.tb HLS.out)
            unfold AllTo at HAL
            clear hmod
            go_wp2_with fail
            refine HAL.out.mono ?_
            rintro e w8 ⟨ga, cap1, rfl, ho8, hb8⟩
            obtain ⟨-, A1, c1, e1, -, hr8, -⟩ := rowL_of_own ho8 HLS.out
            cases e1
            have HO8 := Lib.hid ho8
            have HB8 := Lib.hid hb8
            have HBT : Hid (Below wt.heap.size wt w8) := (below_drewN (Below.refl _ _) nq).trans hb8
            have HSM := Lib.hid (samel_any w8 _ _ _ cap1 cap2 L' rfl hr8 (HRD2.out w8 HBT.out).2)
            have hc8 := (HRD2.out w8 HBT.out).1
            clear ho8 hb8 hr8
            go_wp2_with fail
            refine HSM.out.mono ?_
            rintro e w9 ⟨rfl, k9, rfl⟩
            have HOV := Lib.hid (overl_sp (w8.drewN k9) (wt.drewN nq).heap.size L'.length _ L' rfl (by have := HL2.out; omega) (own_keep (w := w8) HO8.out (below_drewN (Below.refl _ _) k9)) HB8.out.size)
            go_wp2_with fail
            refine HOV.out.mono ?_
            rintro e w10 ⟨rfl, hb10⟩
            have HP10 := Lib.hid (HPq.out.below (HB8.out.trans ((below_drewN (Below.refl _ w8) k9).trans hb10))).less
            clear hb10
            go_wp2
            go_roundg gk
            case measure => omega
            case rel => exact ⟨i + 1, q', m', L', by omega, by go_num, HL2, HP10⟩
          · have hm5 : ((i : Int) % 5 == 0) = false := by
              simp
              omega
            have HP10 := Lib.hid HPq.out.less
            clear hmod
            go_wp2
            go_roundg gk
            case measure => omega
            case rel => exact ⟨i + 1, q', m', L', by omega, by go_num, HL2, HP10⟩
        · rcases Classical.em (x.kd = 2) with h2 | h2
          · have hk := h2
            clear h0 h1 h2
            have k0 : (x.kd == 0) = false := by simp [hk]
            have k1 : (x.kd == 1) = false := by simp [hk]
            have k2 : (x.kd == 2) = true := by simp [hk]
            have hst : L' = L := by rw [← hL']; unfold stepT; rw [if_neg (by omega), if_neg (by omega)]
            have HSP : Hid (∀ (v : World) q m N, Pr w g v r q m N L L → Calls Try.prog 15 #[.pointer (some ⟨g, 0, none⟩), .int .i64 x.b, .string x.l.str, .bool x.past] v fun e w' => e = .returned (.tuple #[.agg #[.string ((rightT L x.b x.l.k x.past).getD Ln.zero).str, .int .u64 (((rightT L x.b x.l.k x.past).getD Ln.zero).id : Nat), .int .u64 (((rightT L x.b x.l.k x.past).getD Ln.zero).ver : Nat), .int .i64 ((rightT L x.b x.l.k x.past).getD Ln.zero).line, .int .i64 ((rightT L x.b x.l.k x.past).getD Ln.zero).cl], .bool (rightT L x.b x.l.k x.past).isSome]) ∧ Below v.heap.size v w') := fun v q m N h => odright_any h.tg.tb (Nat.le_of_lt HL1.out) x.b x.l.str x.past
            have HSR : Hid (∀ (v : World) q m N, Pr w g v r q m N L L → Calls Try.prog 16 #[.pointer (some ⟨r, 0, none⟩), .int .i64 x.b, .string x.l.str, .bool x.past] v fun e w' => e = .returned (.tuple #[.agg #[.string ((rightT L x.b x.l.k x.past).getD Ln.zero).str, .int .u64 (((rightT L x.b x.l.k x.past).getD Ln.zero).id : Nat), .int .u64 (((rightT L x.b x.l.k x.past).getD Ln.zero).ver : Nat), .int .i64 ((rightT L x.b x.l.k x.past).getD Ln.zero).line, .int .i64 ((rightT L x.b x.l.k x.past).getD Ln.zero).cl], .bool (rightT L x.b x.l.k x.past).isSome]) ∧ Below v.heap.size v w') := fun v q m N h => r12right_any h.rt HKS.out x.b x.l.str x.past
            obtain ⟨y, hy⟩ : ∃ y, (rightT L x.b x.l.k x.past).getD Ln.zero = y := ⟨_, rfl⟩
            rw [hy] at HSP HSR
            generalize (rightT L x.b x.l.k x.past).isSome = hb at *
            clear hy
            have HST := Lib.hid hst.symm
            clear hst
            clear hk hL'
            generalize y.str = y0 at *
            generalize (y.id : Int) = y1 at *
            generalize (y.ver : Int) = y2 at *
            generalize y.line = y3 at *
            generalize y.cl = y4 at *
            generalize x.l.str = x0 at *
            generalize (x.l.id : Int) = x1 at *
            generalize (x.l.ver : Int) = x2 at *
            generalize x.l.line = x3 at *
            generalize x.l.cl = x4 at *
            generalize x.kd = kd at *
            generalize x.b = bu at *
            generalize x.past = past at *
            go_wp2_with (first
              | ((with_reducible show wpList _ _ _ (⟨some 6, .alloc _, _, _, _, _⟩ :: _) _ _); refine wpList_alloc_var (o := ⟨some 6, _, _, _, _, _⟩) rfl 35 rfl bx HBX.out _ HZA.out ?_; intro v1 H1 B1)
              | ((with_reducible show wpList _ _ _ (⟨none, .store _ (.tmp 6) _, _, _, _, _⟩ :: _) _ _); refine wpList_store_whole (o := ⟨none, .store 35 (.tmp 6) (.tmp 29), _, _, _, _⟩) rfl _ _ _ rfl rfl bx #[.int .i64 kd, .string x0, .int .u64 x1, .int .u64 x2, .int .i64 x3, .int .i64 x4, .int .i64 bu, .bool past] rfl rfl 35 _ H1.out size_act12 rfl (ones8 _ _ _ _ _ _ _ _) ?_; intro v2 H2 B2; obtain ⟨ba, hba⟩ : ∃ ba, v2.heap.size = ba := ⟨_, rfl⟩; have HBA := Lib.hid hba; clear hba)
              | ((with_reducible show wpList _ _ _ (⟨some 7, .alloc _, _, _, _, _⟩ :: _) _ _); refine wpList_alloc_var (o := ⟨some 7, _, _, _, _, _⟩) rfl 33 rfl ba HBA.out _ HZ.out ?_; intro v3 H3 B3; obtain ⟨bb, hbb⟩ : ∃ bb, v3.heap.size = bb := ⟨_, rfl⟩; have HBB := Lib.hid hbb; clear hbb)
              | ((with_reducible show wpList _ _ _ (⟨some 8, .alloc _, _, _, _, _⟩ :: _) _ _); refine wpList_alloc_var (o := ⟨some 8, _, _, _, _, _⟩) rfl 33 rfl bb HBB.out _ HZ.out ?_; intro v4 H4 B4; have HLX : Hid (bx < ba) := HBA.out ▸ lt_of_heap H2.out; have HLA : Hid (ba < bb) := HBB.out ▸ lt_of_heap H3.out; have HA3 : Hid (v3.heap[bx]? = _) := (B3.out.block bx HLX.out).trans H2.out; have HX4 := Lib.hid ((B4.out.block bx (Nat.lt_trans HLX.out HLA.out)).trans HA3.out); have HA4 := Lib.hid ((B4.out.block ba HLA.out).trans H3.out); obtain ⟨d0, d1, d2, d3, d4, d5, d6, d7⟩ := cells8 HX4.out)
              | fail)
            have HP4 : Hid (Pr w g v4 r q m (fun k => ((False ∨ k = bx) ∨ k = ba) ∨ k = bb) L L) := ((HP.out.add HBX.out (B1.out.trans B2.out) (lt_of_heap H2.out)).add HBA.out B3.out (lt_of_heap H3.out)).add HBB.out B4.out (lt_of_heap H4.out)
            obtain ⟨N, hN⟩ : ∃ N : Nat → Prop, (fun k => ((False ∨ k = bx) ∨ k = ba) ∨ k = bb) = N := ⟨_, rfl⟩
            rw [hN] at HP4
            have HNX : Hid (N bx) := by rw [← hN]; exact .inl (.inl (.inr rfl))
            have HNA : Hid (N ba) := by rw [← hN]; exact .inl (.inr rfl)
            have HNB : Hid (N bb) := by rw [← hN]; exact .inr rfl
            clear hN HA3 H1 B1 B2 B3 B4 H2 H3 c0 c1 c2 c3 c4 c5 c6 c7
            clear d0 d1 d2 d3 d4 d5 d6 d7
            obtain ⟨d0, d1, d2, d3, d4, d5, d6, d7⟩ := cells8 HX4.out
            go_wp2_with fail
            refine (HSP.out _ _ _ _ HP4.out).mono ?_
            rintro e w5 ⟨rfl, hb5⟩
            have HP5 := Lib.hid (HP4.out.below hb5)
            have HX5 := Lib.hid ((hb5.block bx (lt_of_heap HX4.out)).trans HX4.out)
            have HA5 := Lib.hid ((hb5.block ba (lt_of_heap HA4.out)).trans HA4.out)
            have HB5 := Lib.hid ((hb5.block bb (lt_of_heap H4.out)).trans H4.out)
            obtain ⟨m', hm'⟩ : ∃ m', m = m' := ⟨_, rfl⟩
            rw [hm'] at HP5
            clear hb5 hm'
            have HNE : Hid (bx ≠ ba ∧ bx ≠ bb ∧ ba ≠ bb) := ⟨Nat.ne_of_lt HLX.out, Nat.ne_of_lt (Nat.lt_trans HLX.out HLA.out), Nat.ne_of_lt HLA.out⟩
            go_wp2_with (first
              | (((with_reducible show wpList _ _ _ (⟨none, .store _ (.tmp 7) _, _, _, _, _⟩ :: _) _ _); refine wpList_store_only (o := ⟨none, .store 33 (.tmp 7) (.tmp 69), _, _, _, _⟩) rfl _ _ _ rfl rfl ba #[.string y0, .int .u64 y1, .int .u64 y2, .int .i64 y3, .int .i64 y4] rfl rfl 33 _ HA5.out size_link rfl (onesL _ _ _ _ _) ?_; intro w6 H6 B6); have HX6 := Lib.hid ((B6.out.block bx HNE.out.1 HNE.out.1 (lt_of_heap HX5.out)).trans HX5.out); obtain ⟨e0, e1, e2, e3, e4, e5, e6, e7⟩ := cells8 HX6.out)
              | fail)
            have HP6 := Lib.hid (HP5.out.turn HNA.out B6.out)
            have HB6 := Lib.hid ((B6.out.block bb HNE.out.2.2.symm HNE.out.2.2.symm (lt_of_heap HB5.out)).trans HB5.out)
            refine (HSR.out _ _ _ _ HP6.out).mono ?_
            rintro e w7 ⟨rfl, hb7⟩
            have HP7 := Lib.hid (HP6.out.below hb7)
            have HX7 := Lib.hid ((hb7.block bx (lt_of_heap HX6.out)).trans HX6.out)
            have HA7 := Lib.hid ((hb7.block ba (lt_of_heap H6.out)).trans H6.out)
            have HB7 := Lib.hid ((hb7.block bb (lt_of_heap HB6.out)).trans HB6.out)
            obtain ⟨q', hq'⟩ : ∃ q', q = q' := ⟨_, rfl⟩
            rw [hq'] at HP7
            clear hb7 hq'
            clear e0 e1 e2 e3 e4 e5 e6 e7 d0 d1 d2 d3 d4 d5 d6 d7
            go_wp2_with (first
              | (((with_reducible show wpList _ _ _ (⟨none, .store _ (.tmp 8) _, _, _, _, _⟩ :: _) _ _); refine wpList_store_only (o := ⟨none, .store 33 (.tmp 8) (.tmp 81), _, _, _, _⟩) rfl _ _ _ rfl rfl bb #[.string y0, .int .u64 y1, .int .u64 y2, .int .i64 y3, .int .i64 y4] rfl rfl 33 _ HB7.out size_link rfl (onesL _ _ _ _ _) ?_; intro wt HBt B8); have HAt := Lib.hid ((B8.out.block ba HNE.out.2.2 HNE.out.2.2 (lt_of_heap HA7.out)).trans HA7.out); have HPt := Lib.hid (HP7.out.turn HNB.out B8.out); rw [HST.out] at HPt)
              | fail)
            have hs0 : (y0.toList == y0.toList) = true := by simp
            have hs1 : (y1 == y1) = true := by simp
            have hs2 : (y2 == y2) = true := by simp
            have hs3 : (y3 == y3) = true := by simp
            have hs4 : (y4 == y4) = true := by simp
            have hs5 : (hb == hb) = true := by simp
            have hs6 : ((L'.length : Int) == (L'.length : Int)) = true := by simp
            obtain ⟨p0, p1, p2, p3, p4⟩ := cellsL HAt.out
            obtain ⟨q0, q1, q2, q3, q4⟩ := cellsL HBt.out
            obtain ⟨A2, cap2, -, -, hrd⟩ := HPt.out.rt.reads
            have HRD2 := Lib.hid hrd
            have hct := (hrd _ (Below.refl _ _)).1
            have HLN : Hid (∀ k, Calls Try.prog 17 #[.pointer (some ⟨g, 0, none⟩)] (wt.drewN k) fun e w' => e = .returned (.int .i64 (L'.length : Nat)) ∧ ∃ m, w' = wt.drewN m) := fun k => (odlen_any (HPt.out.drewN k).tg.tb HLS.out).mono fun _ _ hh => ⟨hh.1, k, hh.2.symm⟩
            clear hrd
            go_wp2
            go_quiet (first | (go_at_call 17; exact HLN.out _))
            have HPq : Hid (Pr w g (wt.drewN nq) r q' m' N L' L') := HPt.out.drewN nq
            clear p0 p1 p2 p3 p4 q0 q1 q2 q3 q4
            by_cases hmod : i % 5 = 0
            · have hm5 : ((i : Int) % 5 == 0) = true := by
                simp
                omega
              have HAL := Lib.hid (odall_any HPq.out.tg.tb HLS.out)
              unfold AllTo at HAL
              clear hmod
              go_wp2_with fail
              refine HAL.out.mono ?_
              rintro e w8 ⟨ga, cap1, rfl, ho8, hb8⟩
              obtain ⟨-, A1, c1, e1, -, hr8, -⟩ := rowL_of_own ho8 HLS.out
              cases e1
              have HO8 := Lib.hid ho8
              have HB8 := Lib.hid hb8
              have HBT : Hid (Below wt.heap.size wt w8) := (below_drewN (Below.refl _ _) nq).trans hb8
              have HSM := Lib.hid (samel_any w8 _ _ _ cap1 cap2 L' rfl hr8 (HRD2.out w8 HBT.out).2)
              have hc8 := (HRD2.out w8 HBT.out).1
              clear ho8 hb8 hr8
              go_wp2_with fail
              refine HSM.out.mono ?_
              rintro e w9 ⟨rfl, k9, rfl⟩
              have HOV := Lib.hid (overl_sp (w8.drewN k9) (wt.drewN nq).heap.size L'.length _ L' rfl (by have := HL2.out; omega) (own_keep (w := w8) HO8.out (below_drewN (Below.refl _ _) k9)) HB8.out.size)
              go_wp2_with fail
              refine HOV.out.mono ?_
              rintro e w10 ⟨rfl, hb10⟩
              have HP10 := Lib.hid (HPq.out.below (HB8.out.trans ((below_drewN (Below.refl _ w8) k9).trans hb10))).less
              clear hb10
              go_wp2
              go_roundg gk
              case measure => omega
              case rel => exact ⟨i + 1, q', m', L', by omega, by go_num, HL2, HP10⟩
            · have hm5 : ((i : Int) % 5 == 0) = false := by
                simp
                omega
              have HP10 := Lib.hid HPq.out.less
              clear hmod
              go_wp2
              go_roundg gk
              case measure => omega
              case rel => exact ⟨i + 1, q', m', L', by omega, by go_num, HL2, HP10⟩
          · have k0 : (x.kd == 0) = false := by simpa using h0
            have k1 : (x.kd == 1) = false := by simpa using h1
            have k2 : (x.kd == 2) = false := by simpa using h2
            have hst : L' = L := by rw [← hL']; unfold stepT; rw [if_neg h0, if_neg h1]
            have HST := Lib.hid hst.symm
            clear hL' h0 h1 h2 hst
            generalize x.l.str = x0 at *
            generalize (x.l.id : Int) = x1 at *
            generalize (x.l.ver : Int) = x2 at *
            generalize x.l.line = x3 at *
            generalize x.l.cl = x4 at *
            generalize x.kd = kd at *
            generalize x.b = bu at *
            generalize x.past = past at *
            go_wp2_with (first
              | ((with_reducible show wpList _ _ _ (⟨some 6, .alloc _, _, _, _, _⟩ :: _) _ _); refine wpList_alloc_var (o := ⟨some 6, _, _, _, _, _⟩) rfl 35 rfl bx HBX.out _ HZA.out ?_; intro v1 H1 B1)
              | ((with_reducible show wpList _ _ _ (⟨none, .store _ (.tmp 6) _, _, _, _, _⟩ :: _) _ _); refine wpList_store_whole (o := ⟨none, .store 35 (.tmp 6) (.tmp 29), _, _, _, _⟩) rfl _ _ _ rfl rfl bx #[.int .i64 kd, .string x0, .int .u64 x1, .int .u64 x2, .int .i64 x3, .int .i64 x4, .int .i64 bu, .bool past] rfl rfl 35 _ H1.out size_act12 rfl (ones8 _ _ _ _ _ _ _ _) ?_; intro v2 H2 B2; obtain ⟨ba, hba⟩ : ∃ ba, v2.heap.size = ba := ⟨_, rfl⟩; have HBA := Lib.hid hba; clear hba)
              | ((with_reducible show wpList _ _ _ (⟨some 7, .alloc _, _, _, _, _⟩ :: _) _ _); refine wpList_alloc_var (o := ⟨some 7, _, _, _, _, _⟩) rfl 33 rfl ba HBA.out _ HZ.out ?_; intro v3 H3 B3; obtain ⟨bb, hbb⟩ : ∃ bb, v3.heap.size = bb := ⟨_, rfl⟩; have HBB := Lib.hid hbb; clear hbb)
              | ((with_reducible show wpList _ _ _ (⟨some 8, .alloc _, _, _, _, _⟩ :: _) _ _); refine wpList_alloc_var (o := ⟨some 8, _, _, _, _, _⟩) rfl 33 rfl bb HBB.out _ HZ.out ?_; intro v4 H4 B4; have HLX : Hid (bx < ba) := HBA.out ▸ lt_of_heap H2.out; have HLA : Hid (ba < bb) := HBB.out ▸ lt_of_heap H3.out; have HA3 : Hid (v3.heap[bx]? = _) := (B3.out.block bx HLX.out).trans H2.out; have HX4 := Lib.hid ((B4.out.block bx (Nat.lt_trans HLX.out HLA.out)).trans HA3.out); have HA4 := Lib.hid ((B4.out.block ba HLA.out).trans H3.out); obtain ⟨d0, d1, d2, d3, d4, d5, d6, d7⟩ := cells8 HX4.out)
              | fail)
            have HP4 : Hid (Pr w g v4 r q m (fun k => ((False ∨ k = bx) ∨ k = ba) ∨ k = bb) L L) := ((HP.out.add HBX.out (B1.out.trans B2.out) (lt_of_heap H2.out)).add HBA.out B3.out (lt_of_heap H3.out)).add HBB.out B4.out (lt_of_heap H4.out)
            obtain ⟨N, hN⟩ : ∃ N : Nat → Prop, (fun k => ((False ∨ k = bx) ∨ k = ba) ∨ k = bb) = N := ⟨_, rfl⟩
            rw [hN] at HP4
            have HNX : Hid (N bx) := by rw [← hN]; exact .inl (.inl (.inr rfl))
            have HNA : Hid (N ba) := by rw [← hN]; exact .inl (.inr rfl)
            have HNB : Hid (N bb) := by rw [← hN]; exact .inr rfl
            clear hN HA3 H1 B1 B2 B3 B4 H2 H3 c0 c1 c2 c3 c4 c5 c6 c7
            obtain ⟨wt, hwt⟩ : ∃ wt, v4 = wt := ⟨_, rfl⟩
            obtain ⟨q', hq'⟩ : ∃ q', q = q' := ⟨_, rfl⟩
            obtain ⟨m', hm'⟩ : ∃ m', m = m' := ⟨_, rfl⟩
            subst hwt
            rw [hq', hm', HST.out] at HP4
            have HPt := HP4
            have HAz := HA4
            have HBz := H4
            clear hq' hm' d0 d1 d2 d3 d4 d5 d6 d7
            obtain ⟨y0, y1, y2, y3, y4, HAt, HBt⟩ : ∃ (y0 : ByteArray) (y1 y2 y3 y4 : Int), Hid (v4.heap[ba]? = some (.cells #[.string y0, .int .u64 y1, .int .u64 y2, .int .i64 y3, .int .i64 y4] 33 (0, 0))) ∧ Hid (v4.heap[bb]? = some (.cells #[.string y0, .int .u64 y1, .int .u64 y2, .int .i64 y3, .int .i64 y4] 33 (0, 0))) := ⟨⟨#[]⟩, 0, 0, 0, 0, HAz, HBz⟩
            clear HAz HBz
            have hs0 : (y0.toList == y0.toList) = true := by simp
            have hs1 : (y1 == y1) = true := by simp
            have hs2 : (y2 == y2) = true := by simp
            have hs3 : (y3 == y3) = true := by simp
            have hs4 : (y4 == y4) = true := by simp
            have hs6 : ((L'.length : Int) == (L'.length : Int)) = true := by simp
            obtain ⟨p0, p1, p2, p3, p4⟩ := cellsL HAt.out
            obtain ⟨q0, q1, q2, q3, q4⟩ := cellsL HBt.out
            obtain ⟨A2, cap2, -, -, hrd⟩ := HPt.out.rt.reads
            have HRD2 := Lib.hid hrd
            have hct := (hrd _ (Below.refl _ _)).1
            have HLN : Hid (∀ k, Calls Try.prog 17 #[.pointer (some ⟨g, 0, none⟩)] (v4.drewN k) fun e w' => e = .returned (.int .i64 (L'.length : Nat)) ∧ ∃ m, w' = v4.drewN m) := fun k => (odlen_any (HPt.out.drewN k).tg.tb HLS.out).mono fun _ _ hh => ⟨hh.1, k, hh.2.symm⟩
            clear hrd
            go_wp2
            go_quiet (first | (go_at_call 17; exact HLN.out _))
            have HPq : Hid (Pr w g (v4.drewN nq) r q' m' N L' L') := HPt.out.drewN nq
            clear p0 p1 p2 p3 p4 q0 q1 q2 q3 q4
            by_cases hmod : i % 5 = 0
            · have hm5 : ((i : Int) % 5 == 0) = true := by
                simp
                omega
              have HAL := Lib.hid (odall_any HPq.out.tg.tb HLS.out)
              unfold AllTo at HAL
              clear hmod
              go_wp2_with fail
              refine HAL.out.mono ?_
              rintro e w8 ⟨ga, cap1, rfl, ho8, hb8⟩
              obtain ⟨-, A1, c1, e1, -, hr8, -⟩ := rowL_of_own ho8 HLS.out
              cases e1
              have HO8 := Lib.hid ho8
              have HB8 := Lib.hid hb8
              have HBT : Hid (Below v4.heap.size v4 w8) := (below_drewN (Below.refl _ _) nq).trans hb8
              have HSM := Lib.hid (samel_any w8 _ _ _ cap1 cap2 L' rfl hr8 (HRD2.out w8 HBT.out).2)
              have hc8 := (HRD2.out w8 HBT.out).1
              clear ho8 hb8 hr8
              go_wp2_with fail
              refine HSM.out.mono ?_
              rintro e w9 ⟨rfl, k9, rfl⟩
              have HOV := Lib.hid (overl_sp (w8.drewN k9) (v4.drewN nq).heap.size L'.length _ L' rfl (by have := HL2.out; omega) (own_keep (w := w8) HO8.out (below_drewN (Below.refl _ _) k9)) HB8.out.size)
              go_wp2_with fail
              refine HOV.out.mono ?_
              rintro e w10 ⟨rfl, hb10⟩
              have HP10 := Lib.hid (HPq.out.below (HB8.out.trans ((below_drewN (Below.refl _ w8) k9).trans hb10))).less
              clear hb10
              go_wp2
              go_roundg gk
              case measure => omega
              case rel => exact ⟨i + 1, q', m', L', by omega, by go_num, HL2, HP10⟩
            · have hm5 : ((i : Int) % 5 == 0) = false := by
                simp
                omega
              have HP10 := Lib.hid HPq.out.less
              clear hmod
              go_wp2
              go_roundg gk
              case measure => omega
              case rel => exact ⟨i + 1, q', m', L', by omega, by go_num, HL2, HP10⟩
theorem walk (a0 : Option Addr) (len0 cap0 : Nat) (z0 : List ActP) (w : World) (w0 : IsActs w a0 len0 z0) :
    Calls Try.prog 3 #[.slice a0 len0 cap0] w fun e w' => e = .returned (.bool true) ∧ Below w.heap.size w w' := by
  cases h : largeB z0 with
  | true => exact many a0 len0 cap0 z0 w w0 h
  | false => exact few a0 len0 cap0 z0 w w0 h

set_option maxRecDepth 100000 in
theorem lifted (os : Os) (started : os.Started) (H : Type) (enc : TypeId × Value → H) :
    ReturnsInHanded {} Try.checked os 3 .any (Rows.orderScriptSpec.pre6 enc Try.prog Try.f3 Rows.orderScriptRow.domain false) (Rows.orderScriptSpec.post enc Try.prog Try.f3 false true false false) := by
  refine returnsInHanded_of_change (C := Try.checked) own started (by kernel_rfl) Try.func3
    (ChangeSpec.witness6 (enc := enc) (C := Try.checked) false ⟨#[], #[.slice none 0 0], []⟩ 8 (by kernel_rfl) (by kernel_rfl) (by kernel_rfl) (by kernel_rfl)) ?_
  intro W base args ds gs before hval0 hW hcnd _
  have hval : ∀ (j : Nat) t v, Try.f3.params[j]? = some t → args[j]? = some v → Value.okWide Try.prog W .any base t v := hval0
  have hW' := hW
  obtain ⟨p, q, hA0, hV, rfl, hfz, hnd⟩ := hW
  have hA : DataW.TrodAll enc Try.prog W 0 (fun _ => true) true Try.f3.params.toList args.toList ds p := hA0
  rw [Try.params3] at hA hval
  obtain ⟨v0, vs0, d0, ds0, p0, q0, hargs, rfl, rfl, h0, r0⟩ := trodAll_cons hA
  obtain ⟨rfl, rfl, rfl⟩ := trodAll_nil r0
  obtain rfl : args = #[v0] := by cases args; simp_all
  obtain ⟨rfl, rfl⟩ := trodVars_none hV
  obtain ⟨a0, len0, cap0, rfl⟩ := okWide_slice Try.underlying22 (hval 0 22 v0 rfl rfl)
  have k0 := h0
  have lt0 : ∀ x ∈ p0, x.block < W.heap.size := by obtain ⟨m, hm⟩ := k0; exact DataW.trod_lt m _ _ _ hm
  obtain ⟨z0, w0⟩ : ∃ zs, IsActs W a0 len0 zs := by
    obtain ⟨fuel, hf⟩ := h0
    exact isActs_of hf
  clear hA0 hval0
  refine (walk a0 len0 cap0 z0 W w0).mono fun e W' ⟨he, bel⟩ => ?_
  subst he
  exact ⟨_, rfl, _, _, _, [], _, [], hW', trodAll_mk1 (shut_bool Try.underlying4 _), (trodAll_cons_mk (Below.trod laidOut (by kernel_rfl) (of_decide_eq_true (by kernel_rfl)) k0 bel lt0) trodAll_mk0), rfl, bel.frame _, fun h => by cases h⟩

theorem over : Rows.orderScriptRow.holds Try.pinned (OpenSpec.ofChange Rows.orderScriptSpec) :=
  OpenClaim.holds_of_wide 3 Try.f3 rfl rfl rfl rfl rfl rfl rfl ⟨rfl, rfl, rfl, rfl, rfl⟩ rfl rfl rfl rfl rfl (by kernel_rfl) Try.func3 (by kernel_rfl)
    (of_decide_eq_true (by kernel_rfl)) (by unfold Func.isWrapper; first | (rw [if_pos (by decide +kernel)]; kernel_rfl) | (rw [if_neg (by decide +kernel)]; exact ⟨rfl, rfl⟩))
    (fun os started H enc _ => lifted os started H enc)

theorem proved : Rows.OrderScriptSaid := over
#print axioms proved
end Go.Proofs.Ytfdifimakaiccaa.orderScript
