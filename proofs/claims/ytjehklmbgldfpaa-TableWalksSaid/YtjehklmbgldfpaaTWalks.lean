/-
Proved here: whatever list of acts is handed in, fuseelaw12.TableWalks returns true, and the list reads afterwards as it did.
  Conditions: none.
-/
import Derived.Test.YtjehklmbgldfpaaRows
import Derived.Test.YtjehklmbgldfpaaPlays12
import Derived.IntWalk
import Derived.WalkSmall
import Derived.Deep.QuietTactic
import Derived.BigQuiet
import Derived.WalkKit
import Derived.ProofKit
import Derived.OpenShut
import Derived.ShutString
import Derived.ChangeOld
import Derived.Below
namespace Go.Proofs.Ytjehklmbgldfpaa.tableWalks
open Go.ChangeShapes Go.WideShapes Go.ChangeAt Go.RowKit
open Go.ChangeMaps (open_string shut_string)
set_option linter.unusedVariables false

theorem own : ownKnob Try.prog.godebug = none := by kernel_rfl
theorem laidOut : laidOutB Try.prog = true := by kernel_rfl

theorem guard_link : Try.prog.eqGuardType Try.prog.depth 33 = false := by kernel_rfl
theorem next_at {M : List Ln} (hr : RisesK M) {k : Nat} (hk : k ≤ M.length) (P : Ky) (h : 0 < k → ∃ x, M[k - 1]? = some x ∧ P = x.k) : nextT (fun _ => true) M P (decide (0 < k)) = M[k]? := by
  rcases Nat.eq_zero_or_pos k with h0 | h0
  · subst h0
    cases M with
    | nil => rfl
    | cons a M => simp [nextT]
  · obtain ⟨x, hx, rfl⟩ := h h0
    obtain ⟨hx1, hx2⟩ := List.getElem?_eq_some_iff.1 hx
    have hd : decide (0 < k) = true := by simpa using h0
    rw [hd]
    have hle : ∀ j (hj : j < M.length), j < k → Op.bytesLess x.k M[j].k = false := fun j hj hjk => by
      cases e : Op.bytesLess x.k M[j].k with
      | false => rfl
      | true =>
        rcases Nat.lt_or_ge j (k - 1) with h1 | h1
        · have := List.pairwise_iff_getElem.1 hr j (k - 1) hj hx1 h1
          rw [hx2] at this
          have h2 := lessK_trans this e
          rw [lessK_irrefl] at h2
          cases h2
        · have : j = k - 1 := by omega
          subst this
          rw [hx2, lessK_irrefl] at e
          cases e
    rcases Nat.lt_or_ge k M.length with h1 | h1
    · rw [List.getElem?_eq_getElem h1]
      refine (nextT_some hr).2 ⟨List.getElem_mem h1, rfl, fun _ => ?_, fun y hy _ hlt => ?_⟩
      · have := List.pairwise_iff_getElem.1 hr (k - 1) k hx1 h1 (by omega)
        rwa [hx2] at this
      · obtain ⟨j, hj, rfl⟩ := List.getElem_of_mem hy
        rcases Nat.lt_or_ge j k with h2 | h2
        · have h3 := hlt rfl
          rw [hle j hj h2] at h3
          cases h3
        · rcases Nat.eq_or_lt_of_le h2 with h3 | h3
          · left
            subst h3
            rfl
          · exact .inr (List.pairwise_iff_getElem.1 hr k j h1 hj h3)
    · have : M[k]? = none := List.getElem?_eq_none h1
      rw [this]
      refine nextT_none.2 fun y hy ⟨_, hlt⟩ => ?_
      obtain ⟨j, hj, rfl⟩ := List.getElem_of_mem hy
      have h3 := hlt rfl
      rw [hle j hj (by omega)] at h3
      cases h3
theorem le_str (x y : ByteArray) (h : Op.bytesLess y.data.toList x.data.toList = true) : (Op.bytesLess x.toList y.toList || x.toList == y.toList) = false := by
  have := gt_str x y
  rw [h] at this
  simpa using this
set_option maxRecDepth 100000 in
set_option maxHeartbeats 1600000 in
theorem many (a0 : Option Addr) (len0 cap0 : Nat) (z0 : List ActP) (w : World) (w0 : IsActs w a0 len0 z0) (hb : largeB z0 = true) :
    Calls Try.prog 4 #[.slice a0 len0 cap0] w fun e w' => e = .returned (.bool true) ∧ Below w.heap.size w w' := by
  have HAW := Lib.hid (awake12_any w)
  have HLG := Lib.hid (large_any (cap := cap0) w0)
  rw [hb] at HLG
  clear w0 hb
  go_enter Try.func4, Try.ntmps4
  go_wp2_with fail
  refine HLG.out.mono ?_
  rintro e w' ⟨rfl, rfl⟩
  go_wp2_with fail
  refine HAW.out.mono ?_
  rintro e w' ⟨rfl, hb⟩
  have HB := Lib.hid hb
  clear hb
  go_wp2
  go_ret
  exact ⟨rfl, HB.out⟩
set_option maxRecDepth 100000 in
set_option maxHeartbeats 6400000 in
theorem few (a0 : Option Addr) (len0 cap0 : Nat) (z0 : List ActP) (w : World) (w0 : IsActs w a0 len0 z0) (hb : largeB z0 = false) :
    Calls Try.prog 4 #[.slice a0 len0 cap0] w fun e w' => e = .returned (.bool true) ∧ Below w.heap.size w w' := by
  have HAW := Lib.hid (fun w1 => awake12_any w1)
  have HLG := Lib.hid (large_any (cap := cap0) w0)
  rw [hb] at HLG
  have HPL := Lib.hid (played_any (cap := cap0) w0 hb)
  have hpl := playT_len z0
  obtain ⟨hl1, -⟩ := large_no hb
  obtain ⟨g, hg⟩ : ∃ g, w.heap.size = g := ⟨_, rfl⟩
  have HG := Lib.hid hg
  rw [hg] at HPL ⊢
  obtain ⟨L, hL⟩ : ∃ L, playT z0 = L := ⟨_, rfl⟩
  rw [hL] at HPL hpl
  have hlm : L.length ≤ 120 := by omega
  have HLM := Lib.hid hlm
  have HZ := Lib.hid zero_link
  have hgu := guard_link
  clear w0 hb hL hg hpl hl1
  go_enter Try.func4, Try.ntmps4
  go_wp2_with fail
  refine HLG.out.mono ?_
  rintro e w' ⟨rfl, rfl⟩
  go_wp2_with fail
  refine HPL.out.mono ?_
  rintro e w1 ⟨rfl, m, ht⟩
  have HT := Lib.hid ht
  have HRS := Lib.hid ht.tb.rises
  have HKS := Lib.hid ht.tb.keys
  have HUA := Lib.hid (upB_all L)
  obtain ⟨n, hn⟩ : ∃ n, L.length = n := ⟨_, rfl⟩
  have HN := Lib.hid hn
  have HLN : Hid (∀ w', Tg w g w' g m L → Calls Try.prog 19 #[.pointer (some ⟨g, 0, none⟩)] w' fun e w2 => e = .returned (.int .i64 (n : Nat)) ∧ w' = w2) := fun w' h => by rw [← hn]; exact tblen_any h.tb (by omega)
  have HNX : Hid (∀ w' (b : Nat) (P : ByteArray) (past : Bool), Tg w g w' g m L → Calls Try.prog 17 #[.pointer (some ⟨g, 0, none⟩), .int .i64 (b : Nat), .string P, .bool past] w' (NextSays L b P past w')) := fun w' b P past h => tbnext_any h.tb (by omega) b P past
  rw [hn] at hlm
  clear ht hn
  go_wp2
  go_loopg [4, 5] 8 (fun gk s4 s5 wx => ∃ b u : Nat, b + gk = 8 ∧ s5 = .int .i64 b ∧ s4 = .int .i64 u ∧ Hid ((upB L b).length = u) ∧ Hid (Tg w g wx g m L))
  case atStart => exact ⟨0, 0, rfl, rfl, rfl, rfl, HT⟩
  case round =>
    obtain ⟨b, u, hbg, rfl, rfl, HU, HT3⟩ := hrel
    cases gk with
    | zero =>
      obtain rfl : b = 8 := by omega
      have hii : ¬ ((8 : Nat) : Int) < 8 := by omega
      have hun : u = n := by rw [← HU.out, HUA.out, HN.out]
      subst hun
      have hnn : ((u : Int) == (u : Int)) = true := by simp
      have HLK := Lib.hid (HLN.out _ HT3.out)
      have HAWK := Lib.hid (HAW.out wr)
      clear hbg
      go_wp2_with fail
      refine HLK.out.mono ?_
      rintro e w3 ⟨rfl, rfl⟩
      go_wp2_with fail
      refine HAWK.out.mono ?_
      rintro e w3 ⟨rfl, hb3⟩
      have HB3 : Hid (Below g w w3) := HT3.out.bel.trans (hb3.mono HT3.out.gw)
      clear hb3
      go_wp2
      go_ret
      exact ⟨rfl, HB3.out⟩
    | succ go =>
      have hii : (b : Int) < 8 := by omega
      have hb8 : b < 8 := by omega
      obtain ⟨M, hM⟩ : ∃ M, partT bkt L b = M := ⟨_, rfl⟩
      have hrm : RisesK M := by rw [← hM]; exact risesK_part HRS.out _ _
      have hus : (upB L (b + 1)).length = u + M.length := by rw [upB_succ, List.length_append, hM, HU.out]
      have hum : u + M.length ≤ n := by
        rw [← hus, ← HN.out, ← HUA.out]
        exact upB_le (by omega)
      have HBM : Hid (bktL L (b : Int) = M) := by
        show _ = _
        unfold bktL
        rw [if_pos (by omega), ← hM]
        rfl
      have HMM : Hid (∀ x ∈ M, x ∈ L ∧ bkt x.k = b) := fun x hx => by rw [← hM] at hx; exact mem_partT.1 hx
      have HRM := Lib.hid hrm
      have HUS := Lib.hid hus
      obtain ⟨t, ht⟩ : ∃ t, M.length = t := ⟨_, rfl⟩
      have HTT := Lib.hid ht
      rw [ht] at hum HUS
      clear hM hrm hus ht
      go_wp2
      go_loopg [4, 6, 7, 8] t (fun gk s4 s6 s7 s8 wx => ∃ (k : Nat) (P : ByteArray), k + gk = t ∧ s8 = .int .i64 k ∧ s6 = .string P ∧ s7 = .bool (decide (0 < k)) ∧ s4 = .int .i64 ((u + k : Nat) : Int) ∧ Hid (0 < k → ∃ x, M[k - 1]? = some x ∧ P = x.str) ∧ Hid (Tg w g wx g m L))
      case atStart => exact ⟨0, ⟨#[]⟩, by omega, rfl, rfl, rfl, rfl, fun h => by omega, HT3⟩
      case round =>
        obtain ⟨k, P, hkg, rfl, rfl, rfl, rfl, HP, HT4⟩ := hrel
        have hkn : (k : Int) ≤ (n : Int) := by omega
        have hna := next_at HRM.out (k := k) (by rw [HTT.out]; omega) P.data.toList (fun h => by obtain ⟨x, h1, h2⟩ := HP.out h; exact ⟨x, h1, by rw [h2]; rfl⟩)
        have hnb := nextB_part HRS.out (b : Int) P.data.toList (decide (0 < k))
        rw [HBM.out, hna] at hnb
        have HLK := Lib.hid (HLN.out _ HT4.out)
        have HNK := Lib.hid (HNX.out wr b P (decide (0 < k)) HT4.out)
        unfold NextSays at HNK
        rw [hnb] at HNK
        cases gk with
        | zero =>
          obtain rfl : k = t := by omega
          have hmk : M[k]? = none := List.getElem?_eq_none (by rw [HTT.out]; exact Nat.le_refl _)
          rw [hmk] at HNK
          replace HNK : Hid (Calls Try.prog 17 #[.pointer (some ⟨g, 0, none⟩), .int .i64 (b : Nat), .string P, .bool (decide (0 < k))] wr fun e w' => e = .returned (.tuple #[.agg #[.string ⟨#[]⟩, .int .u64 0, .int .u64 0, .int .i64 0, .int .i64 0], .bool false]) ∧ Below wr.heap.size wr w') := HNK
          obtain ⟨pa, hpa⟩ : ∃ pa, decide (0 < k) = pa := ⟨_, rfl⟩
          rw [hpa] at HNK ⊢
          clear hna hnb hmk hpa hkg
          go_wp2_with fail
          refine HLK.out.mono ?_
          rintro e w3 ⟨rfl, rfl⟩
          go_wp2_with fail
          refine HNK.out.mono ?_
          rintro e v1 ⟨rfl, hb1⟩
          have HT5 := Lib.hid (HT4.out.below hb1)
          obtain ⟨ga, hga⟩ : ∃ ga, v1.heap.size = ga := ⟨_, rfl⟩
          have HGA := Lib.hid hga
          clear hb1 hga
          go_wp2_with (first
            | ((with_reducible show wpList _ _ _ (⟨some 9, .alloc _, _, _, _, _⟩ :: _) _ _); refine wpList_alloc_var (o := ⟨some 9, _, _, _, _, _⟩) rfl 33 rfl ga HGA.out _ HZ.out ?_; intro v2 H2a B2a)
            | ((with_reducible show wpList _ _ _ (⟨none, .store _ (.tmp 9) _, _, _, _, _⟩ :: _) _ _); refine wpList_store_whole (o := ⟨none, .store 33 (.tmp 9) (.tmp 36), _, _, _, _⟩) rfl _ _ _ rfl rfl ga #[.string ⟨#[]⟩, .int .u64 0, .int .u64 0, .int .i64 0, .int .i64 0] rfl rfl 33 _ H2a.out size_link rfl (onesL _ _ _ _ _) ?_; intro v3 H3a B3a)
            | fail)
          go_roundg go
          case measure => omega
          case rel => exact ⟨b + 1, u + k, by omega, by go_num, rfl, HUS.out, HT5.out.below (HGA.out.symm ▸ B2a.out.trans B3a.out)⟩
        | succ gk =>
          have hkt : k < M.length := by rw [HTT.out]; omega
          obtain ⟨x, hx⟩ : ∃ x, M[k]? = some x := ⟨_, List.getElem?_eq_getElem hkt⟩
          obtain ⟨hxl, hxb⟩ := HMM.out x (List.mem_of_getElem? hx)
          have hgt : getT L x.k = some x := (getT_some HRS.out).2 ⟨hxl, rfl⟩
          have hxs : x.str.size ≤ 1073741824 := by rw [str_size]; exact HKS.out x hxl
          rw [hx] at HNK
          replace HNK : Hid (Calls Try.prog 17 #[.pointer (some ⟨g, 0, none⟩), .int .i64 (b : Nat), .string P, .bool (decide (0 < k))] wr fun e w' => e = .returned (.tuple #[.agg #[.string x.str, .int .u64 (x.id : Nat), .int .u64 (x.ver : Nat), .int .i64 x.line, .int .i64 x.cl], .bool true]) ∧ Below wr.heap.size wr w') := HNK
          have HGT : Hid (∀ w', Below wr.heap.size wr w' → Calls Try.prog 15 #[.pointer (some ⟨g, 0, none⟩), .string x.str] w' fun y w2 => y = .returned (.tuple #[.agg #[.string x.str, .int .u64 (x.id : Nat), .int .u64 (x.ver : Nat), .int .i64 x.line, .int .i64 x.cl], .bool true]) ∧ Below w'.heap.size w' w2) := fun w' hb => by
            have h1 := tbget_any (HT4.out.below hb).tb x.str hxs
            have h2 : getT L x.str.data.toList = some x := hgt
            unfold linkT hasT at h1
            rw [h2] at h1
            exact h1
          have HBK : Hid (∀ w', Calls Try.prog 24 #[.string x.str] w' fun e w2 => e = .returned (.int .i64 (b : Nat)) ∧ Below w'.heap.size w' w2) := fun w' => by
            have h1 := bucket_any x.str hxs w'
            have h2 : addS 0 x.str.data.toList % 8 = b := hxb
            rw [h2] at h1
            exact h1
          have hcs : decide (0 < k) = false ∨ (decide (0 < k) = true ∧ (Op.bytesLess x.str.toList P.toList || x.str.toList == P.toList) = false) := by
            rcases Nat.eq_zero_or_pos k with h0 | h0
            · exact .inl (by simp; omega)
            · refine .inr ⟨by simpa using h0, ?_⟩
              obtain ⟨y, hy, rfl⟩ := HP.out h0
              refine le_str _ _ ?_
              obtain ⟨hy1, hy2⟩ := List.getElem?_eq_some_iff.1 hy
              obtain ⟨hx1, hx2⟩ := List.getElem?_eq_some_iff.1 hx
              have := List.pairwise_iff_getElem.1 HRM.out (k - 1) k hy1 hx1 (by omega)
              rw [hy2, hx2] at this
              exact this
          have HP2 : Hid (0 < k + 1 → ∃ y, M[k + 1 - 1]? = some y ∧ x.str = y.str) := fun _ => ⟨x, hx, rfl⟩
          have hs0 : (x.str.toList == x.str.toList) = true := by simp
          have hs1 : ((x.id : Int) == (x.id : Int)) = true := by simp
          have hs2 : ((x.ver : Int) == (x.ver : Int)) = true := by simp
          have hs3 : (x.line == x.line) = true := by simp
          have hs4 : (x.cl == x.cl) = true := by simp
          have hbb : ((b : Int) == (b : Int)) = true := by simp
          have HKG : Hid (k + (gk + 1) = t) := hkg
          have hup : (u : Int) + (k : Int) ≤ 1000 := by omega
          clear hna hnb hkt hx hxl hxb hgt hxs HP hkg
          generalize x.str = x0 at *
          generalize (x.id : Int) = x1 at *
          generalize (x.ver : Int) = x2 at *
          generalize x.line = x3 at *
          generalize x.cl = x4 at *
          rcases hcs with hpa | ⟨hpa, hle⟩
          · rw [hpa] at HNK ⊢
            clear hpa
            go_wp2_with fail
            refine HLK.out.mono ?_
            rintro e w3 ⟨rfl, rfl⟩
            go_wp2_with fail
            refine HNK.out.mono ?_
            rintro e v1 ⟨rfl, hb1⟩
            have HB1 := Lib.hid hb1
            obtain ⟨ga, hga⟩ : ∃ ga, v1.heap.size = ga := ⟨_, rfl⟩
            have HGA := Lib.hid hga
            clear hb1 hga
            go_wp2_with (first
              | ((with_reducible show wpList _ _ _ (⟨some 9, .alloc _, _, _, _, _⟩ :: _) _ _); refine wpList_alloc_var (o := ⟨some 9, _, _, _, _, _⟩) rfl 33 rfl ga HGA.out _ HZ.out ?_; intro v2 H2a B2a)
              | (((with_reducible show wpList _ _ _ (⟨none, .store _ (.tmp 9) _, _, _, _, _⟩ :: _) _ _); refine wpList_store_whole (o := ⟨none, .store 33 (.tmp 9) (.tmp 36), _, _, _, _⟩) rfl _ _ _ rfl rfl ga #[.string x0, .int .u64 x1, .int .u64 x2, .int .i64 x3, .int .i64 x4] rfl rfl 33 _ H2a.out size_link rfl (onesL _ _ _ _ _) ?_; intro v3 H3a B3a); obtain ⟨p0, p1, p2, p3, p4⟩ := cellsL H3a.out)
              | fail)
            have HB3 : Hid (Below wr.heap.size wr v3) := HB1.out.trans ((B2a.out.trans B3a.out).mono (by have := HB1.out.size; have := HGA.out; omega))
            refine (HGT.out v3 HB3.out).mono ?_
            rintro e v4 ⟨rfl, hb4⟩
            have HB4 : Hid (Below wr.heap.size wr v4) := HB3.out.trans (hb4.mono HB3.out.size)
            have HX4 := Lib.hid ((hb4.block ga (lt_of_heap H3a.out)).trans H3a.out)
            obtain ⟨gb, hgb⟩ : ∃ gb, v4.heap.size = gb := ⟨_, rfl⟩
            have HGB := Lib.hid hgb
            have HLB : Hid (ga < gb) := hgb ▸ lt_of_heap HX4.out
            clear hb4 hgb p0 p1 p2 p3 p4
            go_wp2_with (first
              | ((with_reducible show wpList _ _ _ (⟨some 11, .alloc _, _, _, _, _⟩ :: _) _ _); refine wpList_alloc_var (o := ⟨some 11, _, _, _, _, _⟩) rfl 33 rfl gb HGB.out _ HZ.out ?_; intro v5 H5a B5a)
              | (((with_reducible show wpList _ _ _ (⟨none, .store _ (.tmp 11) _, _, _, _, _⟩ :: _) _ _); refine wpList_store_whole (o := ⟨none, .store 33 (.tmp 11) (.tmp 45), _, _, _, _⟩) rfl _ _ _ rfl rfl gb #[.string x0, .int .u64 x1, .int .u64 x2, .int .i64 x3, .int .i64 x4] rfl rfl 33 _ H5a.out size_link rfl (onesL _ _ _ _ _) ?_; intro v6 H6a B6a); have HBB : Hid (Below gb v4 v6) := B5a.out.trans B6a.out; have HX6 := Lib.hid ((HBB.out.block ga HLB.out).trans HX4.out); obtain ⟨p0, p1, p2, p3, p4⟩ := cellsL HX6.out; obtain ⟨q0, q1, q2, q3, q4⟩ := cellsL H6a.out)
              | fail)
            have HB6 : Hid (Below wr.heap.size wr v6) := HB4.out.trans (HBB.out.mono (by have := HB4.out.size; have := HGB.out; omega))
            refine (HBK.out v6).mono ?_
            rintro e v7 ⟨rfl, hb7⟩
            have HB7 : Hid (Below wr.heap.size wr v7) := HB6.out.trans (hb7.mono HB6.out.size)
            obtain ⟨r0, r1, r2, r3, r4⟩ := cellsL ((hb7.block ga (lt_of_heap HX6.out)).trans HX6.out)
            clear hb7 p0 p1 p2 p3 p4 q0 q1 q2 q3 q4
            go_wp2
            go_roundg gk
            case measure => omega
            case rel => exact ⟨k + 1, x0, by have := HKG.out; omega, by go_num, rfl, by simp, by go_num, HP2, HT4.out.below HB7.out⟩
          · rw [hpa] at HNK ⊢
            clear hpa
            go_wp2_with fail
            refine HLK.out.mono ?_
            rintro e w3 ⟨rfl, rfl⟩
            go_wp2_with fail
            refine HNK.out.mono ?_
            rintro e v1 ⟨rfl, hb1⟩
            have HB1 := Lib.hid hb1
            obtain ⟨ga, hga⟩ : ∃ ga, v1.heap.size = ga := ⟨_, rfl⟩
            have HGA := Lib.hid hga
            clear hb1 hga
            go_wp2_with (first
              | ((with_reducible show wpList _ _ _ (⟨some 9, .alloc _, _, _, _, _⟩ :: _) _ _); refine wpList_alloc_var (o := ⟨some 9, _, _, _, _, _⟩) rfl 33 rfl ga HGA.out _ HZ.out ?_; intro v2 H2a B2a)
              | (((with_reducible show wpList _ _ _ (⟨none, .store _ (.tmp 9) _, _, _, _, _⟩ :: _) _ _); refine wpList_store_whole (o := ⟨none, .store 33 (.tmp 9) (.tmp 36), _, _, _, _⟩) rfl _ _ _ rfl rfl ga #[.string x0, .int .u64 x1, .int .u64 x2, .int .i64 x3, .int .i64 x4] rfl rfl 33 _ H2a.out size_link rfl (onesL _ _ _ _ _) ?_; intro v3 H3a B3a); obtain ⟨p0, p1, p2, p3, p4⟩ := cellsL H3a.out)
              | fail)
            have HB3 : Hid (Below wr.heap.size wr v3) := HB1.out.trans ((B2a.out.trans B3a.out).mono (by have := HB1.out.size; have := HGA.out; omega))
            refine (HGT.out v3 HB3.out).mono ?_
            rintro e v4 ⟨rfl, hb4⟩
            have HB4 : Hid (Below wr.heap.size wr v4) := HB3.out.trans (hb4.mono HB3.out.size)
            have HX4 := Lib.hid ((hb4.block ga (lt_of_heap H3a.out)).trans H3a.out)
            obtain ⟨gb, hgb⟩ : ∃ gb, v4.heap.size = gb := ⟨_, rfl⟩
            have HGB := Lib.hid hgb
            have HLB : Hid (ga < gb) := hgb ▸ lt_of_heap HX4.out
            clear hb4 hgb p0 p1 p2 p3 p4
            go_wp2_with (first
              | ((with_reducible show wpList _ _ _ (⟨some 11, .alloc _, _, _, _, _⟩ :: _) _ _); refine wpList_alloc_var (o := ⟨some 11, _, _, _, _, _⟩) rfl 33 rfl gb HGB.out _ HZ.out ?_; intro v5 H5a B5a)
              | (((with_reducible show wpList _ _ _ (⟨none, .store _ (.tmp 11) _, _, _, _, _⟩ :: _) _ _); refine wpList_store_whole (o := ⟨none, .store 33 (.tmp 11) (.tmp 45), _, _, _, _⟩) rfl _ _ _ rfl rfl gb #[.string x0, .int .u64 x1, .int .u64 x2, .int .i64 x3, .int .i64 x4] rfl rfl 33 _ H5a.out size_link rfl (onesL _ _ _ _ _) ?_; intro v6 H6a B6a); have HBB : Hid (Below gb v4 v6) := B5a.out.trans B6a.out; have HX6 := Lib.hid ((HBB.out.block ga HLB.out).trans HX4.out); obtain ⟨p0, p1, p2, p3, p4⟩ := cellsL HX6.out; obtain ⟨q0, q1, q2, q3, q4⟩ := cellsL H6a.out)
              | fail)
            have HB6 : Hid (Below wr.heap.size wr v6) := HB4.out.trans (HBB.out.mono (by have := HB4.out.size; have := HGB.out; omega))
            refine (HBK.out v6).mono ?_
            rintro e v7 ⟨rfl, hb7⟩
            have HB7 : Hid (Below wr.heap.size wr v7) := HB6.out.trans (hb7.mono HB6.out.size)
            obtain ⟨r0, r1, r2, r3, r4⟩ := cellsL ((hb7.block ga (lt_of_heap HX6.out)).trans HX6.out)
            clear hb7 p0 p1 p2 p3 p4 q0 q1 q2 q3 q4
            go_wp2
            go_roundg gk
            case measure => omega
            case rel => exact ⟨k + 1, x0, by have := HKG.out; omega, by go_num, rfl, by simp, by go_num, HP2, HT4.out.below HB7.out⟩
theorem walk (a0 : Option Addr) (len0 cap0 : Nat) (z0 : List ActP) (w : World) (w0 : IsActs w a0 len0 z0) :
    Calls Try.prog 4 #[.slice a0 len0 cap0] w fun e w' => e = .returned (.bool true) ∧ Below w.heap.size w w' := by
  cases h : largeB z0 with
  | true => exact many a0 len0 cap0 z0 w w0 h
  | false => exact few a0 len0 cap0 z0 w w0 h

set_option maxRecDepth 100000 in
theorem lifted (os : Os) (started : os.Started) (H : Type) (enc : TypeId × Value → H) :
    ReturnsInHanded {} Try.checked os 4 .any (Rows.tableWalksSpec.pre6 enc Try.prog Try.f4 Rows.tableWalksRow.domain false) (Rows.tableWalksSpec.post enc Try.prog Try.f4 false true false false) := by
  refine returnsInHanded_of_change (C := Try.checked) own started (by kernel_rfl) Try.func4
    (ChangeSpec.witness6 (enc := enc) (C := Try.checked) false ⟨#[], #[.slice none 0 0], []⟩ 8 (by kernel_rfl) (by kernel_rfl) (by kernel_rfl) (by kernel_rfl)) ?_
  intro W base args ds gs before hval0 hW hcnd _
  have hval : ∀ (j : Nat) t v, Try.f4.params[j]? = some t → args[j]? = some v → Value.okWide Try.prog W .any base t v := hval0
  have hW' := hW
  obtain ⟨p, q, hA0, hV, rfl, hfz, hnd⟩ := hW
  have hA : DataW.TrodAll enc Try.prog W 0 (fun _ => true) true Try.f4.params.toList args.toList ds p := hA0
  rw [Try.params4] at hA hval
  obtain ⟨v0, vs0, d0, ds0, p0, q0, hargs, rfl, rfl, h0, r0⟩ := trodAll_cons hA
  obtain ⟨rfl, rfl, rfl⟩ := trodAll_nil r0
  obtain rfl : args = #[v0] := by cases args; simp_all
  obtain ⟨rfl, rfl⟩ := trodVars_none hV
  obtain ⟨a0, len0, cap0, rfl⟩ := okWide_slice Try.underlying22 (hval 0 22 v0 rfl rfl)
  have k0 := h0
  have lt0 : ∀ x ∈ p0, x.block < W.heap.size := by obtain ⟨m, hm⟩ := k0; exact DataW.trod_lt m _ _ _ hm
  obtain ⟨z0, w0⟩ : ∃ zs, IsActs W a0 len0 zs := by
    obtain ⟨fuel, hf⟩ := h0
    exact isActs_of hf
  clear hA0 hval0
  refine (walk a0 len0 cap0 z0 W w0).mono fun e W' ⟨he, bel⟩ => ?_
  subst he
  exact ⟨_, rfl, _, _, _, [], _, [], hW', trodAll_mk1 (shut_bool Try.underlying4 _), (trodAll_cons_mk (Below.trod laidOut (by kernel_rfl) (of_decide_eq_true (by kernel_rfl)) k0 bel lt0) trodAll_mk0), rfl, bel.frame _, fun h => by cases h⟩

theorem over : Rows.tableWalksRow.holds Try.pinned (OpenSpec.ofChange Rows.tableWalksSpec) :=
  OpenClaim.holds_of_wide 4 Try.f4 rfl rfl rfl rfl rfl rfl rfl ⟨rfl, rfl, rfl, rfl, rfl⟩ rfl rfl rfl rfl rfl (by kernel_rfl) Try.func4 (by kernel_rfl)
    (of_decide_eq_true (by kernel_rfl)) (by unfold Func.isWrapper; first | (rw [if_pos (by decide +kernel)]; kernel_rfl) | (rw [if_neg (by decide +kernel)]; exact ⟨rfl, rfl⟩))
    (fun os started H enc _ => lifted os started H enc)

theorem proved : Rows.TableWalksSaid := over
#print axioms proved
end Go.Proofs.Ytjehklmbgldfpaa.tableWalks
