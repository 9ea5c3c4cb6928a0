/-
  Proved here: PallocScript, the full form.
  Conditions: none.
-/
import Derived.Test.YtjebpggoajfjkaaRows
import Derived.Test.YtjebpggoajfjkaaTwo7
import Derived.IntWalk
import Derived.WalkSmall
import Derived.Deep.QuietTactic
import Derived.BigQuiet
import Derived.WalkKit
import Derived.ProofKit
import Derived.OpenShut
import Derived.ShutString
import Derived.ChangeOld
import Derived.Below
namespace Go.Proofs.Ytjebpggoajfjkaa.pallocScript
open Go.ChangeShapes Go.WideShapes Go.ChangeAt Go.RowKit
open Go.ChangeMaps (open_string shut_string)
set_option linter.unusedVariables false

theorem own : ownKnob Try.prog.godebug = none := by kernel_rfl
theorem laidOut : laidOutB Try.prog = true := by kernel_rfl

theorem ones3 (a b c : Int) : (#[.int .i64 a, .int .i64 b, .int .i64 c] : Array Value).all (·.oneCell') = true := all_oneCell_toArray (encI_one (l := [a, b, c]))
set_option maxRecDepth 100000 in
set_option maxHeartbeats 1600000 in
theorem many (a0 : Int) (a1 : Option Addr) (len1 cap1 : Nat) (w : World) (hl : 60 < len1) (hlen : len1 ≤ 2 ^ 63 - 1) :
    Calls Try.prog 3 #[.int .i64 a0, .slice a1 len1 cap1] w fun e w' => e = .returned (.bool true) ∧ Below w.heap.size w w' := by
  have h1 : (60 : Int) < (len1 : Int) := by omega
  have HAW := Lib.hid (awake_any w)
  clear hl
  go_enter Try.func3, Try.ntmps3
  go_wp2_with fail
  refine HAW.out.mono ?_
  rintro e w' ⟨rfl, hb⟩
  have HB := Lib.hid hb
  clear hb
  go_wp2
  go_ret
  exact ⟨rfl, HB.out⟩
set_option maxRecDepth 100000 in
set_option maxHeartbeats 1600000 in
theorem refused (a0 : Int) (a1 : Option Addr) (len1 cap1 : Nat) (w : World) (hl : len1 ≤ 60) (hx : a0 < 1 ∨ 32 < a0) :
    Calls Try.prog 3 #[.int .i64 a0, .slice a1 len1 cap1] w fun e w' => e = .returned (.bool true) ∧ Below w.heap.size w w' := by
  have h1 : ¬ (60 : Int) < (len1 : Int) := by omega
  have HN := Lib.hid (new_bad a0 hx w)
  have HR := Lib.hid (rnew_bad a0 hx w)
  have HAW := Lib.hid (awake_any w)
  clear hl hx
  go_enter Try.func3, Try.ntmps3
  go_wp2_with fail
  refine HN.out.mono ?_
  rintro e w' ⟨rfl, rfl⟩
  go_wp2_with fail
  refine HR.out.mono ?_
  rintro e w' ⟨rfl, rfl⟩
  go_wp2_with fail
  refine (num_any 2 _).mono ?_
  rintro e w' ⟨rfl, rfl⟩
  go_wp2_with fail
  refine HAW.out.mono ?_
  rintro e w' ⟨rfl, hb⟩
  have HB := Lib.hid hb
  clear hb
  go_wp2
  go_ret
  exact ⟨rfl, HB.out⟩
set_option maxRecDepth 100000 in
set_option maxHeartbeats 8000000 in
theorem scripted (n : Nat) (a1 : Option Addr) (len1 cap1 : Nat) (z1 : List ActP) (w : World) (w1 : IsActs w a1 len1 z1) (hl : len1 ≤ 60) (hn1 : 1 ≤ n) (hn2 : n ≤ 32) :
    Calls Try.prog 3 #[.int .i64 n, .slice a1 len1 cap1] w fun e w' => e = .returned (.bool true) ∧ Below w.heap.size w w' := by
  have h1 : ¬ (60 : Int) < (len1 : Int) := by omega
  have HN := Lib.hid (new_ok n hn1 hn2 w)
  unfold MadeP at HN
  have HA := Lib.hid w1
  obtain ⟨g, hg⟩ : ∃ g, w.heap.size = g := ⟨_, rfl⟩
  rw [hg] at HN ⊢
  have HG := Lib.hid hg
  clear w1 hg
  go_enter Try.func3, Try.ntmps3
  go_wp2_with fail
  refine HN.out.mono ?_
  rintro e v1 ⟨p, q, rfl, hp, hq, hpl, hb⟩
  have HP := Lib.hid hp
  have HQ := Lib.hid hq
  have HPL := Lib.hid hpl
  have HB := Lib.hid hb
  clear hp hq hpl hb
  obtain ⟨r, hr⟩ : ∃ r, v1.heap.size = r := ⟨_, rfl⟩
  have HRR := Lib.hid (rnew_ok n hn1 hn2 v1)
  have HTN : Hid (∀ v2, Rf v2 v1.heap.size (v1.heap.size + 1) n [] → Below v1.heap.size v1 v2 → Two w g v2 p q v1.heap.size n [] []) := fun v2 a b => two_new HG.out HP.out HQ.out HPL.out HB.out a b
  rw [hr] at HRR HTN
  clear hr
  go_wp2_with fail
  refine HRR.out.mono ?_
  rintro e v2 ⟨rfl, hrf, hb⟩
  have HT0 := Lib.hid (HTN.out v2 hrf hb)
  clear hrf hb
  go_wp2_with fail
  refine (num_any 0 _).mono ?_
  rintro e w' ⟨rfl, rfl⟩
  clear HTN HRR HPL HB HN
  go_wp2
  go_loopg [9] len1 (fun gk s9 wx => ∃ i : Nat, i + gk = len1 ∧ s9 = .int .i64 i ∧ Hid (Two w g wx p q r n (playedL n (z1.take i)) (playedL n (z1.take i))))
  case atStart => exact ⟨0, by omega, rfl, HT0⟩
  case round =>
    obtain ⟨i, hin, rfl, HTr⟩ := hrel
    clear HT0
    cases gk with
    | zero =>
      obtain rfl : i = len1 := by omega
      have hii : ¬ (i : Int) < (i : Int) := by omega
      go_wp2_with fail
      refine (alike_any HTr.out.pl HTr.out.rf).mono ?_
      rintro e y1 ⟨rfl, hb1⟩
      have HT1 := Lib.hid (HTr.out.b_step hb1)
      clear hb1
      go_wp2_with fail
      refine (awake_any _).mono ?_
      rintro e y2 ⟨rfl, hb2⟩
      have HB2 : Hid (Below g w y2) := HT1.out.bel.trans (hb2.mono HT1.out.gw)
      clear hb2
      go_wp2
      go_ret
      exact ⟨rfl, HB2.out⟩
    | succ gk =>
      have hii : (i : Int) < (len1 : Int) := by omega
      have HAr : Hid (IsActs wr a1 len1 z1) := HA.out.below (HG.out ▸ HTr.out.bel)
      obtain ⟨x, b, off, hx, rfl, hbs, c0, c1, c2⟩ := HAr.out.at_ (i := i) (by omega)
      have HST := Lib.hid (playedL_step n z1 i x hx)
      clear hx hbs
      generalize playedL n (z1.take i) = L at *
      unfold playL at HST
      have HBN := Lib.hid (fun (y2 : World) (hc : y2.heap[wr.heap.size]? = some (Obj.cells #[.int .i64 x.kd, .int .i64 x.line, .int .i64 x.cl] 33 (0, 0))) => bx_new HTr.out hc)
      obtain ⟨bx, hbx⟩ : ∃ bx, wr.heap.size = bx := ⟨_, rfl⟩
      rw [hbx] at HBN
      have HBS := Lib.hid hbx
      clear hbx
      rcases Classical.em (x.kd = 0) with h0 | h0
      · have k0 : (x.kd == 0) = true := by simpa using h0
        rw [if_pos h0] at HST
        clear h0
        go_wp2_with (first | ((with_reducible show wpList _ _ _ (⟨some 10, .alloc _, _, _, _, _⟩ :: _) _ _); refine wpList_alloc_var (o := ⟨some 10, _, _, _, _, _⟩) rfl 33 rfl bx HBS.out _ zero_act ?_; intro y1 HA1 HB1) | ((with_reducible show wpList _ _ _ (⟨none, .store _ _ _, _, _, _, _⟩ :: _) _ _); refine wpList_store_whole (o := ⟨none, .store 33 (.tmp 10) (.tmp 56), _, _, _, _⟩) rfl _ _ _ rfl rfl bx #[.int .i64 x.kd, .int .i64 x.line, .int .i64 x.cl] rfl rfl 33 _ HA1.out size_act rfl (ones3 x.kd x.line x.cl) ?_; intro y2 HA2 HB2; have HX2 := Lib.hid (HBN.out y2 HA2.out); have HT2 : Hid (Two w g y2 p q r n L L) := HTr.out.b_step (HBS.out.symm ▸ HB1.out.trans HB2.out); have d0 := HX2.out.c0; have d1 := HX2.out.c1; have d2 := HX2.out.c2))
        refine (take_any HT2.out.pl x.cl).mono ?_
        rintro e y3 ⟨rfl, hpl, ht⟩
        have HT3 := Lib.hid (HT2.out.p_step hpl ht); have HX3 := Lib.hid (HX2.out.p_step ht)
        have e0 := HX3.out.c0; have e1 := HX3.out.c1; have e2 := HX3.out.c2
        clear hpl ht d0 d1 d2
        go_wp2_with fail
        refine (rtake_any HT3.out.rf x.cl).mono ?_
        rintro e y4 ⟨rfl, hpl, ht⟩
        have HT4 := Lib.hid (HT3.out.r_step hpl ht); have HX4 := Lib.hid (HX3.out.r_step ht)
        have f0 := HX4.out.c0; have f1 := HX4.out.c1; have f2 := HX4.out.c2
        generalize takeV n L x.cl = tv at *
        generalize takeE n L x.cl = te at *
        generalize takeL n L x.cl = M at *
        have htv : (tv != tv) = false := by simp
        have hte : (te != te) = false := by simp
        clear hpl ht e0 e1 e2
        go_wp2_with fail
        refine (num_any te _).mono ?_
        rintro e y ⟨rfl, rfl⟩
        go_wp2_with fail
        refine (of_any HT4.out.pl x.line).mono ?_
        rintro e y7 ⟨rfl, m7, rfl⟩
        have HT7 := Lib.hid (HT4.out.drewN m7)
        have HX7 := Lib.hid (HX4.out.b_step (below_drewN (Below.refl _ _) m7))
        go_wp2_with fail
        refine (rof_any HT7.out.rf x.line).mono ?_
        rintro e y8 ⟨rfl, rfl⟩
        generalize (ofL M x.line).getD 0 = ov at *
        generalize (ofL M x.line).isSome = ob at *
        have hov : (ov != ov) = false := by simp
        have hob : (ob != ob) = false := by simp
        rcases Classical.em (i % 4 = 0) with h4 | h4
        · have hm1 : ((i : Int).tmod 4 == 0) = true := by rw [Int.tmod_eq_emod_of_nonneg (by omega)]; simp; omega
          have hm2 : ((i : Int) % 4 == 0) = true := by simp; omega
          have hm3 : (((i % 4 : Nat) : Int) == 0) = true := by simp; omega
          clear h4
          go_wp2_with fail
          refine (alike_any HT7.out.pl HT7.out.rf).mono ?_
          rintro e y9 ⟨rfl, hb9⟩
          have HT9 := Lib.hid (HT7.out.b_step hb9)
          clear hb9
          go_wp2
          go_roundg gk
          case measure => omega
          case rel => exact ⟨i + 1, by omega, by go_num, (by rw [HST.out]; exact HT9)⟩
        · have hm1 : ((i : Int).tmod 4 == 0) = false := by rw [Int.tmod_eq_emod_of_nonneg (by omega)]; simp; omega
          have hm2 : ((i : Int) % 4 == 0) = false := by simp; omega
          have hm3 : (((i % 4 : Nat) : Int) == 0) = false := by simp; omega
          clear h4
          go_wp2
          go_roundg gk
          case measure => omega
          case rel => exact ⟨i + 1, by omega, by go_num, (by rw [HST.out]; exact HT7)⟩

      have k0 : (x.kd == 0) = false := by simpa using h0
      rw [if_neg h0] at HST
      clear h0
      rcases Classical.em (x.kd = 1) with h0 | h0
      · have k1 : (x.kd == 1) = true := by simpa using h0
        rw [if_pos h0] at HST
        obtain ⟨ge, hge⟩ : ∃ ge, giveE L x.line = ge := ⟨_, rfl⟩
        have HGE := Lib.hid hge
        have hgg : (ge != ge) = false := by simp
        clear h0 hge
        go_wp2_with (first | ((with_reducible show wpList _ _ _ (⟨some 10, .alloc _, _, _, _, _⟩ :: _) _ _); refine wpList_alloc_var (o := ⟨some 10, _, _, _, _, _⟩) rfl 33 rfl bx HBS.out _ zero_act ?_; intro y1 HA1 HB1) | ((with_reducible show wpList _ _ _ (⟨none, .store _ _ _, _, _, _, _⟩ :: _) _ _); refine wpList_store_whole (o := ⟨none, .store 33 (.tmp 10) (.tmp 56), _, _, _, _⟩) rfl _ _ _ rfl rfl bx #[.int .i64 x.kd, .int .i64 x.line, .int .i64 x.cl] rfl rfl 33 _ HA1.out size_act rfl (ones3 x.kd x.line x.cl) ?_; intro y2 HA2 HB2; have HX2 := Lib.hid (HBN.out y2 HA2.out); have HT2 : Hid (Two w g y2 p q r n L L) := HTr.out.b_step (HBS.out.symm ▸ HB1.out.trans HB2.out); have d0 := HX2.out.c0; have d1 := HX2.out.c1; have d2 := HX2.out.c2))
        have HT2d := Lib.hid HT2.out.drew
        have HX2d := Lib.hid (HX2.out.b_step (Below.refl _ _).drew)
        go_region_held3 (fun w' => w'.cell? ⟨bx, 1, none⟩ = some (.int .i64 x.line)) (go_keep)
          (first
            | (go_at_call 17; refine (give_any HT2d.out.pl x.line).mono ?_; rintro e y3 ⟨rfl, hpl, ht⟩; have HT3 := Lib.hid (HT2d.out.p_step hpl ht); have HX3 := Lib.hid (HX2d.out.p_step ht); have e1 := HX3.out.c1; rw [HGE.out]; clear hpl ht)
            | (go_at_call 14; refine (num_any ge _).mono ?_; rintro e y ⟨rfl, rfl⟩)
            | (go_at_call 18; refine (rgive_any HT3.out.rf x.line).mono ?_; rintro e y4 ⟨rfl, hpl, ht⟩; have HT4 := Lib.hid (HT3.out.r_step hpl ht); have HX4 := Lib.hid (HX3.out.r_step ht); have f1 := HX4.out.c1; rw [HGE.out]; clear hpl ht))
        have f0 := HX4.out.c0
        have f2 := HX4.out.c2
        generalize giveL L x.line = M at *
        go_wp2_with fail
        refine (of_any HT4.out.pl x.line).mono ?_
        rintro e y7 ⟨rfl, m7, rfl⟩
        have HT7 := Lib.hid (HT4.out.drewN m7)
        have HX7 := Lib.hid (HX4.out.b_step (below_drewN (Below.refl _ _) m7))
        go_wp2_with fail
        refine (rof_any HT7.out.rf x.line).mono ?_
        rintro e y8 ⟨rfl, rfl⟩
        generalize (ofL M x.line).getD 0 = ov at *
        generalize (ofL M x.line).isSome = ob at *
        have hov : (ov != ov) = false := by simp
        have hob : (ob != ob) = false := by simp
        rcases Classical.em (i % 4 = 0) with h4 | h4
        · have hm1 : ((i : Int).tmod 4 == 0) = true := by rw [Int.tmod_eq_emod_of_nonneg (by omega)]; simp; omega
          have hm2 : ((i : Int) % 4 == 0) = true := by simp; omega
          have hm3 : (((i % 4 : Nat) : Int) == 0) = true := by simp; omega
          clear h4
          go_wp2_with fail
          refine (alike_any HT7.out.pl HT7.out.rf).mono ?_
          rintro e y9 ⟨rfl, hb9⟩
          have HT9 := Lib.hid (HT7.out.b_step hb9)
          clear hb9
          go_wp2
          go_roundg gk
          case measure => omega
          case rel => exact ⟨i + 1, by omega, by go_num, (by rw [HST.out]; exact HT9)⟩
        · have hm1 : ((i : Int).tmod 4 == 0) = false := by rw [Int.tmod_eq_emod_of_nonneg (by omega)]; simp; omega
          have hm2 : ((i : Int) % 4 == 0) = false := by simp; omega
          have hm3 : (((i % 4 : Nat) : Int) == 0) = false := by simp; omega
          clear h4
          go_wp2
          go_roundg gk
          case measure => omega
          case rel => exact ⟨i + 1, by omega, by go_num, (by rw [HST.out]; exact HT7)⟩

      have k1 : (x.kd == 1) = false := by simpa using h0
      rw [if_neg h0] at HST
      clear h0
      rcases Classical.em (x.kd = 2) with h0 | h0
      · have k2 : (x.kd == 2) = true := by simpa using h0
        rw [if_pos h0] at HST
        obtain ⟨ge, hge⟩ : ∃ ge, markE n L x.line x.cl = ge := ⟨_, rfl⟩
        have HGE := Lib.hid hge
        have hgg : (ge != ge) = false := by simp
        clear h0 hge
        go_wp2_with (first | ((with_reducible show wpList _ _ _ (⟨some 10, .alloc _, _, _, _, _⟩ :: _) _ _); refine wpList_alloc_var (o := ⟨some 10, _, _, _, _, _⟩) rfl 33 rfl bx HBS.out _ zero_act ?_; intro y1 HA1 HB1) | ((with_reducible show wpList _ _ _ (⟨none, .store _ _ _, _, _, _, _⟩ :: _) _ _); refine wpList_store_whole (o := ⟨none, .store 33 (.tmp 10) (.tmp 56), _, _, _, _⟩) rfl _ _ _ rfl rfl bx #[.int .i64 x.kd, .int .i64 x.line, .int .i64 x.cl] rfl rfl 33 _ HA1.out size_act rfl (ones3 x.kd x.line x.cl) ?_; intro y2 HA2 HB2; have HX2 := Lib.hid (HBN.out y2 HA2.out); have HT2 : Hid (Two w g y2 p q r n L L) := HTr.out.b_step (HBS.out.symm ▸ HB1.out.trans HB2.out); have d0 := HX2.out.c0; have d1 := HX2.out.c1; have d2 := HX2.out.c2))
        have HT2d := Lib.hid HT2.out.drew
        have HX2d := Lib.hid (HX2.out.b_step (Below.refl _ _).drew)
        go_region_held3 (fun w' => w'.cell? ⟨bx, 1, none⟩ = some (.int .i64 x.line) ∧ w'.cell? ⟨bx, 2, none⟩ = some (.int .i64 x.cl)) (go_keep)
          (first
            | (go_at_call 19; refine (mark_any HT2d.out.pl x.line x.cl).mono ?_; rintro e y3 ⟨rfl, hpl, ht⟩; have HT3 := Lib.hid (HT2d.out.p_step hpl ht); have HX3 := Lib.hid (HX2d.out.p_step ht); have e1 := HX3.out.c1; have e2 := HX3.out.c2; rw [HGE.out]; clear hpl ht)
            | (go_at_call 14; refine (num_any ge _).mono ?_; rintro e y ⟨rfl, rfl⟩)
            | (go_at_call 20; refine (rmark_any HT3.out.rf x.line x.cl).mono ?_; rintro e y4 ⟨rfl, hpl, ht⟩; have HT4 := Lib.hid (HT3.out.r_step hpl ht); have HX4 := Lib.hid (HX3.out.r_step ht); have f1 := HX4.out.c1; have f2 := HX4.out.c2; rw [HGE.out]; clear hpl ht))
        have f0 := HX4.out.c0
        generalize markL n L x.line x.cl = M at *
        go_wp2_with fail
        refine (of_any HT4.out.pl x.line).mono ?_
        rintro e y7 ⟨rfl, m7, rfl⟩
        have HT7 := Lib.hid (HT4.out.drewN m7)
        have HX7 := Lib.hid (HX4.out.b_step (below_drewN (Below.refl _ _) m7))
        go_wp2_with fail
        refine (rof_any HT7.out.rf x.line).mono ?_
        rintro e y8 ⟨rfl, rfl⟩
        generalize (ofL M x.line).getD 0 = ov at *
        generalize (ofL M x.line).isSome = ob at *
        have hov : (ov != ov) = false := by simp
        have hob : (ob != ob) = false := by simp
        rcases Classical.em (i % 4 = 0) with h4 | h4
        · have hm1 : ((i : Int).tmod 4 == 0) = true := by rw [Int.tmod_eq_emod_of_nonneg (by omega)]; simp; omega
          have hm2 : ((i : Int) % 4 == 0) = true := by simp; omega
          have hm3 : (((i % 4 : Nat) : Int) == 0) = true := by simp; omega
          clear h4
          go_wp2_with fail
          refine (alike_any HT7.out.pl HT7.out.rf).mono ?_
          rintro e y9 ⟨rfl, hb9⟩
          have HT9 := Lib.hid (HT7.out.b_step hb9)
          clear hb9
          go_wp2
          go_roundg gk
          case measure => omega
          case rel => exact ⟨i + 1, by omega, by go_num, (by rw [HST.out]; exact HT9)⟩
        · have hm1 : ((i : Int).tmod 4 == 0) = false := by rw [Int.tmod_eq_emod_of_nonneg (by omega)]; simp; omega
          have hm2 : ((i : Int) % 4 == 0) = false := by simp; omega
          have hm3 : (((i % 4 : Nat) : Int) == 0) = false := by simp; omega
          clear h4
          go_wp2
          go_roundg gk
          case measure => omega
          case rel => exact ⟨i + 1, by omega, by go_num, (by rw [HST.out]; exact HT7)⟩

      have k2 : (x.kd == 2) = false := by simpa using h0
      rw [if_neg h0] at HST
      clear h0
      go_wp2_with (first | ((with_reducible show wpList _ _ _ (⟨some 10, .alloc _, _, _, _, _⟩ :: _) _ _); refine wpList_alloc_var (o := ⟨some 10, _, _, _, _, _⟩) rfl 33 rfl bx HBS.out _ zero_act ?_; intro y1 HA1 HB1) | ((with_reducible show wpList _ _ _ (⟨none, .store _ _ _, _, _, _, _⟩ :: _) _ _); refine wpList_store_whole (o := ⟨none, .store 33 (.tmp 10) (.tmp 56), _, _, _, _⟩) rfl _ _ _ rfl rfl bx #[.int .i64 x.kd, .int .i64 x.line, .int .i64 x.cl] rfl rfl 33 _ HA1.out size_act rfl (ones3 x.kd x.line x.cl) ?_; intro y2 HA2 HB2; have HX2 := Lib.hid (HBN.out y2 HA2.out); have HT2 : Hid (Two w g y2 p q r n L L) := HTr.out.b_step (HBS.out.symm ▸ HB1.out.trans HB2.out); have d0 := HX2.out.c0; have d1 := HX2.out.c1; have d2 := HX2.out.c2))
      refine (of_any HT2.out.pl x.line).mono ?_
      rintro e y7 ⟨rfl, m7, rfl⟩
      have HT7 := Lib.hid (HT2.out.drewN m7)
      have HX7 := Lib.hid (HX2.out.b_step (below_drewN (Below.refl _ _) m7))
      go_wp2_with fail
      refine (rof_any HT7.out.rf x.line).mono ?_
      rintro e y8 ⟨rfl, rfl⟩
      generalize (ofL L x.line).getD 0 = ov at *
      generalize (ofL L x.line).isSome = ob at *
      have hov : (ov != ov) = false := by simp
      have hob : (ob != ob) = false := by simp
      rcases Classical.em (i % 4 = 0) with h4 | h4
      · have hm1 : ((i : Int).tmod 4 == 0) = true := by rw [Int.tmod_eq_emod_of_nonneg (by omega)]; simp; omega
        have hm2 : ((i : Int) % 4 == 0) = true := by simp; omega
        have hm3 : (((i % 4 : Nat) : Int) == 0) = true := by simp; omega
        clear h4
        go_wp2_with fail
        refine (alike_any HT7.out.pl HT7.out.rf).mono ?_
        rintro e y9 ⟨rfl, hb9⟩
        have HT9 := Lib.hid (HT7.out.b_step hb9)
        clear hb9
        go_wp2
        go_roundg gk
        case measure => omega
        case rel => exact ⟨i + 1, by omega, by go_num, (by rw [HST.out]; exact HT9)⟩
      · have hm1 : ((i : Int).tmod 4 == 0) = false := by rw [Int.tmod_eq_emod_of_nonneg (by omega)]; simp; omega
        have hm2 : ((i : Int) % 4 == 0) = false := by simp; omega
        have hm3 : (((i % 4 : Nat) : Int) == 0) = false := by simp; omega
        clear h4
        go_wp2
        go_roundg gk
        case measure => omega
        case rel => exact ⟨i + 1, by omega, by go_num, (by rw [HST.out]; exact HT7)⟩

theorem walk (a0 : Int) (a1 : Option Addr) (len1 cap1 : Nat) (z1 : List ActP) (w : World) (w0 : (Lit.int .i64 a0).wf = true) (w1 : IsActs w a1 len1 z1) :
    Calls Try.prog 3 #[.int .i64 a0, .slice a1 len1 cap1] w fun e w' => e = .returned (.bool true) ∧ Below w.heap.size w w' := by
  have hlen := w1.2.1
  unfold maxLen at hlen
  rcases Nat.lt_or_ge 60 len1 with hl | hl
  · exact many a0 a1 len1 cap1 w hl hlen
  · rcases Classical.em (a0 < 1 ∨ 32 < a0) with hx | hx
    · exact refused a0 a1 len1 cap1 w hl hx
    · obtain ⟨n, rfl⟩ : ∃ n : Nat, a0 = (n : Int) := ⟨a0.toNat, by omega⟩
      exact scripted n a1 len1 cap1 z1 w w1 hl (by omega) (by omega)

set_option maxRecDepth 100000 in
theorem lifted (os : Os) (started : os.Started) (H : Type) (enc : TypeId × Value → H) :
    ReturnsInHanded {} Try.checked os 3 .any (Rows.pallocScriptSpec.pre6 enc Try.prog Try.f3 Rows.pallocScriptRow.domain false) (Rows.pallocScriptSpec.post enc Try.prog Try.f3 false true false false) := by
  refine returnsInHanded_of_change (C := Try.checked) own started (by kernel_rfl) Try.func3
    (ChangeSpec.witness6 (enc := enc) (C := Try.checked) false ⟨#[], #[.int .i64 0, .slice none 0 0], []⟩ 8 (by kernel_rfl) (by kernel_rfl) (by kernel_rfl) (by kernel_rfl)) ?_
  intro W base args ds gs before hval0 hW hcnd _
  have hval : ∀ (j : Nat) t v, Try.f3.params[j]? = some t → args[j]? = some v → Value.okWide Try.prog W .any base t v := hval0
  have hW' := hW
  obtain ⟨p, q, hA0, hV, rfl, hfz, hnd⟩ := hW
  have hA : DataW.TrodAll enc Try.prog W 0 (fun _ => true) true Try.f3.params.toList args.toList ds p := hA0
  rw [Try.params3] at hA hval
  obtain ⟨v0, vs0, d0, ds0, p0, q0, hargs, rfl, rfl, h0, r0⟩ := trodAll_cons hA
  obtain ⟨v1, vs1, d1, ds1, p1, q1, rfl, rfl, rfl, h1, r1⟩ := trodAll_cons r0
  obtain ⟨rfl, rfl, rfl⟩ := trodAll_nil r1
  obtain rfl : args = #[v0, v1] := by cases args; simp_all
  obtain ⟨rfl, rfl⟩ := trodVars_none hV
  obtain ⟨a0, rfl, rfl, rfl, w0⟩ := open_int Try.underlying3 (hval 0 3 v0 rfl rfl) h0
  obtain ⟨a1, len1, cap1, rfl⟩ := okWide_slice Try.underlying22 (hval 1 22 v1 rfl rfl)
  have k1 := h1
  have lt1 : ∀ x ∈ p1, x.block < W.heap.size := by obtain ⟨m, hm⟩ := k1; exact DataW.trod_lt m _ _ _ hm
  obtain ⟨z1, w1⟩ : ∃ zs, IsActs W a1 len1 zs := by
    obtain ⟨fuel, hf⟩ := h1
    exact isActs_of hf
  clear hA0 hval0
  refine (walk a0 a1 len1 cap1 z1 W w0 w1).mono fun e W' ⟨he, bel⟩ => ?_
  subst he
  exact ⟨_, rfl, _, _, _, [], _, [], hW', trodAll_mk1 (shut_bool Try.underlying4 _), (trodAll_cons_mk (shut_int Try.underlying3 w0) (trodAll_cons_mk (Below.trod laidOut (by kernel_rfl) (of_decide_eq_true (by kernel_rfl)) k1 bel lt1) trodAll_mk0)), rfl, bel.frame _, fun h => by cases h⟩

theorem over : Rows.pallocScriptRow.holds Try.pinned (OpenSpec.ofChange Rows.pallocScriptSpec) :=
  OpenClaim.holds_of_wide 3 Try.f3 rfl rfl rfl rfl rfl rfl rfl ⟨rfl, rfl, rfl, rfl, rfl⟩ rfl rfl rfl rfl rfl (by kernel_rfl) Try.func3 (by kernel_rfl)
    (of_decide_eq_true (by kernel_rfl)) (by unfold Func.isWrapper; first | (rw [if_pos (by decide +kernel)]; kernel_rfl) | (rw [if_neg (by decide +kernel)]; exact ⟨rfl, rfl⟩))
    (fun os started H enc _ => lifted os started H enc)

theorem proved : Rows.PallocScriptSaid := over
#print axioms proved
end Go.Proofs.Ytjebpggoajfjkaa.pallocScript
