/-
OrderLast: a key has the link that was set last, if it was not dropped since. Conditions: at most 120 acts, keys of at most 200 bytes (else the statements' own example alone).
-/
import Derived.Test.YtfdifimakaiccaaRows
import Derived.Test.YtfdifimakaiccaaPlays13
import Derived.Test.YtfdifimakaiccaaSame12
import Derived.Test.YtfdifimakaiccaaFind12
import Derived.IntWalk
import Derived.WalkSmall
import Derived.Deep.QuietTactic
import Derived.BigQuiet
import Derived.WalkKit
import Derived.ProofKit
import Derived.OpenShut
import Derived.ShutString
import Derived.ChangeOld
import Derived.Below
namespace Go.Proofs.Ytfdifimakaiccaa.orderLast
open Go.ChangeShapes Go.WideShapes Go.ChangeAt Go.RowKit
open Go.ChangeMaps (open_string shut_string)
set_option linter.unusedVariables false

theorem own : ownKnob Try.prog.godebug = none := by kernel_rfl
theorem laidOut : laidOutB Try.prog = true := by kernel_rfl

/-- What the law keeps of a key: the link that was set last, if it was not dropped since. -/
def lastT (k : Ky) (o : Option Ln) (x : ActP) : Option Ln := if x.l.k = k then (if x.kd = 0 then some x.l else if x.kd = 1 then none else o) else o
theorem last_step {L : List Ln} (h : RisesK L) (k : Ky) (x : ActP) : getT (stepT L x) k = lastT k (getT L k) x := by
  unfold stepT lastT
  by_cases h0 : x.kd = 0
  · rw [if_pos h0, if_pos h0, getT_set h]
  · rw [if_neg h0, if_neg h0]
    by_cases h1 : x.kd = 1
    · rw [if_pos h1, if_pos h1, getT_drop h]
      by_cases hk : x.l.k = k
      · rw [if_pos hk, if_pos hk.symm]
      · rw [if_neg hk, if_neg (fun e => hk e.symm)]
    · rw [if_neg h1, if_neg h1]
      split <;> rfl
theorem last_take {xs : List ActP} {i : Nat} {x : ActP} (k : Ky) (h : xs[i]? = some x) (hr : RisesK (playT (xs.take i))) : getT (playT (xs.take (i + 1))) k = lastT k (getT (playT (xs.take i)) k) x := by
  rw [play_take h, last_step hr]
theorem play_rises (xs : List ActP) : RisesK (playT xs) := by
  have key : ∀ (xs : List ActP) (L : List Ln), RisesK L → RisesK (xs.foldl stepT L) := by
    intro xs
    induction xs with
    | nil => intro L h; exact h
    | cons x xs ih => intro L h; exact ih _ (stepT_rises h x)
  exact key xs [] risesK_nil
theorem getT_take {L : List Ln} (h : RisesK L) {j : Nat} {y : Ln} (hy : L[j]? = some y) (k : Ky) : getT (L.take (j + 1)) k = if y.k = k then some y else getT (L.take j) k := by
  have e : L.take (j + 1) = L.take j ++ [y] := by rw [List.take_add_one, hy]; rfl
  have hr : RisesK (L.take j ++ [y]) := by rw [← e]; exact List.Pairwise.sublist (List.take_sublist _ _) h
  rw [e]
  unfold getT
  rw [List.find?_append]
  split
  · rename_i hk
    have : List.find? (fun x => x.k == k) (L.take j) = none := by
      rw [List.find?_eq_none]
      intro z hz
      have := (List.pairwise_append.1 hr).2.2 z hz y (by simp)
      have h2 := lessK_ne this
      simp
      rw [← hk]
      exact h2
    rw [this]
    simp [hk]
  · rename_i hk
    have : List.find? (fun x => x.k == k) [y] = none := by simp [hk]
    rw [this]
    simp
theorem str_eq (x y : ByteArray) : (x.toList == y.toList) = (x.data.toList == y.data.toList) := by
  rw [Lib.toList_data, Lib.toList_data]
set_option maxRecDepth 100000 in
set_option maxHeartbeats 1600000 in
theorem many1 (a0 : Option Addr) (len0 cap0 : Nat) (z0 : List ActP) (s : ByteArray) (w : World) (w0 : IsActs w a0 len0 z0) (hb : largeB z0 = true) :
    Calls Try.prog 6 #[.slice a0 len0 cap0, .string s] w fun e w' => e = .returned (.bool true) ∧ Below w.heap.size w w' := by
  have HAW := Lib.hid (awake13_any w)
  have HLG := Lib.hid (large_any (cap := cap0) w0)
  rw [hb] at HLG
  clear w0 hb
  go_enter Try.func6, Try.ntmps6
  go_wp2_with fail
  refine HLG.out.mono ?_
  rintro e w' ⟨rfl, rfl⟩
  go_wp2_with fail
  refine HAW.out.mono ?_
  rintro e w' ⟨rfl, hb⟩
  have HB := Lib.hid hb
  clear hb
  go_wp2
  go_ret
  exact ⟨rfl, HB.out⟩
set_option maxRecDepth 100000 in
set_option maxHeartbeats 1600000 in
theorem many2 (a0 : Option Addr) (len0 cap0 : Nat) (z0 : List ActP) (s : ByteArray) (w : World) (w0 : IsActs w a0 len0 z0) (hb : largeB z0 = false) (hs : 200 < s.size) (hm : s.size ≤ maxLen) :
    Calls Try.prog 6 #[.slice a0 len0 cap0, .string s] w fun e w' => e = .returned (.bool true) ∧ Below w.heap.size w w' := by
  have HAW := Lib.hid (awake13_any w)
  have HLG := Lib.hid (large_any (cap := cap0) w0)
  rw [hb] at HLG
  have h2 : (200 : Int) < (s.size : Int) := by omega
  clear w0 hb hs
  go_enter Try.func6, Try.ntmps6
  go_wp2_with fail
  refine HLG.out.mono ?_
  rintro e w' ⟨rfl, rfl⟩
  go_wp2_with fail
  refine HAW.out.mono ?_
  rintro e w' ⟨rfl, hb⟩
  have HB := Lib.hid hb
  clear hb
  go_wp2
  go_ret
  exact ⟨rfl, HB.out⟩
set_option maxRecDepth 100000 in
set_option maxHeartbeats 6400000 in
theorem few (a0 : Option Addr) (len0 cap0 : Nat) (z0 : List ActP) (s : ByteArray) (w : World) (w0 : IsActs w a0 len0 z0) (hb : largeB z0 = false) (hs : s.size ≤ 200) :
    Calls Try.prog 6 #[.slice a0 len0 cap0, .string s] w fun e w' => e = .returned (.bool true) ∧ Below w.heap.size w w' := by
  have HAW := Lib.hid (fun w1 => awake13_any w1)
  have HLG := Lib.hid (large_any (cap := cap0) w0)
  rw [hb] at HLG
  have HPL := Lib.hid (played_any (cap := cap0) w0 hb)
  have h2 : ¬ (200 : Int) < (s.size : Int) := by omega
  have hbig : s.size ≤ 1073741824 := by omega
  have HBIG := Lib.hid hbig
  have HA := Lib.hid w0
  have HE : Hid (z0.take len0 = z0) := by show _ = _; rw [← w0.1.1]; exact List.take_length
  have hlm : len0 ≤ 120 := by rw [← w0.1.1]; exact (large_no hb).1
  obtain ⟨g, hg⟩ : ∃ g, w.heap.size = g := ⟨_, rfl⟩
  have HG := Lib.hid hg
  rw [hg] at HPL ⊢
  have HZ := Lib.hid zero_link
  have hgu := guard_link12
  clear w0 hb hg hs hbig
  go_enter Try.func6, Try.ntmps6
  go_wp2_with fail
  refine HLG.out.mono ?_
  rintro e w' ⟨rfl, rfl⟩
  go_wp2_with fail
  refine HPL.out.mono ?_
  rintro e w1 ⟨rfl, m, ht⟩
  have HT := Lib.hid ht
  obtain ⟨g1, hg1⟩ : ∃ g1, w1.heap.size = g1 := ⟨_, rfl⟩
  have HG1 := Lib.hid hg1
  clear ht hg1
  go_wp2_with (first
    | ((with_reducible show wpList _ _ _ (⟨some 6, .alloc _, _, _, _, _⟩ :: _) _ _); refine wpList_alloc_var (o := ⟨some 6, _, _, _, _, _⟩) rfl 33 rfl g1 HG1.out _ HZ.out ?_; intro w2 H2 B2)
    | fail)
  have HT2 := Lib.hid (HT.out.below (HG1.out.symm ▸ B2.out))
  have HGG : Hid (g ≤ g1) := by have := HT.out.gw; have := HG1.out; show g ≤ g1; omega
  have HOG : Hid (∀ k, odOwn g m k → k < g1) := fun k hk => by have := HT.out.tb.lt hk; have := HG1.out; omega
  go_loopg [7, 8] len0 (fun gk s7 s8 wx => ∃ (i : Nat) (o : Option Ln), i + gk = len0 ∧ s8 = .int .i64 i ∧ s7 = .bool o.isSome ∧ Hid (o = getT (playT (z0.take i)) s.data.toList) ∧ Hid (LBox wx g1 (o.getD Ln.zero)) ∧ Hid (Stay (fun k => k = g1) w2 wx))
  case atStart => exact ⟨0, none, by omega, rfl, rfl, rfl, H2, Stay.refl _ _⟩
  case round =>
    obtain ⟨i, o, hig, rfl, rfl, HO, HX, HS⟩ := hrel
    have HT3 : Hid (Tg w g wr g m (playT z0)) := ⟨HT2.out.tb.stay HS.out (fun k hk e => by have := HOG.out k hk; omega), HT2.out.bel.trans (HS.out.below (fun k e => by rw [e]; exact HGG.out) HT2.out.gw), HT2.out.sz, HT2.out.own⟩
    have hgo : ∀ k, g1 ≤ k → ¬ odOwn g m k := fun k hk e => by have := HOG.out k e; omega
    have HGO := Lib.hid hgo
    cases gk with
    | zero =>
      obtain rfl : i = len0 := by omega
      have hii : ¬ (i : Int) < (i : Int) := by omega
      have hx := HO.out
      rw [HE.out] at hx
      obtain ⟨L, hL⟩ : ∃ L, playT z0 = L := ⟨_, rfl⟩
      rw [hL] at hx HT3
      have hln : linkT L s.data.toList = o.getD Ln.zero := by rw [hx]; rfl
      have hhs : hasT L s.data.toList = o.isSome := by rw [hx]; rfl
      obtain ⟨x, hxe⟩ : ∃ x, o.getD Ln.zero = x := ⟨_, rfl⟩
      obtain ⟨b, hbe⟩ : ∃ b, o.isSome = b := ⟨_, rfl⟩
      rw [hxe] at hln HX
      rw [hbe] at hhs
      rw [hbe]
      have HLN : Hid (L.length ≤ 1048576) := by have h1 := playT_len z0; have h2 := HA.out.1.1; rw [← hL]; show _ ≤ _; omega
      have HAL := Lib.hid (odall_any HT3.out.tb HLN.out)
      unfold AllTo at HAL
      have HRS := Lib.hid HT3.out.tb.rises
      have HGK : Hid (getT L s.data.toList = o) := hx.symm
      have HDR : Hid (∀ w', Tg w g w' g m L → Calls Try.prog 13 #[.pointer (some ⟨g, 0, none⟩), .string s] w' fun y w2 => y = .returned (.bool b) ∧ ∃ m2, Tg w g w2 g m2 (dropT L s.data.toList)) := fun w' ht => by
        have := oddrop_any ht.tb s HBIG.out HLN.out
        rw [hhs] at this
        exact this.mono fun y w2 ⟨h1, h2⟩ => ⟨h1, ht.moved h2⟩
      have HD0 : Hid (∀ w' m2, Tg w g w' g m2 (dropT L s.data.toList) → Calls Try.prog 13 #[.pointer (some ⟨g, 0, none⟩), .string s] w' fun y w2 => y = .returned (.bool false) ∧ ∃ m3, Tg w g w2 g m3 (dropT (dropT L s.data.toList) s.data.toList)) := fun w' m2 ht => by
        have h1 := oddrop_any ht.tb s HBIG.out (Nat.le_trans (List.length_filter_le _ _) HLN.out)
        have h3 : hasT (dropT L s.data.toList) s.data.toList = false := by unfold hasT; rw [getT_drop HT3.out.tb.rises, if_pos rfl]; rfl
        rw [h3] at h1
        exact h1.mono fun y w2 ⟨h1, h2⟩ => ⟨h1, ht.moved h2⟩
      have HXL : Hid (wr.heap[g1]? = some (.cells #[.string x.str, .int .u64 (x.id : Nat), .int .u64 (x.ver : Nat), .int .i64 x.line, .int .i64 x.cl] 33 (0, 0))) := HX.out
      clear hx hL hln hhs HX HO HT HT2 hgo
      have hbb : (b == b) = true := by simp
      go_wp2_with fail
      refine HAL.out.mono ?_
      rintro e v1 ⟨ga, cap1, rfl, ho1, hb1⟩
      obtain ⟨-, A1, c1, e1, -, hr1, -⟩ := rowL_of_own ho1 HLN.out
      cases e1
      have HR1 := Lib.hid hr1
      have HB1 := Lib.hid hb1
      have HX1 := Lib.hid ((hb1.block g1 (lt_of_heap HXL.out)).trans HXL.out)
      obtain ⟨gx, hgx⟩ : ∃ gx, v1.heap.size = gx := ⟨_, rfl⟩
      have HGX := Lib.hid hgx
      have HLX : Hid (g1 < gx) := hgx ▸ lt_of_heap HX1.out
      have HT1 := Lib.hid (HT3.out.below hb1)
      obtain ⟨n, hn⟩ : ∃ n, L.length = n := ⟨_, rfl⟩
      have HN := Lib.hid hn
      have hnm : n ≤ 1048576 := hn ▸ HLN.out
      have HGW : Hid (g ≤ gx) := hgx ▸ HT1.out.gw
      rw [hn]
      clear ho1 hr1 hb1 hgx hn
      go_wp2_with (first
        | ((with_reducible show wpList _ _ _ (⟨some 10, .alloc _, _, _, _, _⟩ :: _) _ _); refine wpList_alloc_var (o := ⟨some 10, _, _, _, _, _⟩) rfl 33 rfl gx HGX.out _ HZ.out ?_; intro v2 H2a B2a)
        | fail)
      have HT2 := Lib.hid (HT1.out.below (HGX.out.symm ▸ B2a.out))
      have HR2 := Lib.hid (HR1.out.below (HGX.out.symm ▸ B2a.out))
      have HRB : Hid (∀ b' off', (some ⟨ga, 0, none⟩ : Option Addr) = some ⟨b', off', none⟩ → 0 < n → b' < gx) := fun b' off' e hpos => by
        obtain ⟨b2, o2, e2, hlt, _⟩ := HR1.out.2 (by have := HN.out; omega)
        rw [e] at e2
        cases e2
        have := HGX.out; omega
      have HX2 := Lib.hid ((B2a.out.block g1 HLX.out).trans HX1.out)
      have HOX : Hid (∀ k, odOwn g m k → k < gx) := fun k hk => by have := HT1.out.tb.lt hk; have := HGX.out; omega
      go_loopg [11, 12] n (fun gk s11 s12 wx => ∃ (i2 : Nat) (o2 : Option Ln), i2 + gk = n ∧ s12 = .int .i64 i2 ∧ s11 = .bool o2.isSome ∧ Hid (o2 = getT (L.take i2) s.data.toList) ∧ Hid (LBox wx gx (o2.getD Ln.zero)) ∧ Hid (Turns gx gx v2 wx))
      case atStart => exact ⟨0, none, by omega, rfl, rfl, rfl, H2a, ⟨rfl, rfl, rfl, Nat.le_refl _, fun _ _ _ _ => rfl⟩⟩
      case round =>
        obtain ⟨i2, o2, hig2, rfl, rfl, HO2, HY2, HTU⟩ := hrel
        have hst : Stay (fun k => k = gx) v2 wr := ⟨HTU.out.os, HTU.out.tape, HTU.out.output, HTU.out.size, fun k hk hl => HTU.out.block k hk hk hl⟩
        cases gk with
        | zero =>
          obtain rfl : i2 = n := by omega
          have hii2 : ¬ (i2 : Int) < (i2 : Int) := by omega
          have ho2 := HO2.out
          rw [← HN.out, List.take_length, HGK.out] at ho2
          rw [ho2, hxe] at HY2
          rw [ho2, hbe]
          have HT5 : Hid (Tg w g wr g m L) := ⟨HT2.out.tb.stay hst (fun k hk e => by have := HOX.out k hk; omega), HT2.out.bel.trans (hst.below (fun k e => by rw [e]; exact HGW.out) HT2.out.gw), HT2.out.sz, HT2.out.own⟩
          have HX5 := Lib.hid ((hst.block g1 (Nat.ne_of_lt HLX.out) (lt_of_heap HX2.out)).trans HX2.out)
          have HY5 : Hid (wr.heap[gx]? = some (.cells #[.string x.str, .int .u64 (x.id : Nat), .int .u64 (x.ver : Nat), .int .i64 x.line, .int .i64 x.cl] 33 (0, 0))) := HY2.out
          obtain ⟨p0, p1, p2, p3, p4⟩ := cellsL HX5.out
          obtain ⟨q0, q1, q2, q3, q4⟩ := cellsL HY5.out
          have hs0 : (x.str.toList == x.str.toList) = true := by simp
          have hs1 : ((x.id : Int) == (x.id : Int)) = true := by simp
          have hs2 : ((x.ver : Int) == (x.ver : Int)) = true := by simp
          have hs3 : (x.line == x.line) = true := by simp
          have hs4 : (x.cl == x.cl) = true := by simp
          clear hst
          generalize x.str = x0 at *
          generalize (x.id : Int) = x1 at *
          generalize (x.ver : Int) = x2 at *
          generalize x.line = x3 at *
          generalize x.cl = x4 at *
          go_wp2_with fail
          refine (HDR.out _ HT5.out).mono ?_
          rintro e v5 ⟨rfl, m5, ht5⟩
          have HT6 := Lib.hid ht5
          clear ht5 p0 p1 p2 p3 p4 q0 q1 q2 q3 q4
          go_wp2_with fail
          refine (HD0.out _ _ HT6.out).mono ?_
          rintro e v6 ⟨rfl, m6, ht6⟩
          have HT7 := Lib.hid ht6
          clear ht6
          go_wp2_with fail
          refine (HAW.out v6).mono ?_
          rintro e v10 ⟨rfl, hb10⟩
          have HBE : Hid (Below g w v10) := HT7.out.bel.trans (hb10.mono HT7.out.gw)
          clear hb10
          go_wp2
          go_ret
          exact ⟨rfl, HBE.out⟩
        | succ gk =>
          have hii2 : (i2 : Int) < (n : Int) := by omega
          have hgi := List.getElem?_eq_getElem (show i2 < L.length by have := HN.out; omega)
          generalize L[i2]'(by have := HN.out; omega) = y at *
          obtain ⟨b9, off9, e9, hlt9, c0, c1, c2, c3, c4⟩ := (HR2.out.same hst.size (fun z hz => hst.block _ (by cases hz; have := HRB.out ga 0 rfl (by omega); exact Nat.ne_of_lt this) (by cases hz; have h1 := HRB.out ga 0 rfl (by omega); have h2 := lt_of_heap H2a.out; show ga < _; omega))).at_ hgi
          cases e9
          rw [Nat.zero_add] at c0 c1 c2 c3 c4
          have hne := str_eq y.str s
          have hyk : y.str.data.toList = y.k := rfl
          rw [hyk] at hne
          have hgt2 := getT_take HRS.out hgi s.data.toList
          rw [← HO2.out] at hgt2
          have HG2 := Lib.hid hgt2
          have HYC : Hid (∃ c : Array Value, c.size = 5 ∧ wr.heap[gx]? = some (.cells c 33 (0, 0))) := ⟨_, rfl, HY2.out⟩
          have HTT : Hid (∀ w', Turns gx gx wr w' → Turns gx gx v2 w') := fun w' ht => ⟨ht.os.trans HTU.out.os, ht.tape.trans HTU.out.tape, ht.output.trans HTU.out.output, Nat.le_trans HTU.out.size ht.size, fun k h1 h2 hl => (ht.block k h1 h2 (Nat.lt_of_lt_of_le hl HTU.out.size)).trans (HTU.out.block k h1 h2 hl)⟩
          have HLB : Hid (∀ w', w'.heap[gx]? = some (.cells #[.string y.str, .int .u64 (y.id : Nat), .int .u64 (y.ver : Nat), .int .i64 y.line, .int .i64 y.cl] 33 (0, 0)) → LBox w' gx y) := fun w' h => h
          clear hst hgi hyk hgt2
          by_cases hk2 : y.k = s.data.toList
          · have hne2 : (y.str.toList == s.toList) = true := by rw [hne, hk2]; simp
            rw [if_pos hk2] at HG2
            obtain ⟨cc, hcs, hch⟩ := HYC.out
            have HCH := Lib.hid hch
            clear hne hk2 hch
            generalize y.str = y0 at *
            generalize (y.id : Int) = y1 at *
            generalize (y.ver : Int) = y2 at *
            generalize y.line = y3 at *
            generalize y.cl = y4 at *
            go_wp2_with (first
              | ((with_reducible show wpList _ _ _ (⟨none, .store _ (.tmp 10) _, _, _, _, _⟩ :: _) _ _); refine wpList_store_only (o := ⟨none, .store 33 (.tmp 10) (.tmp 87), _, _, _, _⟩) rfl _ _ _ rfl rfl gx #[.string y0, .int .u64 y1, .int .u64 y2, .int .i64 y3, .int .i64 y4] rfl rfl 33 _ HCH.out size_link hcs (onesL _ _ _ _ _) ?_; intro w5 H5 B5)
              | fail)
            go_roundg gk
            case measure => omega
            case rel => exact ⟨i2 + 1, some y, by omega, by go_num, rfl, HG2.out.symm, HLB.out _ H5.out, HTT.out _ B5.out⟩
          · have hne2 : (y.str.toList == s.toList) = false := by rw [hne]; simpa using hk2
            rw [if_neg hk2] at HG2
            clear hne hk2
            generalize y.str = y0 at *
            go_wp2
            go_roundg gk
            case measure => omega
            case rel => exact ⟨i2 + 1, o2, by omega, by go_num, rfl, HG2.out.symm, HY2, HTU⟩
    | succ gk =>
      have hii : (i : Int) < (len0 : Int) := by omega
      obtain ⟨x, b0, off, hx, -, rfl, -, c0, c1, c2, c3, c4, c5, -, -⟩ := (HA.out.below (HG.out.symm ▸ HT3.out.bel)).at_ (i := i) (by omega)
      have hlast := last_take s.data.toList hx (play_rises _)
      rw [← HO.out] at hlast
      have hne := str_eq x.l.str s
      have hxk : x.l.str.data.toList = x.l.k := rfl
      rw [hxk] at hne
      have HLA := Lib.hid hlast
      have hb0 : b0 < g1 := by
        obtain ⟨_, _, _, _, _, e, h, _⟩ := HA.out.at_ (i := i) (by omega)
        cases e
        have := HG.out
        have := HGG.out
        omega
      have HKD : Hid (∀ w', Turns g1 g1 wr w' → w'.cell? ⟨b0, off + i * 8, none⟩ = some (.int .i64 x.kd)) := fun w' ht => (World.cell?_of_block (w := wr) (a := ⟨b0, off + i * 8, none⟩) (ht.block b0 (by omega) (by omega) (World.block_lt_of_cell? _ _ c0))).trans c0
      have HKE : Hid (∀ w', Turns g1 g1 wr w' → w'.cell? ⟨b0, off + i * 8 + 1, none⟩ = some (.string x.l.str)) := fun w' ht => (World.cell?_of_block (w := wr) (a := ⟨b0, off + i * 8 + 1, none⟩) (ht.block b0 (by omega) (by omega) (World.block_lt_of_cell? _ _ c0))).trans c1
      have HSX : Hid (∀ w', Turns g1 g1 wr w' → Stay (fun k => k = g1) w2 w') := fun w' ht => HS.out.trans ⟨ht.os, ht.tape, ht.output, ht.size, fun k hk hl => ht.block k hk hk hl⟩
      have HXL : Hid (∃ c : Array Value, c.size = 5 ∧ wr.heap[g1]? = some (.cells c 33 (0, 0))) := ⟨_, rfl, HX.out⟩
      have HL2 : Hid (∀ w' (y : Ln), w'.heap[g1]? = some (.cells #[.string y.str, .int .u64 (y.id : Nat), .int .u64 (y.ver : Nat), .int .i64 y.line, .int .i64 y.cl] 33 (0, 0)) → LBox w' g1 y) := fun w' y h => h
      clear hx hlast hxk hgo HT3 HT2 hb0
      by_cases hk : x.l.k = s.data.toList
      · have hne2 : (x.l.str.toList == s.toList) = true := by rw [hne, hk]; simp
        by_cases h0 : x.kd = 0
        · have hlt : lastT s.data.toList o x = some x.l := by unfold lastT; rw [if_pos hk, if_pos h0]
          rw [hlt] at HLA
          have k0 : (x.kd == 0) = true := by simpa using h0
          have k1 : (x.kd == 1) = false := by simp [h0]
          obtain ⟨cc, hcs, hch⟩ := HXL.out
          have HCH := Lib.hid hch
          have HLX := Lib.hid (fun w' => HL2.out w' x.l)
          clear hne hk hlt h0 hch
          generalize x.l = y at *
          generalize y.str = x0 at *
          generalize (y.id : Int) = x1 at *
          generalize (y.ver : Int) = x2 at *
          generalize y.line = x3 at *
          generalize y.cl = x4 at *
          generalize x.kd = kd at *
          go_wp2_with (first
            | ((with_reducible show wpList _ _ _ (⟨none, .store _ (.tmp 6) _, _, _, _, _⟩ :: _) _ _); refine wpList_store_only (o := ⟨none, .store 33 (.tmp 6) (.tmp 51), _, _, _, _⟩) rfl _ _ _ rfl rfl g1 #[.string x0, .int .u64 x1, .int .u64 x2, .int .i64 x3, .int .i64 x4] rfl rfl 33 _ HCH.out size_link hcs (onesL _ _ _ _ _) ?_; intro w5 H5 B5; have d0 := HKD.out w5 B5.out; have d1 := HKE.out w5 B5.out)
            | fail)
          go_roundg gk
          case measure => omega
          case rel => exact ⟨i + 1, some y, by omega, by go_num, rfl, HLA.out.symm, HLX.out _ H5.out, HSX.out _ B5.out⟩
        · by_cases h1 : x.kd = 1
          · have hlt : lastT s.data.toList o x = none := by unfold lastT; rw [if_pos hk, if_neg h0, if_pos h1]
            rw [hlt] at HLA
            have k0 : (x.kd == 0) = false := by simpa using h0
            have k1 : (x.kd == 1) = true := by simpa using h1
            obtain ⟨cc, hcs, hch⟩ := HXL.out
            have HCH := Lib.hid hch
            have HLX := Lib.hid (fun w' => HL2.out w' Ln.zero)
            clear hne hk hlt h0 h1 hch
            generalize x.l.str = x0 at *
            generalize x.kd = kd at *
            go_wp2_with (first
              | ((with_reducible show wpList _ _ _ (⟨none, .store _ (.tmp 6) _, _, _, _, _⟩ :: _) _ _); refine wpList_store_only (o := ⟨none, .store 33 (.tmp 6) (.tmp 68), _, _, _, _⟩) rfl _ _ _ rfl rfl g1 #[.string ⟨#[]⟩, .int .u64 0, .int .u64 0, .int .i64 0, .int .i64 0] rfl rfl 33 _ HCH.out size_link hcs (onesL _ _ _ _ _) ?_; intro w5 H5 B5; have d0 := HKD.out w5 B5.out; have d1 := HKE.out w5 B5.out)
              | fail)
            go_roundg gk
            case measure => omega
            case rel => exact ⟨i + 1, none, by omega, by go_num, rfl, HLA.out.symm, HLX.out _ H5.out, HSX.out _ B5.out⟩
          · have hlt : lastT s.data.toList o x = o := by unfold lastT; rw [if_pos hk, if_neg h0, if_neg h1]
            rw [hlt] at HLA
            have k0 : (x.kd == 0) = false := by simpa using h0
            have k1 : (x.kd == 1) = false := by simpa using h1
            clear hne hk hlt h0 h1
            generalize x.l.str = x0 at *
            generalize x.kd = kd at *
            go_wp2
            go_roundg gk
            case measure => omega
            case rel => exact ⟨i + 1, o, by omega, by go_num, rfl, HLA.out.symm, HX, HS⟩
      · have hne2 : (x.l.str.toList == s.toList) = false := by rw [hne]; simpa using hk
        have hlt : lastT s.data.toList o x = o := by unfold lastT; rw [if_neg hk]
        rw [hlt] at HLA
        clear hne hk hlt
        generalize x.l.str = x0 at *
        go_wp2
        go_roundg gk
        case measure => omega
        case rel => exact ⟨i + 1, o, by omega, by go_num, rfl, HLA.out.symm, HX, HS⟩
theorem walk (a0 : Option Addr) (len0 cap0 : Nat) (z0 : List ActP) (s : ByteArray) (w : World) (w0 : IsActs w a0 len0 z0) (w1 : s.size ≤ maxLen) :
    Calls Try.prog 6 #[.slice a0 len0 cap0, .string s] w fun e w' => e = .returned (.bool true) ∧ Below w.heap.size w w' := by
  cases h : largeB z0 with
  | true => exact many1 a0 len0 cap0 z0 s w w0 h
  | false =>
    rcases Nat.lt_or_ge 200 s.size with hs | hs
    · exact many2 a0 len0 cap0 z0 s w w0 h hs w1
    · exact few a0 len0 cap0 z0 s w w0 h hs

set_option maxRecDepth 100000 in
theorem lifted (os : Os) (started : os.Started) (H : Type) (enc : TypeId × Value → H) :
    ReturnsInHanded {} Try.checked os 6 .any (Rows.orderLastSpec.pre6 enc Try.prog Try.f6 Rows.orderLastRow.domain false) (Rows.orderLastSpec.post enc Try.prog Try.f6 false true false false) := by
  refine returnsInHanded_of_change (C := Try.checked) own started (by kernel_rfl) Try.func6
    (ChangeSpec.witness6 (enc := enc) (C := Try.checked) false ⟨#[], #[.slice none 0 0, .string ByteArray.empty], []⟩ 8 (by kernel_rfl) (by kernel_rfl) (by kernel_rfl) (by kernel_rfl)) ?_
  intro W base args ds gs before hval0 hW hcnd _
  have hval : ∀ (j : Nat) t v, Try.f6.params[j]? = some t → args[j]? = some v → Value.okWide Try.prog W .any base t v := hval0
  have hW' := hW
  obtain ⟨p, q, hA0, hV, rfl, hfz, hnd⟩ := hW
  have hA : DataW.TrodAll enc Try.prog W 0 (fun _ => true) true Try.f6.params.toList args.toList ds p := hA0
  rw [Try.params6] at hA hval
  obtain ⟨v0, vs0, d0, ds0, p0, q0, hargs, rfl, rfl, h0, r0⟩ := trodAll_cons hA
  obtain ⟨v1, vs1, d1, ds1, p1, q1, rfl, rfl, rfl, h1, r1⟩ := trodAll_cons r0
  obtain ⟨rfl, rfl, rfl⟩ := trodAll_nil r1
  obtain rfl : args = #[v0, v1] := by cases args; simp_all
  obtain ⟨rfl, rfl⟩ := trodVars_none hV
  obtain ⟨a0, len0, cap0, rfl⟩ := okWide_slice Try.underlying22 (hval 0 22 v0 rfl rfl)
  have k0 := h0
  have lt0 : ∀ x ∈ p0, x.block < W.heap.size := by obtain ⟨m, hm⟩ := k0; exact DataW.trod_lt m _ _ _ hm
  obtain ⟨z0, w0⟩ : ∃ zs, IsActs W a0 len0 zs := by
    obtain ⟨fuel, hf⟩ := h0
    exact isActs_of hf
  obtain ⟨a1, rfl, rfl, rfl, w1⟩ := open_string Try.underlying9 (hval 1 9 v1 rfl rfl) h1
  clear hA0 hval0
  refine (walk a0 len0 cap0 z0 a1 W w0 w1).mono fun e W' ⟨he, bel⟩ => ?_
  subst he
  exact ⟨_, rfl, _, _, _, [], _, [], hW', trodAll_mk1 (shut_bool Try.underlying4 _), (trodAll_cons_mk (Below.trod laidOut (by kernel_rfl) (of_decide_eq_true (by kernel_rfl)) k0 bel lt0) (trodAll_cons_mk (shut_string Try.underlying9 w1) trodAll_mk0)), rfl, bel.frame _, fun h => by cases h⟩

theorem over : Rows.orderLastRow.holds Try.pinned (OpenSpec.ofChange Rows.orderLastSpec) :=
  OpenClaim.holds_of_wide 6 Try.f6 rfl rfl rfl rfl rfl rfl rfl ⟨rfl, rfl, rfl, rfl, rfl⟩ rfl rfl rfl rfl rfl (by kernel_rfl) Try.func6 (by kernel_rfl)
    (of_decide_eq_true (by kernel_rfl)) (by unfold Func.isWrapper; first | (rw [if_pos (by decide +kernel)]; kernel_rfl) | (rw [if_neg (by decide +kernel)]; exact ⟨rfl, rfl⟩))
    (fun os started H enc _ => lifted os started H enc)

theorem proved : Rows.OrderLastSaid := over
#print axioms proved
end Go.Proofs.Ytfdifimakaiccaa.orderLast
