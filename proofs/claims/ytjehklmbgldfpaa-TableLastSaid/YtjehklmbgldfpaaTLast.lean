/-
Proved here: whatever list of acts and whatever key is handed in, fuseelaw12.TableLast returns true, and both read afterwards as they did.
  Conditions: none.
-/
import Derived.Test.YtjehklmbgldfpaaRows
import Derived.Test.YtjehklmbgldfpaaPlays12
import Derived.IntWalk
import Derived.WalkSmall
import Derived.Deep.QuietTactic
import Derived.BigQuiet
import Derived.WalkKit
import Derived.ProofKit
import Derived.OpenShut
import Derived.ShutString
import Derived.ChangeOld
import Derived.Below
namespace Go.Proofs.Ytjehklmbgldfpaa.tableLast
open Go.ChangeShapes Go.WideShapes Go.ChangeAt Go.RowKit
open Go.ChangeMaps (open_string shut_string)
set_option linter.unusedVariables false

theorem own : ownKnob Try.prog.godebug = none := by kernel_rfl
theorem laidOut : laidOutB Try.prog = true := by kernel_rfl

theorem guard_link : Try.prog.eqGuardType Try.prog.depth 33 = false := by kernel_rfl
/-- What the law keeps of a key: the link that was set last, if it was not dropped since. -/
def lastT (k : Ky) (o : Option Ln) (x : ActP) : Option Ln := if x.l.k = k then (if x.kd = 0 then some x.l else if x.kd = 1 then none else o) else o
theorem last_step {L : List Ln} (h : RisesK L) (k : Ky) (x : ActP) : getT (stepT L x) k = lastT k (getT L k) x := by
  unfold stepT lastT
  by_cases h0 : x.kd = 0
  · rw [if_pos h0, if_pos h0, getT_set h]
  · rw [if_neg h0, if_neg h0]
    by_cases h1 : x.kd = 1
    · rw [if_pos h1, if_pos h1, getT_drop h]
      by_cases hk : x.l.k = k
      · rw [if_pos hk, if_pos hk.symm]
      · rw [if_neg hk, if_neg (fun e => hk e.symm)]
    · rw [if_neg h1, if_neg h1]
      split <;> rfl
theorem last_take {xs : List ActP} {i : Nat} {x : ActP} (k : Ky) (h : xs[i]? = some x) (hr : RisesK (playT (xs.take i))) : getT (playT (xs.take (i + 1))) k = lastT k (getT (playT (xs.take i)) k) x := by
  rw [play_take h, last_step hr]
theorem play_rises (xs : List ActP) : RisesK (playT xs) := by
  have key : ∀ (xs : List ActP) (L : List Ln), RisesK L → RisesK (xs.foldl stepT L) := by
    intro xs
    induction xs with
    | nil => intro L h; exact h
    | cons x xs ih => intro L h; exact ih _ (stepT_rises h x)
  exact key xs [] risesK_nil
theorem str_eq (x y : ByteArray) : (x.toList == y.toList) = (x.data.toList == y.data.toList) := by
  rw [Lib.toList_data, Lib.toList_data]
set_option maxRecDepth 100000 in
set_option maxHeartbeats 1600000 in
theorem many1 (a0 : Option Addr) (len0 cap0 : Nat) (z0 : List ActP) (s : ByteArray) (w : World) (w0 : IsActs w a0 len0 z0) (hb : largeB z0 = true) :
    Calls Try.prog 5 #[.slice a0 len0 cap0, .string s] w fun e w' => e = .returned (.bool true) ∧ Below w.heap.size w w' := by
  have HAW := Lib.hid (awake12_any w)
  have HLG := Lib.hid (large_any (cap := cap0) w0)
  rw [hb] at HLG
  clear w0 hb
  go_enter Try.func5, Try.ntmps5
  go_wp2_with fail
  refine HLG.out.mono ?_
  rintro e w' ⟨rfl, rfl⟩
  go_wp2_with fail
  refine HAW.out.mono ?_
  rintro e w' ⟨rfl, hb⟩
  have HB := Lib.hid hb
  clear hb
  go_wp2
  go_ret
  exact ⟨rfl, HB.out⟩
set_option maxRecDepth 100000 in
set_option maxHeartbeats 1600000 in
theorem many2 (a0 : Option Addr) (len0 cap0 : Nat) (z0 : List ActP) (s : ByteArray) (w : World) (w0 : IsActs w a0 len0 z0) (hb : largeB z0 = false) (hs : 200 < s.size) (hm : s.size ≤ maxLen) :
    Calls Try.prog 5 #[.slice a0 len0 cap0, .string s] w fun e w' => e = .returned (.bool true) ∧ Below w.heap.size w w' := by
  have HAW := Lib.hid (awake12_any w)
  have HLG := Lib.hid (large_any (cap := cap0) w0)
  rw [hb] at HLG
  have h2 : (200 : Int) < (s.size : Int) := by omega
  clear w0 hb hs
  go_enter Try.func5, Try.ntmps5
  go_wp2_with fail
  refine HLG.out.mono ?_
  rintro e w' ⟨rfl, rfl⟩
  go_wp2_with fail
  refine HAW.out.mono ?_
  rintro e w' ⟨rfl, hb⟩
  have HB := Lib.hid hb
  clear hb
  go_wp2
  go_ret
  exact ⟨rfl, HB.out⟩
set_option maxRecDepth 100000 in
set_option maxHeartbeats 6400000 in
theorem few (a0 : Option Addr) (len0 cap0 : Nat) (z0 : List ActP) (s : ByteArray) (w : World) (w0 : IsActs w a0 len0 z0) (hb : largeB z0 = false) (hs : s.size ≤ 200) :
    Calls Try.prog 5 #[.slice a0 len0 cap0, .string s] w fun e w' => e = .returned (.bool true) ∧ Below w.heap.size w w' := by
  have HAW := Lib.hid (fun w1 => awake12_any w1)
  have HLG := Lib.hid (large_any (cap := cap0) w0)
  rw [hb] at HLG
  have HPL := Lib.hid (played_any (cap := cap0) w0 hb)
  have h2 : ¬ (200 : Int) < (s.size : Int) := by omega
  have hbig : s.size ≤ 1073741824 := by omega
  have HBIG := Lib.hid hbig
  have HA := Lib.hid w0
  have HE : Hid (z0.take len0 = z0) := by show _ = _; rw [← w0.1.1]; exact List.take_length
  have hlm : len0 ≤ 120 := by rw [← w0.1.1]; exact (large_no hb).1
  obtain ⟨g, hg⟩ : ∃ g, w.heap.size = g := ⟨_, rfl⟩
  have HG := Lib.hid hg
  rw [hg] at HPL ⊢
  have HZ := Lib.hid zero_link
  have hgu := guard_link
  clear w0 hb hg hs hbig
  go_enter Try.func5, Try.ntmps5
  go_wp2_with fail
  refine HLG.out.mono ?_
  rintro e w' ⟨rfl, rfl⟩
  go_wp2_with fail
  refine HPL.out.mono ?_
  rintro e w1 ⟨rfl, m, ht⟩
  have HT := Lib.hid ht
  obtain ⟨g1, hg1⟩ : ∃ g1, w1.heap.size = g1 := ⟨_, rfl⟩
  have HG1 := Lib.hid hg1
  clear ht hg1
  go_wp2_with (first
    | ((with_reducible show wpList _ _ _ (⟨some 6, .alloc _, _, _, _, _⟩ :: _) _ _); refine wpList_alloc_var (o := ⟨some 6, _, _, _, _, _⟩) rfl 33 rfl g1 HG1.out _ HZ.out ?_; intro w2 H2 B2)
    | fail)
  have HT2 := Lib.hid (HT.out.below (HG1.out.symm ▸ B2.out))
  have HGG : Hid (g ≤ g1) := by have := HT.out.gw; have := HG1.out; show g ≤ g1; omega
  have HOG : Hid (∀ k, tbOwn g m k → k < g1) := fun k hk => by have := HT.out.tb.lt hk; have := HG1.out; omega
  go_loopg [7, 8] len0 (fun gk s7 s8 wx => ∃ (i : Nat) (o : Option Ln), i + gk = len0 ∧ s8 = .int .i64 i ∧ s7 = .bool o.isSome ∧ Hid (o = getT (playT (z0.take i)) s.data.toList) ∧ Hid (LBox wx g1 (o.getD Ln.zero)) ∧ Hid (Stay (fun k => k = g1) w2 wx))
  case atStart => exact ⟨0, none, by omega, rfl, rfl, rfl, H2, Stay.refl _ _⟩
  case round =>
    obtain ⟨i, o, hig, rfl, rfl, HO, HX, HS⟩ := hrel
    have HT3 : Hid (Tg w g wr g m (playT z0)) := ⟨HT2.out.tb.stay HS.out (fun k hk e => by have := HOG.out k hk; omega), HT2.out.bel.trans (HS.out.below (fun k e => by rw [e]; exact HGG.out) HT2.out.gw), HT2.out.sz, HT2.out.own⟩
    have hgo : ∀ k, g1 ≤ k → ¬ tbOwn g m k := fun k hk e => by have := HOG.out k e; omega
    have HGO := Lib.hid hgo
    cases gk with
    | zero =>
      obtain rfl : i = len0 := by omega
      have hii : ¬ (i : Int) < (i : Int) := by omega
      have hx := HO.out
      rw [HE.out] at hx
      obtain ⟨L, hL⟩ : ∃ L, playT z0 = L := ⟨_, rfl⟩
      rw [hL] at hx HT3
      have hln : linkT L s.data.toList = o.getD Ln.zero := by rw [hx]; rfl
      have hhs : hasT L s.data.toList = o.isSome := by rw [hx]; rfl
      obtain ⟨x, hxe⟩ : ∃ x, o.getD Ln.zero = x := ⟨_, rfl⟩
      obtain ⟨b, hbe⟩ : ∃ b, o.isSome = b := ⟨_, rfl⟩
      rw [hxe] at hln HX
      rw [hbe] at hhs
      rw [hbe]
      have HGT : Hid (∀ w', Below wr.heap.size wr w' → Calls Try.prog 15 #[.pointer (some ⟨g, 0, none⟩), .string s] w' fun y w2 => y = .returned (.tuple #[.agg #[.string x.str, .int .u64 (x.id : Nat), .int .u64 (x.ver : Nat), .int .i64 x.line, .int .i64 x.cl], .bool b]) ∧ Below w'.heap.size w' w2) := fun w' hb => by
        have := tbget_any (HT3.out.below hb).tb s HBIG.out
        rw [hln, hhs] at this
        exact this
      have HDR : Hid (∀ w', Below wr.heap.size wr w' → Calls Try.prog 13 #[.pointer (some ⟨g, 0, none⟩), .string s] w' fun y w2 => y = .returned (.tuple #[.agg #[.string x.str, .int .u64 (x.id : Nat), .int .u64 (x.ver : Nat), .int .i64 x.line, .int .i64 x.cl], .bool b]) ∧ (∀ k, g1 ≤ k → k < w'.heap.size → w2.heap[k]? = w'.heap[k]?) ∧ ∃ m2, Tg w g w2 g m2 (dropT L s.data.toList)) := fun w' hb => by
        have ht4 := HT3.out.below hb
        have := tbdrop_any ht4.tb s HBIG.out
        rw [hln, hhs] at this
        refine this.mono ?_
        rintro y w2 ⟨h1, h2⟩
        refine ⟨h1, ?_, ht4.moved h2⟩
        obtain ⟨m', _, h4, _⟩ := h2
        exact fun k hk hl => h4.block k (HGO.out k hk) hl
      have HG0 : Hid (∀ w' m2, Tg w g w' g m2 (dropT L s.data.toList) → Calls Try.prog 15 #[.pointer (some ⟨g, 0, none⟩), .string s] w' fun y w2 => y = .returned (.tuple #[.agg #[.string ⟨#[]⟩, .int .u64 0, .int .u64 0, .int .i64 0, .int .i64 0], .bool false]) ∧ Below w'.heap.size w' w2) := fun w' m2 ht => by
        have h1 := tbget_any ht.tb s HBIG.out
        have h3 : getT (dropT L s.data.toList) s.data.toList = none := by rw [getT_drop HT3.out.tb.rises, if_pos rfl]
        unfold linkT hasT at h1
        rw [h3] at h1
        exact h1
      have HXL : Hid (wr.heap[g1]? = some (.cells #[.string x.str, .int .u64 (x.id : Nat), .int .u64 (x.ver : Nat), .int .i64 x.line, .int .i64 x.cl] 33 (0, 0))) := HX.out
      clear hx hL hln hhs hxe hbe HX HO HT HT2 hgo
      have hbb : (b == b) = true := by simp
      have hs0 : (x.str.toList == x.str.toList) = true := by simp
      have hs1 : ((x.id : Int) == (x.id : Int)) = true := by simp
      have hs2 : ((x.ver : Int) == (x.ver : Int)) = true := by simp
      have hs3 : (x.line == x.line) = true := by simp
      have hs4 : (x.cl == x.cl) = true := by simp
      generalize x.str = x0 at *
      generalize (x.id : Int) = x1 at *
      generalize (x.ver : Int) = x2 at *
      generalize x.line = x3 at *
      generalize x.cl = x4 at *
      go_wp2_with fail
      refine (HGT.out wr (Below.refl _ _)).mono ?_
      rintro e v1 ⟨rfl, hb1⟩
      have HB1 := Lib.hid hb1
      have HX1 := Lib.hid ((hb1.block g1 (lt_of_heap HXL.out)).trans HXL.out)
      obtain ⟨ga, hga⟩ : ∃ ga, v1.heap.size = ga := ⟨_, rfl⟩
      have HGA := Lib.hid hga
      have HLA : Hid (g1 < ga) := hga ▸ lt_of_heap HX1.out
      clear hb1 hga
      go_wp2_with (first
        | ((with_reducible show wpList _ _ _ (⟨some 9, .alloc _, _, _, _, _⟩ :: _) _ _); refine wpList_alloc_var (o := ⟨some 9, _, _, _, _, _⟩) rfl 33 rfl ga HGA.out _ HZ.out ?_; intro v2 H2a B2a)
        | ((with_reducible show wpList _ _ _ (⟨none, .store _ (.tmp 9) _, _, _, _, _⟩ :: _) _ _); refine wpList_store_whole (o := ⟨none, .store 33 (.tmp 9) (.tmp 63), _, _, _, _⟩) rfl _ _ _ rfl rfl ga #[.string x0, .int .u64 x1, .int .u64 x2, .int .i64 x3, .int .i64 x4] rfl rfl 33 _ H2a.out size_link rfl (onesL _ _ _ _ _) ?_; intro v3 H3a B3a)
        | fail)
      have HBA : Hid (Below ga v1 v3) := B2a.out.trans B3a.out
      have HB3 : Hid (Below wr.heap.size wr v3) := HB1.out.trans (HBA.out.mono (by have := HB1.out.size; have := HGA.out; omega))
      have HX3 := Lib.hid ((HBA.out.block g1 HLA.out).trans HX1.out)
      refine (HDR.out v3 HB3.out).mono ?_
      rintro e v4 ⟨rfl, hk4, m4, ht4⟩
      have HT4 := Lib.hid ht4
      have HX4 := Lib.hid ((hk4 g1 (Nat.le_refl _) (lt_of_heap HX3.out)).trans HX3.out)
      have HA4 := Lib.hid ((hk4 ga (Nat.le_of_lt HLA.out) (lt_of_heap H3a.out)).trans H3a.out)
      obtain ⟨gb, hgb⟩ : ∃ gb, v4.heap.size = gb := ⟨_, rfl⟩
      have HGB := Lib.hid hgb
      have HLX : Hid (g1 < gb) := hgb ▸ lt_of_heap HX4.out
      have HLB : Hid (ga < gb) := hgb ▸ lt_of_heap HA4.out
      clear hk4 ht4 hgb
      go_wp2_with (first
        | ((with_reducible show wpList _ _ _ (⟨some 11, .alloc _, _, _, _, _⟩ :: _) _ _); refine wpList_alloc_var (o := ⟨some 11, _, _, _, _, _⟩) rfl 33 rfl gb HGB.out _ HZ.out ?_; intro v5 H5a B5a)
        | ((with_reducible show wpList _ _ _ (⟨none, .store _ (.tmp 11) _, _, _, _, _⟩ :: _) _ _); refine wpList_store_whole (o := ⟨none, .store 33 (.tmp 11) (.tmp 69), _, _, _, _⟩) rfl _ _ _ rfl rfl gb #[.string x0, .int .u64 x1, .int .u64 x2, .int .i64 x3, .int .i64 x4] rfl rfl 33 _ H5a.out size_link rfl (onesL _ _ _ _ _) ?_; intro v6 H6a B6a)
        | fail)
      have HBB : Hid (Below gb v4 v6) := B5a.out.trans B6a.out
      have HT6 := Lib.hid (HT4.out.below (HGB.out.symm ▸ HBB.out))
      have HX6 := Lib.hid ((HBB.out.block g1 HLX.out).trans HX4.out)
      have HA6 := Lib.hid ((HBB.out.block ga HLB.out).trans HA4.out)
      refine (HG0.out v6 m4 HT6.out).mono ?_
      rintro e v7 ⟨rfl, hb7⟩
      have HT7 := Lib.hid (HT6.out.below hb7)
      have HX7 := Lib.hid ((hb7.block g1 (lt_of_heap HX6.out)).trans HX6.out)
      have HA7 := Lib.hid ((hb7.block ga (lt_of_heap HA6.out)).trans HA6.out)
      have HB7 := Lib.hid ((hb7.block gb (lt_of_heap H6a.out)).trans H6a.out)
      obtain ⟨gc, hgc⟩ : ∃ gc, v7.heap.size = gc := ⟨_, rfl⟩
      have HGC := Lib.hid hgc
      have HL1 : Hid (g1 < gc) := hgc ▸ lt_of_heap HX7.out
      have HL2 : Hid (ga < gc) := hgc ▸ lt_of_heap HA7.out
      have HL3 : Hid (gb < gc) := hgc ▸ lt_of_heap HB7.out
      clear hb7 hgc
      go_wp2_with (first
        | ((with_reducible show wpList _ _ _ (⟨some 13, .alloc _, _, _, _, _⟩ :: _) _ _); refine wpList_alloc_var (o := ⟨some 13, _, _, _, _, _⟩) rfl 33 rfl gc HGC.out _ HZ.out ?_; intro v8 H8a B8a)
        | (((with_reducible show wpList _ _ _ (⟨none, .store _ (.tmp 13) _, _, _, _, _⟩ :: _) _ _); refine wpList_store_whole (o := ⟨none, .store 33 (.tmp 13) (.tmp 75), _, _, _, _⟩) rfl _ _ _ rfl rfl gc #[.string ⟨#[]⟩, .int .u64 0, .int .u64 0, .int .i64 0, .int .i64 0] rfl rfl 33 _ H8a.out size_link rfl (onesL _ _ _ _ _) ?_; intro v9 H9a B9a); have HBC : Hid (Below gc v7 v9) := B8a.out.trans B9a.out; obtain ⟨p0, p1, p2, p3, p4⟩ := cellsL ((HBC.out.block g1 HL1.out).trans HX7.out); obtain ⟨q0, q1, q2, q3, q4⟩ := cellsL ((HBC.out.block ga HL2.out).trans HA7.out); obtain ⟨r0, r1, r2, r3, r4⟩ := cellsL ((HBC.out.block gb HL3.out).trans HB7.out))
        | fail)
      have HT9 := Lib.hid (HT7.out.below (HGC.out.symm ▸ HBC.out))
      refine (HAW.out v9).mono ?_
      rintro e v10 ⟨rfl, hb10⟩
      have HBE : Hid (Below g w v10) := HT9.out.bel.trans (hb10.mono HT9.out.gw)
      clear hb10 p0 p1 p2 p3 p4 q0 q1 q2 q3 q4 r0 r1 r2 r3 r4
      go_wp2
      go_ret
      exact ⟨rfl, HBE.out⟩
    | succ gk =>
      have hii : (i : Int) < (len0 : Int) := by omega
      obtain ⟨x, b0, off, hx, -, rfl, -, c0, c1, c2, c3, c4, c5, -, -⟩ := (HA.out.below (HG.out.symm ▸ HT3.out.bel)).at_ (i := i) (by omega)
      have hlast := last_take s.data.toList hx (play_rises _)
      rw [← HO.out] at hlast
      have hne := str_eq x.l.str s
      have hxk : x.l.str.data.toList = x.l.k := rfl
      rw [hxk] at hne
      have HLA := Lib.hid hlast
      have hb0 : b0 < g1 := by
        obtain ⟨_, _, _, _, _, e, h, _⟩ := HA.out.at_ (i := i) (by omega)
        cases e
        have := HG.out
        have := HGG.out
        omega
      have HKD : Hid (∀ w', Turns g1 g1 wr w' → w'.cell? ⟨b0, off + i * 8, none⟩ = some (.int .i64 x.kd)) := fun w' ht => (World.cell?_of_block (w := wr) (a := ⟨b0, off + i * 8, none⟩) (ht.block b0 (by omega) (by omega) (World.block_lt_of_cell? _ _ c0))).trans c0
      have HSX : Hid (∀ w', Turns g1 g1 wr w' → Stay (fun k => k = g1) w2 w') := fun w' ht => HS.out.trans ⟨ht.os, ht.tape, ht.output, ht.size, fun k hk hl => ht.block k hk hk hl⟩
      have HXL : Hid (∃ c : Array Value, c.size = 5 ∧ wr.heap[g1]? = some (.cells c 33 (0, 0))) := ⟨_, rfl, HX.out⟩
      have HL2 : Hid (∀ w' (y : Ln), w'.heap[g1]? = some (.cells #[.string y.str, .int .u64 (y.id : Nat), .int .u64 (y.ver : Nat), .int .i64 y.line, .int .i64 y.cl] 33 (0, 0)) → LBox w' g1 y) := fun w' y h => h
      clear hx hlast hxk hgo HT3 HT2 hb0
      by_cases hk : x.l.k = s.data.toList
      · have hne2 : (x.l.str.toList == s.toList) = true := by rw [hne, hk]; simp
        by_cases h0 : x.kd = 0
        · have hlt : lastT s.data.toList o x = some x.l := by unfold lastT; rw [if_pos hk, if_pos h0]
          rw [hlt] at HLA
          have k0 : (x.kd == 0) = true := by simpa using h0
          have k1 : (x.kd == 1) = false := by simp [h0]
          obtain ⟨cc, hcs, hch⟩ := HXL.out
          have HCH := Lib.hid hch
          have HLX := Lib.hid (fun w' => HL2.out w' x.l)
          clear hne hk hlt h0 hch
          generalize x.l = y at *
          generalize y.str = x0 at *
          generalize (y.id : Int) = x1 at *
          generalize (y.ver : Int) = x2 at *
          generalize y.line = x3 at *
          generalize y.cl = x4 at *
          generalize x.kd = kd at *
          go_wp2_with (first
            | ((with_reducible show wpList _ _ _ (⟨none, .store _ (.tmp 6) _, _, _, _, _⟩ :: _) _ _); refine wpList_store_only (o := ⟨none, .store 33 (.tmp 6) (.tmp 51), _, _, _, _⟩) rfl _ _ _ rfl rfl g1 #[.string x0, .int .u64 x1, .int .u64 x2, .int .i64 x3, .int .i64 x4] rfl rfl 33 _ HCH.out size_link hcs (onesL _ _ _ _ _) ?_; intro w5 H5 B5; have d0 := HKD.out w5 B5.out)
            | fail)
          go_roundg gk
          case measure => omega
          case rel => exact ⟨i + 1, some y, by omega, by go_num, rfl, HLA.out.symm, HLX.out _ H5.out, HSX.out _ B5.out⟩
        · by_cases h1 : x.kd = 1
          · have hlt : lastT s.data.toList o x = none := by unfold lastT; rw [if_pos hk, if_neg h0, if_pos h1]
            rw [hlt] at HLA
            have k0 : (x.kd == 0) = false := by simpa using h0
            have k1 : (x.kd == 1) = true := by simpa using h1
            obtain ⟨cc, hcs, hch⟩ := HXL.out
            have HCH := Lib.hid hch
            have HLX := Lib.hid (fun w' => HL2.out w' Ln.zero)
            clear hne hk hlt h0 h1 hch
            generalize x.l.str = x0 at *
            generalize x.kd = kd at *
            go_wp2_with (first
              | ((with_reducible show wpList _ _ _ (⟨none, .store _ (.tmp 6) _, _, _, _, _⟩ :: _) _ _); refine wpList_store_only (o := ⟨none, .store 33 (.tmp 6) (.tmp 58), _, _, _, _⟩) rfl _ _ _ rfl rfl g1 #[.string ⟨#[]⟩, .int .u64 0, .int .u64 0, .int .i64 0, .int .i64 0] rfl rfl 33 _ HCH.out size_link hcs (onesL _ _ _ _ _) ?_; intro w5 H5 B5; have d0 := HKD.out w5 B5.out)
              | fail)
            go_roundg gk
            case measure => omega
            case rel => exact ⟨i + 1, none, by omega, by go_num, rfl, HLA.out.symm, HLX.out _ H5.out, HSX.out _ B5.out⟩
          · have hlt : lastT s.data.toList o x = o := by unfold lastT; rw [if_pos hk, if_neg h0, if_neg h1]
            rw [hlt] at HLA
            have k0 : (x.kd == 0) = false := by simpa using h0
            have k1 : (x.kd == 1) = false := by simpa using h1
            clear hne hk hlt h0 h1
            generalize x.l.str = x0 at *
            generalize x.kd = kd at *
            go_wp2
            go_roundg gk
            case measure => omega
            case rel => exact ⟨i + 1, o, by omega, by go_num, rfl, HLA.out.symm, HX, HS⟩
      · have hne2 : (x.l.str.toList == s.toList) = false := by rw [hne]; simpa using hk
        have hlt : lastT s.data.toList o x = o := by unfold lastT; rw [if_neg hk]
        rw [hlt] at HLA
        clear hne hk hlt
        generalize x.l.str = x0 at *
        go_wp2
        go_roundg gk
        case measure => omega
        case rel => exact ⟨i + 1, o, by omega, by go_num, rfl, HLA.out.symm, HX, HS⟩
theorem walk (a0 : Option Addr) (len0 cap0 : Nat) (z0 : List ActP) (s : ByteArray) (w : World) (w0 : IsActs w a0 len0 z0) (w1 : s.size ≤ maxLen) :
    Calls Try.prog 5 #[.slice a0 len0 cap0, .string s] w fun e w' => e = .returned (.bool true) ∧ Below w.heap.size w w' := by
  cases h : largeB z0 with
  | true => exact many1 a0 len0 cap0 z0 s w w0 h
  | false =>
    rcases Nat.lt_or_ge 200 s.size with hs | hs
    · exact many2 a0 len0 cap0 z0 s w w0 h hs w1
    · exact few a0 len0 cap0 z0 s w w0 h hs

set_option maxRecDepth 100000 in
theorem lifted (os : Os) (started : os.Started) (H : Type) (enc : TypeId × Value → H) :
    ReturnsInHanded {} Try.checked os 5 .any (Rows.tableLastSpec.pre6 enc Try.prog Try.f5 Rows.tableLastRow.domain false) (Rows.tableLastSpec.post enc Try.prog Try.f5 false true false false) := by
  refine returnsInHanded_of_change (C := Try.checked) own started (by kernel_rfl) Try.func5
    (ChangeSpec.witness6 (enc := enc) (C := Try.checked) false ⟨#[], #[.slice none 0 0, .string ByteArray.empty], []⟩ 8 (by kernel_rfl) (by kernel_rfl) (by kernel_rfl) (by kernel_rfl)) ?_
  intro W base args ds gs before hval0 hW hcnd _
  have hval : ∀ (j : Nat) t v, Try.f5.params[j]? = some t → args[j]? = some v → Value.okWide Try.prog W .any base t v := hval0
  have hW' := hW
  obtain ⟨p, q, hA0, hV, rfl, hfz, hnd⟩ := hW
  have hA : DataW.TrodAll enc Try.prog W 0 (fun _ => true) true Try.f5.params.toList args.toList ds p := hA0
  rw [Try.params5] at hA hval
  obtain ⟨v0, vs0, d0, ds0, p0, q0, hargs, rfl, rfl, h0, r0⟩ := trodAll_cons hA
  obtain ⟨v1, vs1, d1, ds1, p1, q1, rfl, rfl, rfl, h1, r1⟩ := trodAll_cons r0
  obtain ⟨rfl, rfl, rfl⟩ := trodAll_nil r1
  obtain rfl : args = #[v0, v1] := by cases args; simp_all
  obtain ⟨rfl, rfl⟩ := trodVars_none hV
  obtain ⟨a0, len0, cap0, rfl⟩ := okWide_slice Try.underlying22 (hval 0 22 v0 rfl rfl)
  have k0 := h0
  have lt0 : ∀ x ∈ p0, x.block < W.heap.size := by obtain ⟨m, hm⟩ := k0; exact DataW.trod_lt m _ _ _ hm
  obtain ⟨z0, w0⟩ : ∃ zs, IsActs W a0 len0 zs := by
    obtain ⟨fuel, hf⟩ := h0
    exact isActs_of hf
  obtain ⟨a1, rfl, rfl, rfl, w1⟩ := open_string Try.underlying9 (hval 1 9 v1 rfl rfl) h1
  clear hA0 hval0
  refine (walk a0 len0 cap0 z0 a1 W w0 w1).mono fun e W' ⟨he, bel⟩ => ?_
  subst he
  exact ⟨_, rfl, _, _, _, [], _, [], hW', trodAll_mk1 (shut_bool Try.underlying4 _), (trodAll_cons_mk (Below.trod laidOut (by kernel_rfl) (of_decide_eq_true (by kernel_rfl)) k0 bel lt0) (trodAll_cons_mk (shut_string Try.underlying9 w1) trodAll_mk0)), rfl, bel.frame _, fun h => by cases h⟩

theorem over : Rows.tableLastRow.holds Try.pinned (OpenSpec.ofChange Rows.tableLastSpec) :=
  OpenClaim.holds_of_wide 5 Try.f5 rfl rfl rfl rfl rfl rfl rfl ⟨rfl, rfl, rfl, rfl, rfl⟩ rfl rfl rfl rfl rfl (by kernel_rfl) Try.func5 (by kernel_rfl)
    (of_decide_eq_true (by kernel_rfl)) (by unfold Func.isWrapper; first | (rw [if_pos (by decide +kernel)]; kernel_rfl) | (rw [if_neg (by decide +kernel)]; exact ⟨rfl, rfl⟩))
    (fun os started H enc _ => lifted os started H enc)

theorem proved : Rows.TableLastSaid := over
#print axioms proved
end Go.Proofs.Ytjehklmbgldfpaa.tableLast
