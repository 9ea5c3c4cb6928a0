/-
  Proved here: what chapter 15's own says of a call's shape.
  Conditions: a group's calls have no group; rows of at most 2^20 calls.
-/
import Derived.Test.YtimpigponjkfkaaGoodC15
namespace Go.Proofs.Ytimpigponjkfkaa
open Go Go.RowKit
set_option maxRecDepth 100000

def shF (x : Cal) : Int := if formF x = true then 0 else 1
set_option maxHeartbeats 1600000 in
theorem shapef_any (x : Cal) (b : Bool) (w : World) (h7 : (x.kd == 7) = false) : Calls Try.prog 38 #[.agg #[.int .i64 x.kd, .string x.key, .string x.val, .string x.to_, .slice x.ga x.gn x.gc], .bool b] w fun e w' => e = .returned (.int .i64 (shF x)) ∧ Below w.heap.size w w' := by
  have hz : formF x = formK x.kd x.key := rfl
  unfold shF
  rw [hz]
  clear hz
  generalize x.kd = kd at *
  generalize x.key = s1 at *
  generalize x.val = s2 at *
  generalize x.to_ = s3 at *
  generalize x.ga = x4 at *
  generalize x.gn = x5 at *
  generalize x.gc = x6 at *
  obtain ⟨z, hz⟩ : ∃ z : Int, (if formK kd s1 = true then 0 else 1) = z := ⟨_, rfl⟩
  have HZ := Lib.hid hz
  rw [hz]
  clear hz
  rcases kinds kd with rfl | rfl | rfl | rfl | rfl | rfl | rfl | rfl | ⟨k1, k2, k3, k4, k5, k6, k7, k8⟩
  case inr.inr.inr.inr.inr.inr.inl => cases h7
  all_goals
    go_enter Try.func38, Try.ntmps38
    go_wp2
    all_goals
      go_ret
      refine ⟨?_, (Below.refl _ _).alloc (Nat.le_refl _) _⟩
      rw [← HZ.out]
      unfold formK
      first | rfl | (simp [*])
set_option maxHeartbeats 800000 in
theorem shape7_in (x : Cal) (w : World) (h7 : x.kd = 7) : Calls Try.prog 38 #[.agg #[.int .i64 x.kd, .string x.key, .string x.val, .string x.to_, .slice x.ga x.gn x.gc], .bool true] w fun e w' => e = .returned (.int .i64 1) ∧ Below w.heap.size w w' := by
  rw [h7]
  clear h7
  generalize x.key = s1 at *
  generalize x.val = s2 at *
  generalize x.to_ = s3 at *
  generalize x.ga = x4 at *
  generalize x.gn = x5 at *
  generalize x.gc = x6 at *
  go_enter Try.func38, Try.ntmps38
  go_wp2
  go_ret
  exact ⟨rfl, (Below.refl _ _).alloc (Nat.le_refl _) _⟩
theorem memB_split (x : Cal) : memB x = ((x.kd == 2 || x.kd == 3 || x.kd == 4) && formF x) := by
  unfold memB chgB formF
  rcases kinds x.kd with h | h | h | h | h | h | h | h | ⟨k1, k2, k3, k4, k5, k6, k7, k8⟩
  all_goals simp [*]
theorem shB_iff {c x : Cal} (hc : memB c = true) (hx : memB x = true) : (chgB c && shB c x) = (!(c.kd == 4) && !(x.kd == 4) && (c.key.toList == x.key.toList)) := by
  have e : eqK x.key c.key = (c.key.toList == x.key.toList) := by unfold eqK; exact Bool.beq_comm
  unfold shB
  rw [e]
  rw [memB_split] at hc hx
  simp only [Bool.and_eq_true, Bool.or_eq_true, beq_iff_eq] at hc hx
  rcases hc.1 with (h | h) | h <;> rcases hx.1 with (g | g) | g <;> simp [chgB, h, g]
theorem shares_no {l : List Cal} {c : Cal} (h : ∀ t y, t < l.length → l[t]? = some y → (chgB c && shB c y) = false) : sharesB l c = false := by
  unfold sharesB
  cases hc : chgB c with
  | false => rfl
  | true =>
    rw [Bool.true_and, List.any_eq_false]
    intro y hy
    obtain ⟨t, ht⟩ := List.getElem?_of_mem hy
    have := h t y (List.getElem?_eq_some_iff.1 ht).1 ht
    rw [hc, Bool.true_and] at this
    rw [this]
    decide
theorem shares_yes {l : List Cal} {c y : Cal} {t : Nat} (ht : l[t]? = some y) (h : (chgB c && shB c y) = true) : sharesB l c = true := by
  unfold sharesB
  rw [Bool.and_eq_true] at h ⊢
  exact ⟨h.1, List.any_eq_true.2 ⟨y, List.mem_of_getElem? ht, h.2⟩⟩
theorem grpUp_at {G : List Cal} {i t : Nat} {y : Cal} (h : grpUp G i = true) (ht : t < i) (hy : G[t]? = some y) : memB y = true := by
  unfold grpUp at h
  have := List.all_eq_true.1 h t (List.mem_range.2 ht)
  rw [okAt_some hy, Bool.and_eq_true] at this
  exact this.1
/-- What a group's shape is. -/
def shG (G : List Cal) : Int := if grpB G = true then 0 else 1
set_option maxHeartbeats 3200000 in
theorem shape_grp (c : Cal) (G : List Cal) (w : World) (hG : Grp w c G) (h7 : c.kd = 7) : Calls Try.prog 38 #[.agg #[.int .i64 c.kd, .string c.key, .string c.val, .string c.to_, .slice c.ga c.gn c.gc], .bool false] w fun e w' => e = .returned (.int .i64 (shG G)) ∧ Below w.heap.size w w' := by
  obtain ⟨z, hz⟩ : ∃ z, shG G = z := ⟨_, rfl⟩
  rw [hz]
  obtain ⟨g, hg⟩ : ∃ g, w.heap.size = g := ⟨_, rfl⟩
  obtain ⟨w1, hw1⟩ : ∃ w1, w.alloc (.cells #[.int .i64 c.kd, .string c.key, .string c.val, .string c.to_, .slice c.ga c.gn c.gc] 24) = w1 := ⟨_, rfl⟩
  have HXg : Hid (CBox w1 g c) := by rw [← hw1, ← hg]; exact heap_alloc_new w _
  have HBg : Hid (Below g w w1) := by rw [← hw1, ← hg]; exact (Below.refl _ _).alloc (Nat.le_refl _) _
  have HGg : Hid (w.heap.size = g) := hg
  have hG1 := hG.below (w' := w1) (hg ▸ HBg.out)
  rw [hg]
  have HL : Hid (g ≤ w1.heap.size) := Nat.le_of_lt HXg.out.lt
  have HLG : Hid (g < w1.heap.size) := HXg.out.lt
  obtain ⟨c0, c1, c2, c3, c4⟩ := HXg.out.at_
  rw [h7] at *
  have hn := hG.len
  generalize c.gn = n at *
  rcases Nat.eq_zero_or_pos n with h0 | h0
  · have hzz : shG G = 1 := by unfold shG grpB; rw [hn, h0]; rfl
    obtain rfl : (1 : Int) = z := hzz.symm.trans hz
    subst h0
    clear hz hzz hG hG1 hn h7
    go_enter Try.func38, Try.ntmps38
    go_wp2
    go_ret
    exact ⟨rfl, HBg.out⟩
  rcases Nat.lt_or_ge 3 n with h3 | h3
  · have hzz : shG G = 1 := by unfold shG grpB; rw [hn, decide_eq_false (p := n ≤ 3) (by omega)]; simp
    obtain rfl : (1 : Int) = z := hzz.symm.trans hz
    have h1 : decide ((n : Int) < 1) = false := decide_eq_false (by omega)
    have h2 : decide ((3 : Int) < (n : Int)) = true := decide_eq_true (by omega)
    clear hz hzz hG hG1 hn h7
    go_enter Try.func38, Try.ntmps38
    go_wp2
    go_ret
    exact ⟨rfl, HBg.out⟩
  have HZ : Hid (z = if grpUp G n = true then 0 else 1) := by
    show z = _
    rw [← hz]
    unfold shG grpB
    rw [hn, decide_eq_true h0, decide_eq_true h3]
    rfl
  obtain ⟨b, off, hga, hbw, -⟩ := hG1.row.2 (by omega)
  have hR := hG1.row
  have hcap := hG1.cap
  clear hz hG hG1 h7
  generalize c.ga = A at *
  generalize c.gc = cap at *
  generalize c.key = q1 at *
  generalize c.val = q2 at *
  generalize c.to_ = q3 at *
  subst hga
  obtain ⟨B, hB⟩ : ∃ B, w1.heap.size = B := ⟨_, rfl⟩
  have HBS := Lib.hid hB
  have HR := Lib.hid hR
  have HN := Lib.hid hn
  have HLB : Hid (g ≤ B) := hB ▸ HL.out
  have HC4 : Hid (∀ W, Below B w1 W → W.cell? ⟨g, 4, none⟩ = some (.slice (some ⟨b, off, none⟩) n cap)) := fun W hW => (hW.cell (p := ⟨g, 4, none⟩) (hB ▸ HLG.out)).trans c4
  have HSF := Lib.hid (fun (x : Cal) (W : World) (h : (x.kd == 7) = false) => shapef_any x true W h)
  have h1 : decide ((n : Int) < 1) = false := decide_eq_false (by omega)
  have h2 : decide ((3 : Int) < (n : Int)) = false := decide_eq_false (by omega)
  clear hB hR hn hbw hcap HXg
  go_enter Try.func38, Try.ntmps38
  go_wp2
  go_loopg [5] n (fun gk s5 wx => ∃ i : Nat, i + gk = n ∧ s5 = .int .i64 i ∧ Hid (Below B w1 wx) ∧ Hid (grpUp G i = true))
  case atStart => exact ⟨0, by omega, rfl, Below.refl _ _, rfl⟩
  case round =>
    obtain ⟨i, hig, rfl, HW, HG⟩ := hrel
    have e4 := HC4.out wr HW.out
    clear hg hw1 c0 c1 c2 c3 c4
    cases gk with
    | zero =>
      obtain rfl : i = n := by omega
      have hii : ¬ (i : Int) < (i : Int) := by omega
      obtain rfl : (0 : Int) = z := by rw [HZ.out, HG.out]; rfl
      go_wp2
      go_ret
      exact ⟨rfl, HBg.out.trans (HW.out.mono HLB.out)⟩
    | succ go =>
      have hii : (i : Int) < (n : Int) := by omega
      have hgi := List.getElem?_eq_getElem (show i < G.length by have := HN.out; omega)
      generalize G[i]'(by have := HN.out; omega) = x at *
      obtain ⟨b', off', e', -, c0, c1, c2, c3, c4⟩ := callAt (HR.out.below (HBS.out.symm ▸ HW.out)) hgi
      cases e'
      have HOK : Hid (okAt G i = (memB x && !sharesB (G.take i) x)) := okAt_some hgi
      have HMS := Lib.hid (memB_split x)
      have HN1 : Hid (okAt G i = false → z = 1) := fun h => by rw [HZ.out, grpUp_no (show i < n by omega) h]; rfl
      have HBE : Hid (∀ W, Below B w1 W → Below g w W) := fun W hW => HBg.out.trans (hW.mono HLB.out)
      have HSX := Lib.hid (fun W h => HSF.out x W h)
      have HBB : Hid (B ≤ wr.heap.size) := by have := HW.out.size; have := HBS.out; show _ ≤ _; omega
      clear hgi
      have hk2 : x.kd = 2 ∨ x.kd = 3 ∨ x.kd = 4 ∨ (x.kd == 2 || x.kd == 3 || x.kd == 4) = false := by
        rcases kinds x.kd with h | h | h | h | h | h | h | h | h <;> simp [h]
      rcases hk2 with hk | hk | hk | hk
      case inr.inr.inr =>
        have hz1 : z = 1 := HN1.out (by rw [HOK.out, HMS.out, hk]; rfl)
        subst hz1
        simp only [Bool.or_eq_false_iff] at hk
        obtain ⟨⟨n2, n3⟩, n4⟩ := hk
        have m2 : (x.kd != 2) = true := by rw [bne, n2]; rfl
        have m3 : (x.kd != 3) = true := by rw [bne, n3]; rfl
        have m4 : (x.kd != 4) = true := by rw [bne, n4]; rfl
        generalize x.kd = x0 at *
        generalize x.key = x1 at *
        generalize x.val = x2 at *
        generalize x.to_ = x3 at *
        generalize x.ga = x4 at *
        generalize x.gn = x5 at *
        generalize x.gc = x6 at *
        go_wp2
        go_ret
        exact ⟨rfl, HBE.out _ HW.out⟩
      all_goals
        have HMF : Hid (memB x = formF x) := by show _ = _; rw [HMS.out, hk]; rfl
        have HKX : Hid (∀ y, memB x = true → memB y = true → (chgB x && shB x y) = (!(x.kd == 4) && !(y.kd == 4) && (x.key.toList == y.key.toList))) := fun y h h' => shB_iff h h'
        have h7 : (x.kd == 7) = false := by rw [hk]; rfl
        have HSY := Lib.hid (fun W => HSX.out W h7)
        have HGA : Hid (∀ t y, t < i → G[t]? = some y → memB y = true) := fun t y ht hy => grpUp_at HG.out ht hy
        have HSN := Lib.hid (fun (h : ∀ t y, t < (G.take i).length → (G.take i)[t]? = some y → (chgB x && shB x y) = false) => shares_no h)
        have HSS := Lib.hid (fun (t : Nat) (y : Cal) (ht : (G.take i)[t]? = some y) (h : (chgB x && shB x y) = true) => shares_yes ht h)
        have HGS : Hid (okAt G i = true → grpUp G (i + 1) = true) := fun h => by rw [grpUp_succ, HG.out, h]; rfl
        clear h7 HMS HSX HSF
        unfold shF at HSY
        cases hf : formF x with
        | false =>
          have hz1 : z = 1 := HN1.out (by rw [HOK.out, HMF.out, hf]; rfl)
          subst hz1
          rw [hf] at HSY
          clear hf HKX
          generalize x.kd = x0 at *
          generalize x.key = x1 at *
          generalize x.val = x2 at *
          generalize x.to_ = x3 at *
          generalize x.ga = x4 at *
          generalize x.gn = x5 at *
          generalize x.gc = x6 at *
          subst hk
          go_wp2_with fail
          refine (HSY.out _).mono ?_
          rintro e v ⟨rfl, hb⟩
          have HV : Hid (Below B w1 v) := HW.out.trans (hb.mono HBB.out)
          clear hb c0 c1 c2 c3 c4
          go_wp2
          go_ret
          exact ⟨rfl, HBE.out _ HV.out⟩
        | true =>
          have hmx : memB x = true := HMF.out.trans hf
          rw [hf] at HSY
          have HKY := Lib.hid (fun y => HKX.out y hmx)
          have HOK2 : Hid (okAt G i = !sharesB (G.take i) x) := by show _ = _; rw [HOK.out, hmx]; rfl
          have hxk : x.key.toList = x.key.toList := rfl
          clear hf hmx HKX HOK HMF hxk
          generalize sharesB (G.take i) x = sh at *
          obtain ⟨cs, hcs⟩ : ∃ cs : Cal → Bool, (fun y => chgB x && shB x y) = cs := ⟨_, rfl⟩
          have HCS : Hid (∀ y, (chgB x && shB x y) = cs y) := fun y => by rw [← hcs]
          simp only [HCS.out] at HKY HSN HSS
          clear hcs HCS
          generalize x.kd = x0 at *
          generalize x.key = x1 at *
          generalize x.val = x2 at *
          generalize x.to_ = x3 at *
          generalize x.ga = x4 at *
          generalize x.gn = x5 at *
          generalize x.gc = x6 at *
          subst hk
          go_wp2_with fail
          refine (HSY.out _).mono ?_
          rintro e v ⟨rfl, hb⟩
          have HV : Hid (Below B w1 v) := HW.out.trans (hb.mono HBB.out)
          have HRV : Hid (RC.Row v (some ⟨b, off, none⟩) G) := HR.out.below (HBS.out.symm ▸ HV.out)
          have HVN : Hid (∀ k, Below B w1 (v.drewN k)) := fun k => below_drewN HV.out k
          have e5 := HC4.out v HV.out
          obtain ⟨d0, d1⟩ : v.cell? ⟨b, off + i * 5, none⟩ = some (.int .i64 _) ∧ v.cell? ⟨b, off + i * 5 + 1, none⟩ = some (.string x1) := by
            have hB := hb
            have hlt : b < wr.heap.size := World.block_lt_of_cell? _ _ c0
            exact ⟨(hb.cell (p := ⟨b, off + i * 5, none⟩) hlt).trans c0, (hb.cell (p := ⟨b, off + i * 5 + 1, none⟩) hlt).trans c1⟩
          clear hb c0 c1 c2 c3 c4 e4
          go_wp2
          go_loopg [7] i (fun gk s7 wx => ∃ j k : Nat, j + gk = i ∧ s7 = .int .i64 j ∧ wx = v.drewN k ∧ Hid (∀ t y, t < j → G[t]? = some y → cs y = false))
          case atStart => exact ⟨0, 0, by omega, rfl, rfl, fun t y ht => by omega⟩
          case round =>
            obtain ⟨j, k, hjg, rfl, rfl, HJ⟩ := hrel
            cases gk with
            | zero =>
              obtain rfl : j = i := by omega
              have hjj : ¬ (j : Int) < (j : Int) := by omega
              have hs0 : sh = false := HSN.out (fun t y ht hy => by
                rw [List.getElem?_take] at hy
                split at hy
                · exact HJ.out t y (by omega) hy
                · cases hy)
              have HG2 := Lib.hid (HGS.out (by rw [HOK2.out, hs0]; rfl))
              have HV2 := Lib.hid (HVN.out k)
              clear hs0
              go_wp2
              go_roundg go
              case measure => omega
              case rel => exact ⟨j + 1, by omega, by go_num, HV2.out, HG2⟩
            | succ gk =>
              have hjj : (j : Int) < (i : Int) := by omega
              have hjn : (j : Int) < (n : Int) := by omega
              have hgj := List.getElem?_eq_getElem (show j < G.length by have := HN.out; omega)
              generalize G[j]'(by have := HN.out; omega) = y at *
              obtain ⟨b'', off'', e'', -, f0, f1, f2, f3, f4⟩ := callAt HRV.out hgj
              cases e''
              have hmy := HGA.out j y (by omega) hgj
              have hcy := HKY.out y hmy
              have HJ2 : Hid (cs y = false → ∀ t y', t < j + 1 → G[t]? = some y' → cs y' = false) := fun h t y' ht hy => by
                rcases Nat.lt_or_ge t j with hh | hh
                · exact HJ.out t y' hh hy
                · obtain rfl : t = j := by omega
                  rw [hgj] at hy
                  cases hy
                  exact h
              have HJ3 : Hid (cs y = true → z = 1) := fun h => HN1.out (by rw [HOK2.out, HSS.out j y (by rw [List.getElem?_take, if_pos (by omega)]; exact hgj) h]; rfl)
              have hk3 : y.kd = 2 ∨ y.kd = 3 ∨ y.kd = 4 := by
                rw [memB_split, Bool.and_eq_true] at hmy
                simpa [or_assoc] using hmy.1
              have HV2 := Lib.hid (HVN.out k)
              clear hmy hgj
              generalize cs y = cy at *
              generalize y.kd = y0 at *
              generalize y.key = y1 at *
              cases hky : (x1.toList == y1.toList)
              all_goals
                rw [hky] at hcy
                rcases hk3 with rfl | rfl | rfl
              all_goals
                cases cy
              all_goals first | (exact absurd hcy (by decide)) | skip
              all_goals clear hcy
              all_goals first
                | have HJ4 := Lib.hid (HJ2.out rfl)
                | obtain rfl : z = 1 := HJ3.out rfl
              all_goals
                clear HJ2 HJ3
                go_wp2
                go_quiet (fail)
                go_wp2
              all_goals first
                | (go_ret; exact ⟨rfl, HBE.out _ (below_drewN HV2.out _)⟩)
                | skip
              all_goals
                go_roundg gk
                case measure => omega
                case rel => exact ⟨j + 1, k + nq, by omega, by go_num, rfl, HJ4⟩

end Go.Proofs.Ytimpigponjkfkaa
