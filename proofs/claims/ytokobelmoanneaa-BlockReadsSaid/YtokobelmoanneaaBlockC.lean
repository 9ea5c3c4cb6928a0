/-
    Proved here: what chapter 6's own May answers.
  Conditions: texts of at most 2,000 bytes.
-/
import Derived.Test.YtokobelmoanneaaBlockB
namespace Go.Proofs.Ytokobelmoanneaa
open Go Go.RowKit

theorem mayB_ref (b : BV) (hc : 0 ≤ b.cl ∧ b.cl ≤ 3) (hk : ¬ b.kd = 0) : mayB b = (numB b.id && (numB b.ver && (numB b.ep && (decide (b.key.size ≤ 16) && (decide (b.val.size ≤ 400) &&
    if b.kd = 1 then !decide (b.key.size = 0) && decide (b.cl = needN ((b.key.size : Int) + (b.val.size : Int)))
    else if b.kd = 2 then decide (b.key.size = 0) && decide (b.cl = needN ((b.key.size : Int) + (b.val.size : Int)))
    else if b.kd = 3 then decide (b.key.size = 0) && (decide (b.val.size = 0) && decide (b.cl = 0)) else false))))) := by
  rw [mayB, if_pos hc, if_neg hk, fillsB]
  have e : ((b.key.size + b.val.size : Nat) : Int) = (b.key.size : Int) + (b.val.size : Int) := by omega
  rw [e]
  split
  · rw [Bool.eq_iff_iff]; simp only [Bool.and_eq_true, decide_eq_true_eq, Bool.not_eq_true', decide_eq_false_iff_not, ne_eq]
    constructor <;> (intro h; simp_all)
  · split
    · rw [Bool.eq_iff_iff]; simp only [Bool.and_eq_true, decide_eq_true_eq]
      constructor <;> (intro h; simp_all)
    · split
      · rw [Bool.eq_iff_iff]; simp only [Bool.and_eq_true, decide_eq_true_eq]
        have h0 : needN 0 = 0 := rfl
        constructor
        · rintro ⟨⟨h1, h2⟩, ⟨⟨⟨h3, h4⟩, h5⟩, h6⟩, h7⟩
          rw [h1, h2] at h7
          exact ⟨h3, h4, h5, by omega, by omega, h2, h1, by rw [h7]; rfl⟩
        · rintro ⟨h3, h4, h5, h6, h7, h2, h1, h8⟩
          refine ⟨⟨h1, h2⟩, ⟨⟨⟨h3, h4⟩, h5⟩, h7⟩, ?_⟩
          rw [h1, h2, h8]
          rfl
      · simp
theorem isE_dec (l : List UInt8) : l.isEmpty = decide (l = []) := by cases l <;> simp
set_option maxHeartbeats 400000 in
theorem rmay_noclass (b : BV) (hc : ¬ (0 ≤ b.cl ∧ b.cl ≤ 3)) (w : World) : Calls Try.prog 13 #[b.agg] w fun e w' => e = .returned (.bool (mayB b)) ∧ Below w.heap.size w w' := by
  have HM : Hid (mayB b = false) := by show _ = _; rw [mayB, if_neg hc]
  rw [BV.agg]
  generalize mayB b = r at *
  obtain ⟨cl, kd, id, ver, ep, key, val⟩ := b
  simp only at HM hc ⊢
  rcases Classical.em (cl < 0) with h | h
  · clear hc
    go_enter Try.func13, Try.ntmps13
    go_wp2
    go_ret
    exact ⟨bool_eq HM.out.symm, (Below.refl _ _).alloc (Nat.le_refl _) _⟩
  · have h3 : 3 < cl := by omega
    clear hc
    go_enter Try.func13, Try.ntmps13
    go_wp2
    go_ret
    exact ⟨bool_eq HM.out.symm, (Below.refl _ _).alloc (Nat.le_refl _) _⟩
set_option maxHeartbeats 400000 in
theorem rmay_draft (b : BV) (hc : 0 ≤ b.cl ∧ b.cl ≤ 3) (hk : b.kd = 0) (w : World) : Calls Try.prog 13 #[b.agg] w fun e w' => e = .returned (.bool (mayB b)) ∧ Below w.heap.size w w' := by
  have HM : Hid (mayB b = isDraftB b) := by show _ = _; rw [mayB, if_pos hc, if_pos hk]
  rw [BV.agg]
  generalize mayB b = r at *
  obtain ⟨cl, kd, id, ver, ep, key, val⟩ := b
  simp only at HM hk hc ⊢
  subst hk
  obtain ⟨hc1, hc2⟩ := hc
  go_enter Try.func13, Try.ntmps13
  go_wp2
  all_goals
    go_ret
    refine ⟨bool_eq ?_, (Below.refl _ _).alloc (Nat.le_refl _) _⟩
    rw [HM.out]
    simp only [isDraftB, ← empty_iff]
    simp [*, isE_dec]
set_option maxHeartbeats 8000000 in
set_option maxRecDepth 100000 in
theorem rmay_more (b : BV) (hc : 0 ≤ b.cl ∧ b.cl ≤ 3) (hk : ¬ b.kd = 0) (h1 : b.key.size ≤ 2000) (h2 : b.val.size ≤ 2000) (w : World) : Calls Try.prog 13 #[b.agg] w fun e w' => e = .returned (.bool (mayB b)) ∧ Below w.heap.size w w' := by
  have HM := Lib.hid (mayB_ref b hc hk)
  have H1 := Lib.hid (fun W => rnumber_any b.id W)
  have H2 := Lib.hid (fun W => rnumber_any b.ver W)
  have H3 := Lib.hid (fun W => rnumber_any b.ep W)
  have H4 := Lib.hid (fun W => rneed_any ((b.key.size : Int) + (b.val.size : Int)) W)
  rw [BV.agg]
  generalize mayB b = r at *
  obtain ⟨cl, kd, id, ver, ep, key, val⟩ := b
  simp only at H1 H2 H3 H4 HM hk hc h1 h2 ⊢
  generalize needN ((key.size : Int) + (val.size : Int)) = q at *
  generalize numB id = r1 at *
  generalize numB ver = r2 at *
  generalize numB ep = r3 at *
  have hk0 : (kd == 0) = false := by simpa using hk
  obtain ⟨hc1, hc2⟩ := hc
  obtain ⟨ke, hke⟩ : ∃ ke, decide (key.size = 0) = ke := ⟨_, rfl⟩
  obtain ⟨ve, hve⟩ : ∃ ke, decide (val.size = 0) = ke := ⟨_, rfl⟩
  obtain ⟨k16, hk16⟩ : ∃ ke, decide (key.size ≤ 16) = ke := ⟨_, rfl⟩
  obtain ⟨v4, hv4⟩ : ∃ ke, decide (val.size ≤ 400) = ke := ⟨_, rfl⟩
  rw [hke, hve, hk16, hv4] at HM
  have hx : (ke = true → key.toList = []) ∧ (ke = false → ¬ key.toList = []) := ⟨fun h => empt_yes (hke.trans h), fun h => empt_no (hke.trans h)⟩
  have hy : (ve = true → val.toList = []) ∧ (ve = false → ¬ val.toList = []) := ⟨fun h => empt_yes (hve.trans h), fun h => empt_no (hve.trans h)⟩
  have hz : (k16 = true → (key.size : Int) ≤ 16) ∧ (k16 = false → (16 : Int) < key.size) := ⟨fun h => (by have := of_decide_eq_true (hk16.trans h); omega), fun h => (by have := of_decide_eq_false (hk16.trans h); omega)⟩
  have ht : (v4 = true → (val.size : Int) ≤ 400) ∧ (v4 = false → (400 : Int) < val.size) := ⟨fun h => (by have := of_decide_eq_true (hv4.trans h); omega), fun h => (by have := of_decide_eq_false (hv4.trans h); omega)⟩
  clear hke hve hk16 hv4 hk
  have hb : ∀ o, Below w.heap.size w (w.alloc o) := fun o => (Below.refl _ _).alloc (Nat.le_refl _) _
  have HB := Lib.hid hb
  clear hb
  rcases Classical.em (r1 = true ∧ r2 = true ∧ r3 = true) with ⟨rfl, rfl, rfl⟩ | hnn
  · rcases Classical.em (k16 = true ∧ v4 = true) with ⟨rfl, rfl⟩ | hmm
    · have hz1 := hz.1 rfl
      have ht1 := ht.1 rfl
      simp only [Bool.true_and] at HM
      clear hz ht
      rcases Classical.em (kd = 1) with hk1 | hk1
      · subst hk1
        rw [if_pos rfl] at HM
        clear hk0 hy
        cases ke
        all_goals
          first | (have hxx := hx.1 rfl) | (have hxx := hx.2 rfl; have hxe := isE_no hxx)
          clear hx
          go_enter Try.func13, Try.ntmps13
          go_wp2_with (first | (go_at_call 31; first | ((with_reducible refine (H1.out _).mono ?_); rintro e w' ⟨rfl, rfl⟩) | ((with_reducible refine (H2.out _).mono ?_); rintro e w' ⟨rfl, rfl⟩) | ((with_reducible refine (H3.out _).mono ?_); rintro e w' ⟨rfl, rfl⟩)) | (go_at_call 32; refine (H4.out _).mono ?_; rintro e w' ⟨rfl, rfl⟩))
          go_ret
          exact ⟨bool_eq (by rw [HM.out]; first | rfl | simp [*]), HB.out _⟩
      · rw [if_neg hk1] at HM
        have hk1' : (kd == 1) = false := by simpa using hk1
        rcases Classical.em (kd = 2) with hk2 | hk2
        · subst hk2
          rw [if_pos rfl] at HM
          clear hk0 hk1 hk1' hy
          cases ke
          all_goals
            first | (have hxx := hx.1 rfl) | (have hxx := hx.2 rfl; have hxe := isE_no hxx)
            clear hx
            go_enter Try.func13, Try.ntmps13
            go_wp2_with (first | (go_at_call 31; first | ((with_reducible refine (H1.out _).mono ?_); rintro e w' ⟨rfl, rfl⟩) | ((with_reducible refine (H2.out _).mono ?_); rintro e w' ⟨rfl, rfl⟩) | ((with_reducible refine (H3.out _).mono ?_); rintro e w' ⟨rfl, rfl⟩)) | (go_at_call 32; refine (H4.out _).mono ?_; rintro e w' ⟨rfl, rfl⟩))
            go_ret
            exact ⟨bool_eq (by rw [HM.out]; first | rfl | simp [*]), HB.out _⟩
        · rw [if_neg hk2] at HM
          have hk2' : (kd == 2) = false := by simpa using hk2
          rcases Classical.em (kd = 3) with hk3 | hk3
          · subst hk3
            rw [if_pos rfl] at HM
            clear hk0 hk1 hk1' hk2 hk2'
            cases ke <;> cases ve
            all_goals
              first | (have hxx := hx.1 rfl) | (have hxx := hx.2 rfl; have hxe := isE_no hxx)
              first | (have hyy := hy.1 rfl) | (have hyy := hy.2 rfl; have hye := isE_no hyy)
              clear hx hy
              go_enter Try.func13, Try.ntmps13
              go_wp2_with (first | (go_at_call 31; first | ((with_reducible refine (H1.out _).mono ?_); rintro e w' ⟨rfl, rfl⟩) | ((with_reducible refine (H2.out _).mono ?_); rintro e w' ⟨rfl, rfl⟩) | ((with_reducible refine (H3.out _).mono ?_); rintro e w' ⟨rfl, rfl⟩)) | (go_at_call 32; refine (H4.out _).mono ?_; rintro e w' ⟨rfl, rfl⟩))
              go_ret
              exact ⟨bool_eq (by rw [HM.out]; first | rfl | simp [*]), HB.out _⟩
          · rw [if_neg hk3] at HM
            have hk3' : (kd == 3) = false := by simpa using hk3
            clear hx hy hk1 hk2 hk3
            go_enter Try.func13, Try.ntmps13
            go_wp2_with (first | (go_at_call 31; first | ((with_reducible refine (H1.out _).mono ?_); rintro e w' ⟨rfl, rfl⟩) | ((with_reducible refine (H2.out _).mono ?_); rintro e w' ⟨rfl, rfl⟩) | ((with_reducible refine (H3.out _).mono ?_); rintro e w' ⟨rfl, rfl⟩)) | (go_at_call 32; refine (H4.out _).mono ?_; rintro e w' ⟨rfl, rfl⟩))
            go_ret
            exact ⟨bool_eq HM.out.symm, HB.out _⟩
    · have HR : Hid (r = false) := by
        have := HM.out
        show _ = _
        rw [this]
        cases k16 <;> cases v4 <;> simp_all
      clear HM hx hy
      cases k16 <;> cases v4
      all_goals first | (exact absurd ⟨rfl, rfl⟩ hmm) | skip
      all_goals
        clear hmm
        first | (have hz1 := hz.1 rfl) | (have hz1 := hz.2 rfl)
        first | (have ht1 := ht.1 rfl) | (have ht1 := ht.2 rfl)
        clear hz ht
        go_enter Try.func13, Try.ntmps13
        go_wp2_with (first | (go_at_call 31; first | ((with_reducible refine (H1.out _).mono ?_); rintro e w' ⟨rfl, rfl⟩) | ((with_reducible refine (H2.out _).mono ?_); rintro e w' ⟨rfl, rfl⟩) | ((with_reducible refine (H3.out _).mono ?_); rintro e w' ⟨rfl, rfl⟩)))
        go_ret
        exact ⟨bool_eq HR.out.symm, HB.out _⟩
  · have HR : Hid (r = false) := by
      have := HM.out
      show _ = _
      rw [this]
      cases r1 <;> cases r2 <;> cases r3 <;> simp_all
    clear HM hx hy hz ht
    cases r1 <;> cases r2 <;> cases r3
    all_goals first | (exact absurd ⟨rfl, rfl, rfl⟩ hnn) | skip
    all_goals
      clear hnn
      go_enter Try.func13, Try.ntmps13
      go_wp2_with (first | (go_at_call 31; first | ((with_reducible refine (H1.out _).mono ?_); rintro e w' ⟨rfl, rfl⟩) | ((with_reducible refine (H2.out _).mono ?_); rintro e w' ⟨rfl, rfl⟩) | ((with_reducible refine (H3.out _).mono ?_); rintro e w' ⟨rfl, rfl⟩)))
      go_ret
      exact ⟨bool_eq HR.out.symm, HB.out _⟩
theorem rmay_any (b : BV) (h1 : b.key.size ≤ 2000) (h2 : b.val.size ≤ 2000) (w : World) : Calls Try.prog 13 #[b.agg] w fun e w' => e = .returned (.bool (mayB b)) ∧ Below w.heap.size w w' := by
  rcases Classical.em (0 ≤ b.cl ∧ b.cl ≤ 3) with hc | hc
  · rcases Classical.em (b.kd = 0) with hk | hk
    · exact rmay_draft b hc hk w
    · exact rmay_more b hc hk h1 h2 w
  · exact rmay_noclass b hc w

end Go.Proofs.Ytokobelmoanneaa
