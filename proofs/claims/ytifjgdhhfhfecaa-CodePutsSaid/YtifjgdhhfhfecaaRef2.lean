/-
  Proved here: what chapter 2's own answers (wrong, Number, Lay, Put, Get, Zeros) give for each row of bytes.
  Conditions: rows of at most 2^30 bytes.
-/
import Derived.Test.YtifjgdhhfhfecaaCode
namespace Go.Proofs.Ytifjgdhhfhfecaa
open Go.RowKit

set_option maxHeartbeats 400000 in
theorem wrong_any (n : Nat) (hn : n ≤ 1073741824) (p k : Int) (w : World) :
    Calls Try.prog 23 #[.int .i64 n, .int .i64 p, .int .i64 k] w fun e w' => e = .returned (.int .i64 (chk n p k)) ∧ w = w' := by
  rcases Classical.em (k < 1 ∨ 8 < k) with h | h
  · have H := Lib.hid (chk_one (size := n) (at_ := p) h)
    have hk : decide (k < 1) = true ∨ decide (8 < k) = true := by simpa using h
    go_enter Try.func23, Try.ntmps23
    go_wp2
    all_goals first | omega | skip
    all_goals go_ret
    all_goals exact ⟨int_eq H.out.symm, rfl⟩
  · have hk1 : ¬ k < 1 := by omega
    have hk8 : ¬ 8 < k := by omega
    have hk1' : 1 ≤ k := by omega
    have hk8' : k ≤ 8 := by omega
    rcases Classical.em (p < 0 ∨ (n : Int) - k < p) with h2 | h2
    · have H := Lib.hid (chk_two h h2)
      clear h
      rcases Classical.em (p < 0) with h3 | h3
      · go_enter Try.func23, Try.ntmps23
        go_wp2
        all_goals first | omega | skip
        all_goals go_ret
        all_goals exact ⟨int_eq H.out.symm, rfl⟩
      · have h4 : 0 ≤ p := by omega
        rcases Classical.em ((n : Int) < p) with h5 | h5
        · go_enter Try.func23, Try.ntmps23
          go_wp2
          all_goals first | omega | skip
          all_goals go_ret
          all_goals exact ⟨int_eq H.out.symm, rfl⟩
        · have h6 : p ≤ n := by omega
          have h7 : (n : Int) - p < k := by omega
          go_enter Try.func23, Try.ntmps23
          go_wp2
          all_goals first | omega | skip
          all_goals go_ret
          all_goals exact ⟨int_eq H.out.symm, rfl⟩
    · have H := Lib.hid (chk_ok h h2)
      have h3 : ¬ p < 0 := by omega
      have h4 : 0 ≤ p := by omega
      have h5 : ¬ (n : Int) < p := by omega
      have h6 : p ≤ n := by omega
      have h7 : ¬ (n : Int) - p < k := by omega
      clear h
      go_enter Try.func23, Try.ntmps23
      go_wp2
      all_goals first | omega | skip
      all_goals go_ret
      all_goals exact ⟨int_eq H.out.symm, rfl⟩

theorem num_step (d x : Nat) (hd : d * 256 + x < 18446744073709551616) : IntKind.u64.wrap (IntKind.u64.wrap ((d : Int) * 256) + (x : Int)) = ((d * 256 + x : Nat) : Int) := by
  show ((((d : Int) * 256) % (18446744073709551616 : Int) + (x : Int)) % (18446744073709551616 : Int)) = _
  omega

set_option maxHeartbeats 400000 in
theorem number_any (A : Option Addr) (n c : Nat) (l : List UInt8) (hl : l.length = n) (h8 : n ≤ 8) (w : World) (hr : Row w A l) :
    Calls Try.prog 25 #[.slice A n c] w fun e w' => e = .returned (.int .u64 (le l : Nat)) ∧ w = w' := by
  have HL := Lib.hid hl
  have HRW := Lib.hid hr
  obtain ⟨R, hR⟩ : ∃ R, le l = R := ⟨_, rfl⟩
  rw [hR]
  have HR := Lib.hid hR
  clear hl hr hR
  go_enter Try.func25, Try.ntmps25
  go_wp2
  go_loopg [3, 4] n (fun gk s3 s4 wx => ∃ d : Nat, gk ≤ n ∧ s4 = .int .i64 ((gk : Int) - 1) ∧ s3 = .int .u64 d ∧ Hid (le (l.drop gk) = d) ∧ w = wx)
  case atStart => exact ⟨0, by omega, rfl, rfl, (by show le (l.drop n) = 0; rw [List.drop_of_length_le (by have := HL.out; omega)]; rfl), rfl⟩
  case round =>
    obtain ⟨d, hgn, rfl, rfl, HD, rfl⟩ := hrel
    cases gk with
    | zero =>
      obtain rfl : R = d := HR.out.symm.trans HD.out
      go_wp2
      go_ret
      exact ⟨rfl, rfl⟩
    | succ gk =>
      obtain ⟨b, off, rfl, hlt, hcl⟩ := HRW.out.2 (by have := HL.out; omega)
      have hcell := hcl gk (by have := HL.out; omega)
      have hdr : l.drop gk = l.getD gk 0 :: l.drop (gk + 1) := by
        rw [List.drop_eq_getElem_cons (by have := HL.out; omega)]
        simp [List.getD, List.getElem?_eq_getElem (show gk < l.length by have := HL.out; omega)]
      have HS : Hid (le (l.drop gk) = d * 256 + (l.getD gk 0).toNat) := by
        show _ = _
        rw [hdr, le, HD.out]
        omega
      have hlt := le_lt (l.drop gk)
      have hp : 256 ^ (l.drop gk).length ≤ 256 ^ 8 := Nat.pow_le_pow_right (by omega) (by simp; have := HL.out; omega)
      rw [pow8_eight] at hp
      have hstep := num_step d (l.getD gk 0).toNat (by rw [← HS.out]; omega)
      have hx := UInt8.toNat_lt (l.getD gk 0)
      obtain ⟨x, hxe⟩ : ∃ x, (l.getD gk 0).toNat = x := ⟨_, rfl⟩
      rw [hxe] at hcell HS hstep hx
      obtain ⟨y, hye⟩ : ∃ y, d * 256 + x = y := ⟨_, rfl⟩
      rw [hye] at hstep HS
      clear hxe hye hdr hlt hp hcl
      go_wp2
      go_roundg gk
      case measure => omega
      case rel => exact ⟨y, by omega, by go_num, rfl, HS, rfl⟩

/-- What Lay makes: a row of its own that holds the lowest n bytes of v. -/
def LaidTo (w : World) (n v : Nat) (e : Ending) (w' : World) : Prop :=
  ∃ V, e = .returned V ∧ w'.ownsRow w.heap.size 5 1 V n (enc (lay n v)) ∧ Below w.heap.size w w'

set_option maxHeartbeats 800000 in
theorem rlay_any (n v : Nat) (hn : n ≤ 8) (hv : v < 18446744073709551616) (w : World) :
    Calls Try.prog 24 #[.int .i64 n, .int .u64 v] w (LaidTo w n v) := by
  obtain ⟨B, hB⟩ : ∃ B, w.heap.size = B := ⟨_, rfl⟩
  have HB := Lib.hid hB
  clear hB
  go_enter Try.func24, Try.ntmps24
  go_wp2
  go_loopg [1, 5, 6] n (fun gk s1 s5 s6 wx => ∃ (i u : Nat) (V : Value), i + gk = n ∧ s6 = .int .i64 i ∧ s1 = .int .u64 u ∧ V = s5 ∧ u < 18446744073709551616 ∧ Hid (u = v / 256 ^ i) ∧ Hid (wx.ownsRow B 5 1 V i (enc (lay i v))) ∧ Hid (Below B w wx))
  case atStart => exact ⟨0, v, _, by omega, rfl, rfl, rfl, hv, (by show v = v / 256 ^ 0; simp), World.ownsRow_nil _ _ _ _, Below.refl _ _⟩
  case round =>
    obtain ⟨i, u, V, hin, rfl, rfl, rfl, hu, HU, HO, HW⟩ := hrel
    cases gk with
    | zero =>
      obtain rfl : i = n := by omega
      have hii : ¬ (i : Int) < (i : Int) := by omega
      go_wp2
      go_ret
      exact ⟨_, rfl, by rw [HB.out]; exact HO.out, by rw [HB.out]; exact HW.out⟩
    | succ gk =>
      have hii : (i : Int) < (n : Int) := by omega
      have hll := lay_len i v
      have hown2 : wr.ownsRow B 5 1 V (lay i v).length (enc (lay i v)) := by
        rw [hll]
        exact HO.out
      obtain ⟨V', w', hrun, ho', hb'⟩ := run_app_one wr B V (lay i v) (UInt8.ofNat u) hown2 (by omega) (by rw [← HB.out]; have := HW.out.size; rw [HB.out] at this ⊢; omega)
      rw [hll] at ho'
      have HU2 : Hid (u / 256 = v / 256 ^ (i + 1)) := by
        show _ = _
        rw [HU.out, Nat.div_div_eq_div_mul, Nat.pow_succ]
      have HO2 : Hid (w'.ownsRow B 5 1 V' (i + 1) (enc (lay (i + 1) v))) := by
        show World.ownsRow _ _ _ _ _ _ _
        rw [lay_snoc, ← HU.out]
        exact ho'
      have HW2 : Hid (Below B w w') := HW.out.trans hb'
      have hby : IntKind.u8.wrap (u : Int) = ((UInt8.ofNat u).toNat : Nat) := by
        rw [UInt8.toNat_ofNat']
        rfl
      have hux := UInt8.toNat_lt (UInt8.ofNat u)
      obtain ⟨x, hx⟩ : ∃ x, (UInt8.ofNat u).toNat = x := ⟨_, rfl⟩
      rw [hx] at hby hrun hux
      have HRUN := Lib.hid hrun
      clear hrun hown2 hll ho' hb' hx
      go_wp2_with (at_builtin; refine wpList_app rfl (.tmp 12) (.tmp 15) 22 rfl rfl rfl HRUN.out ?_)
      go_roundg gk
      case measure => omega
      case rel => exact ⟨i + 1, u / 256, V', by omega, by go_num, by go_num, rfl, by omega, HU2, HO2, HW2⟩

set_option maxHeartbeats 400000 in
theorem rput_bad (A : Option Addr) (n c : Nat) (hn : n ≤ 1073741824) (p k : Int) (v : Int) (h : chk n p k ≠ 0) (w : World) :
    Calls Try.prog 11 #[.slice A n c, .int .i64 p, .int .i64 k, .int .u64 v] w fun e w' => e = .returned (.tuple #[.slice none 0 0, .int .i64 (chk n p k)]) ∧ w = w' := by
  have HC := Lib.hid (wrong_any n hn p k w)
  obtain ⟨x, hx⟩ : ∃ x, chk n p k = x := ⟨_, rfl⟩
  rw [hx] at h HC ⊢
  have hne : (x != 0) = true := by simpa using h
  clear hx
  go_enter Try.func11, Try.ntmps11
  go_wp2_with fail
  refine HC.out.mono ?_
  rintro e w' ⟨rfl, rfl⟩
  go_wp2
  go_ret2
  exact ⟨rfl, rfl⟩

theorem num_ne {v k : Nat} (hf : fit v k = false) : (((le (lay k v) : Nat) : Int) != (v : Int)) = true := by
  rw [le_lay]
  have := fit_not hf
  have h2 := Nat.mod_lt v (y := 256 ^ k) (Nat.pow_pos (by omega))
  rw [bne_iff_ne]
  intro e
  have e2 : v % 256 ^ k = v := Int.ofNat.inj e
  omega
theorem num_eq {v k : Nat} (hf : fit v k = true) : (((le (lay k v) : Nat) : Int) != (v : Int)) = false := by
  rw [le_lay_of (fit_lt hf)]
  simp

set_option maxHeartbeats 400000 in
theorem rput_full (A : Option Addr) (n c : Nat) (hn : n ≤ 1073741824) (a k v : Nat) (hv : v < 18446744073709551616) (h : chk n a k = 0) (h1 : 1 ≤ k) (h8 : k ≤ 8) (hf : fit v k = false) (w : World) :
    Calls Try.prog 11 #[.slice A n c, .int .i64 a, .int .i64 k, .int .u64 v] w fun e w' => e = .returned (.tuple #[.slice none 0 0, .int .i64 11]) ∧ Below w.heap.size w w' := by
  have hc := wrong_any n hn a k w
  rw [h] at hc
  have HC := Lib.hid hc
  have HG := Lib.hid (rlay_any k v h8 hv w)
  have hne := num_ne hf
  obtain ⟨y, hy⟩ : ∃ y, le (lay k v) = y := ⟨_, rfl⟩
  rw [hy] at hne
  have HY := Lib.hid hy
  clear hc h hf hy
  go_enter Try.func11, Try.ntmps11
  go_wp2_with fail
  refine HC.out.mono ?_
  rintro e w' ⟨rfl, rfl⟩
  go_wp2_with fail
  refine HG.out.mono ?_
  rintro e w1 ⟨V, rfl, hown, hb⟩
  obtain ⟨C, cap, rfl, hrow⟩ := row_of_own hown (by rw [lay_len]; omega)
  have hnum := number_any C k cap (lay k v) (lay_len k v) h8 w1 hrow
  rw [HY.out] at hnum
  have HN := Lib.hid hnum
  have HB := Lib.hid hb
  clear hnum hb hrow hown
  go_wp2_with fail
  refine HN.out.mono ?_
  rintro e w' ⟨rfl, rfl⟩
  go_wp2
  go_ret2
  exact ⟨rfl, HB.out⟩

/-- What the chapter's own Put leaves where it does not refuse. -/
def RPutTo (w : World) (n : Nat) (r : List UInt8) (e : Ending) (w' : World) : Prop :=
  ∃ g cap, e = .returned (.tuple #[.slice (some ⟨g, 0, none⟩) n cap, .int .i64 0]) ∧ Row w' (some ⟨g, 0, none⟩) r ∧ Below w.heap.size w w'

set_option maxHeartbeats 800000 in
theorem rput_ok (A : Option Addr) (n c : Nat) (l : List UInt8) (hl : l.length = n) (a k v : Nat) (hv : v < 18446744073709551616) (h1 : 1 ≤ k) (h8 : k ≤ 8) (ha : a + k ≤ n) (hf : fit v k = true) (w : World) (hr : Row w A l) (hc0 : A = none → c = 0) :
    Calls Try.prog 11 #[.slice A n c, .int .i64 a, .int .i64 k, .int .u64 v] w (RPutTo w n (splice l a (lay k v))) := by
  have hn : n ≤ 1073741824 := by have := hr.1; omega
  have hc := wrong_any n hn a k w
  rw [chk_ok (by omega) (by omega)] at hc
  have HC := Lib.hid hc
  have HG := Lib.hid (rlay_any k v h8 hv w)
  have hne := num_eq hf
  obtain ⟨y, hy⟩ : ∃ y, le (lay k v) = y := ⟨_, rfl⟩
  rw [hy] at hne
  have HY := Lib.hid hy
  have HL := Lib.hid hl
  have HR := Lib.hid hr
  have HC0 := Lib.hid hc0
  clear hc hf hy hl hr hc0
  go_enter Try.func11, Try.ntmps11
  go_wp2_with fail
  refine HC.out.mono ?_
  rintro e w' ⟨rfl, rfl⟩
  go_wp2_with fail
  refine HG.out.mono ?_
  rintro e w1 ⟨V, rfl, hown, hb⟩
  obtain ⟨C, cap, rfl, hrow⟩ := row_of_own hown (by rw [lay_len]; omega)
  have hnum := number_any C k cap (lay k v) (lay_len k v) h8 w1 hrow
  rw [HY.out] at hnum
  have HN := Lib.hid hnum
  obtain ⟨v2, w2, hrun2, hown2, hg2, hat2⟩ := run_app w1 w1.heap.size 0 (.slice none 0 0) [] (World.ownsRow_nil _ _ _ _) A n c l HL.out (HR.out.below hb) HC0.out (by omega) (Nat.le_refl _)
  have hb2 : Below w1.heap.size w1 w2 := (Below.refl _ _).grown hg2 (Nat.le_refl _) (by simp [Value.ownBlock])
  rw [List.nil_append, Nat.zero_add] at hown2
  obtain ⟨g, cap2, rfl, hgb, hgl⟩ := hown2.form (by omega)
  obtain ⟨b, off, rfl, hblt, hbc⟩ := hrow.2 (by rw [lay_len]; omega)
  obtain ⟨B, hB⟩ : ∃ B, w1.heap.size = B := ⟨_, rfl⟩
  rw [hB] at hb2 hgb hown2 hblt
  have HRUN := Lib.hid hrun2
  have HO0 : Hid (w2.ownsRow B 5 1 (.slice (some ⟨g, 0, none⟩) n cap2) n (enc (laid l a k v 0))) := by
    show World.ownsRow _ _ _ _ _ _ _
    rw [laid_zero]
    exact hown2
  have HW0 : Hid (Below B w1 w2) := hb2
  have HBC := Lib.hid hbc
  have HB := Lib.hid hb
  have HBB := Lib.hid hB
  clear hnum hb hrow hown hrun2 hb2 hbc hown2 hg2 hat2 hB hgl
  go_wp2_with fail
  refine HN.out.mono ?_
  rintro e w' ⟨rfl, rfl⟩
  go_wp2_with (at_builtin; refine wpList_app rfl (.const (.slice none 0 0)) (.tmp 29) 22 rfl rfl rfl HRUN.out ?_)
  clear HRUN HN HC HG
  go_loopg [13] k (fun gk s13 wx => ∃ i : Nat, i + gk = k ∧ s13 = .int .i64 i ∧ Hid (wx.ownsRow B 5 1 (.slice (some ⟨g, 0, none⟩) n cap2) n (enc (laid l a k v i))) ∧ Hid (Below B w1 wx))
  case atStart => exact ⟨0, by omega, rfl, HO0, HW0⟩
  case round =>
    obtain ⟨i, hik, rfl, HO, HW⟩ := hrel
    have hlen : (laid l a k v i).length = n := by rw [laid_len l a k v i (by omega) (by have := HL.out; omega), HL.out]
    cases gk with
    | zero =>
      obtain rfl : i = k := by omega
      have hii : ¬ (i : Int) < (i : Int) := by omega
      obtain ⟨C2, c2, he, hrow⟩ := row_of_own HO.out (by omega)
      injection he with he1 he2 he3
      subst he1
      rw [laid_all] at hrow
      have HROW := Lib.hid hrow
      clear hrow hlen he2 he3
      go_wp2
      go_ret2
      exact ⟨g, cap2, rfl, HROW.out, HB.out.trans (Below.mono (by rw [HBB.out]; exact HW.out) HB.out.size)⟩
    | succ gk =>
      have hii : (i : Int) < (k : Int) := by omega
      have hcell1 : wr.cell? ⟨b, off + i, none⟩ = some (.int .u8 (((lay k v).getD i 0).toNat : Nat)) := (HW.out.cell (p := ⟨b, off + i, none⟩) hblt).trans (HBC.out i (by rw [lay_len]; omega))
      have hcell := HO.out.cellAt (a + i) (by omega)
      rw [enc_at _ _ (by omega)] at hcell
      have hfr := HO.out.frozenAt (a + i)
      have hst := (HO.out.stored (a + i) (.int .u8 ((((lay k v).getD i 0).toNat : Nat) : Int))).1
      rw [enc_set _ _ _ (UInt8.toNat_lt _), UInt8.ofNat_toNat, lay_at k v i (by omega), laid_set l a k v i (by omega) (by have := HL.out; omega)] at hst
      rw [lay_at k v i (by omega)] at hcell1
      obtain ⟨x, hx⟩ : ∃ x, (UInt8.ofNat (v / 256 ^ i)).toNat = x := ⟨_, rfl⟩
      rw [hx] at hst hcell1
      obtain ⟨z, hz⟩ : ∃ z, ((laid l a k v i).getD (a + i) 0).toNat = z := ⟨_, rfl⟩
      rw [hz] at hcell
      have HST := Lib.hid hst
      clear hst hx hz hlen
      go_wp2
      go_roundg gk
      case measure => omega
      case rel => exact ⟨i + 1, by omega, by go_num, HST.out, HW.out.setCell hgb _⟩

set_option maxHeartbeats 400000 in
theorem rget_bad (A : Option Addr) (n c : Nat) (hn : n ≤ 1073741824) (p k : Int) (h : chk n p k ≠ 0) (w : World) :
    Calls Try.prog 17 #[.slice A n c, .int .i64 p, .int .i64 k] w fun e w' => e = .returned (.tuple #[.int .u64 0, .int .i64 (chk n p k)]) ∧ w = w' := by
  have HC := Lib.hid (wrong_any n hn p k w)
  obtain ⟨x, hx⟩ : ∃ x, chk n p k = x := ⟨_, rfl⟩
  rw [hx] at h HC ⊢
  have hne : (x != 0) = true := by simpa using h
  clear hx
  go_enter Try.func17, Try.ntmps17
  go_wp2_with fail
  refine HC.out.mono ?_
  rintro e w' ⟨rfl, rfl⟩
  go_wp2
  go_ret2
  exact ⟨rfl, rfl⟩

theorem Row.cut {w : World} {b off : Nat} {l : List UInt8} (h : Row w (some ⟨b, off, none⟩) l) (a k : Nat) (hk : a + k ≤ l.length) : Row w (some ⟨b, off + a, none⟩) (cut l a k) := by
  have hl := cut_len l a k hk
  refine ⟨by have := h.1; omega, fun hpos => ?_⟩
  obtain ⟨b2, off2, e, hlt, hc⟩ := h.2 (by omega)
  injection e with e
  injection e with e1 e2
  subst e1 e2
  refine ⟨b, off + a, rfl, hlt, fun j hj => ?_⟩
  have := hc (a + j) (by omega)
  rw [← Nat.add_assoc] at this
  rw [this]
  congr 4
  simp only [Go.Proofs.Ytifjgdhhfhfecaa.cut, List.getD, List.getElem?_take_of_lt (show j < k by omega), List.getElem?_drop]

set_option maxHeartbeats 800000 in
theorem rget_ok (A : Option Addr) (n c : Nat) (l : List UInt8) (hl : l.length = n) (a k : Nat) (h1 : 1 ≤ k) (h8 : k ≤ 8) (ha : a + k ≤ n) (hnc : n ≤ c) (w : World) (hr : Row w A l) :
    Calls Try.prog 17 #[.slice A n c, .int .i64 a, .int .i64 k] w fun e w' => e = .returned (.tuple #[.int .u64 (le (cut l a k) : Nat), .int .i64 0]) ∧ w = w' := by
  have hn : n ≤ 1073741824 := by have := hr.1; omega
  have hc := wrong_any n hn a k w
  rw [chk_ok (by omega) (by omega)] at hc
  have HC := Lib.hid hc
  obtain ⟨b, off, rfl, hlt, hcl⟩ := hr.2 (by omega)
  have HN := Lib.hid (number_any (some ⟨b, off + a, none⟩) k (c - a) (cut l a k) (cut_len l a k (by omega)) h8 w (hr.cut a k (by omega)))
  obtain ⟨R, hR⟩ : ∃ R, le (cut l a k) = R := ⟨_, rfl⟩
  rw [hR] at HN ⊢
  have hca : ¬ c = a := by omega
  clear hc hcl hl hr hR
  go_enter Try.func17, Try.ntmps17
  go_wp2_with fail
  refine HC.out.mono ?_
  rintro e w' ⟨rfl, rfl⟩
  go_wp2_with fail
  rw [Nat.add_sub_cancel_left]
  refine HN.out.mono ?_
  rintro e w' ⟨rfl, rfl⟩
  go_wp2
  go_ret2
  exact ⟨rfl, rfl⟩

set_option maxHeartbeats 400000 in
theorem rzeros_no (A : Option Addr) (n c : Nat) (f t : Int) (h : f < 0 ∨ t < f ∨ (n : Int) < t) (w : World) :
    Calls Try.prog 19 #[.slice A n c, .int .i64 f, .int .i64 t] w fun e w' => e = .returned (.bool false) ∧ w = w' := by
  rcases Classical.em (f < 0) with h1 | h1
  · go_enter Try.func19, Try.ntmps19
    clear h
    go_wp2
    go_ret
    exact ⟨rfl, rfl⟩
  · rcases Classical.em (t < f) with h2 | h2
    · go_enter Try.func19, Try.ntmps19
      clear h
      go_wp2
      go_ret
      exact ⟨rfl, rfl⟩
    · have h3 : (n : Int) < t := by omega
      clear h
      go_enter Try.func19, Try.ntmps19
      go_wp2
      go_ret
      exact ⟨rfl, rfl⟩

set_option maxHeartbeats 800000 in
theorem rzeros_ok (A : Option Addr) (n c : Nat) (l : List UInt8) (hl : l.length = n) (a k : Nat) (hk : a + k ≤ n) (w : World) (hr : Row w A l) :
    Calls Try.prog 19 #[.slice A n c, .int .i64 a, .int .i64 (a + k : Nat)] w fun e w' => e = .returned (.bool (zer (cut l a k))) ∧ w = w' := by
  have hn : n ≤ 1073741824 := by have := hr.1; omega
  have HRW := Lib.hid hr
  have HL := Lib.hid hl
  obtain ⟨R, hR⟩ : ∃ R, zer (cut l a k) = R := ⟨_, rfl⟩
  rw [hR]
  have HR := Lib.hid hR
  obtain ⟨t, ht⟩ : ∃ t, a + k = t := ⟨_, rfl⟩
  rw [ht] at hk ⊢
  have HT := Lib.hid ht
  have ha1 : ¬ (a : Int) < 0 := by omega
  have ha2 : ¬ (t : Int) < (a : Int) := by omega
  have ha3 : ¬ (n : Int) < (t : Int) := by omega
  clear hR hl hr ht
  go_enter Try.func19, Try.ntmps19
  go_wp2
  go_loopg [7] k (fun gk s7 wx => ∃ i j : Nat, i + gk = k ∧ s7 = .int .i64 j ∧ Hid (j = a + i) ∧ Hid (zer (cut l a i) = true) ∧ w = wx)
  case atStart => exact ⟨0, a, by omega, rfl, rfl, (by show zer (cut l a 0) = true; simp [cut, zer]), rfl⟩
  case round =>
    obtain ⟨i, j, hik, rfl, HJ, HZ, rfl⟩ := hrel
    cases gk with
    | zero =>
      obtain rfl : i = k := by omega
      have hii : ¬ (j : Int) < (t : Int) := by have := HJ.out; have := HT.out; omega
      obtain rfl : R = true := HR.out.symm.trans HZ.out
      go_wp2
      go_ret
      exact ⟨rfl, rfl⟩
    | succ gk =>
      have hii : (j : Int) < (t : Int) := by have := HJ.out; have := HT.out; omega
      have hjn : j < n := by omega
      obtain ⟨b, off, rfl, hlt, hcl⟩ := HRW.out.2 (by have := HL.out; omega)
      have hcell := hcl j (by have := HL.out; omega)
      have HS : Hid (zer (cut l a (i + 1)) = (l.getD j 0 == 0)) := by
        show _ = _
        rw [HJ.out, cut_snoc l a i (by have := HL.out; have := HT.out; omega), zer, List.all_append]
        have := HZ.out
        rw [zer] at this
        rw [this]
        simp
      have HN : Hid ((l.getD j 0 == 0) = false → zer (cut l a k) = false) := by
        intro hh
        have hlen := cut_len l a k (by have := HL.out; have := HT.out; omega)
        refine zer_not (k := i) (by omega) ?_
        rw [← hh, HJ.out]
        congr 1
        simp only [cut, List.getD, List.getElem?_take_of_lt (show i < k by omega), List.getElem?_drop]
      have hz : (((l.getD j 0).toNat : Int) != 0) = !(l.getD j 0 == 0) := by
        rw [Bool.eq_iff_iff]
        simp [← UInt8.toNat_inj]
      obtain ⟨y, hy⟩ : ∃ y, (l.getD j 0 == 0) = y := ⟨_, rfl⟩
      rw [hy] at HS HN hz
      obtain ⟨x, hx⟩ : ∃ x, (l.getD j 0).toNat = x := ⟨_, rfl⟩
      rw [hx] at hcell hz
      have HJ2 : Hid (j + 1 = a + (i + 1)) := by show _ = _; rw [HJ.out]; omega
      clear hx hy hcl
      cases y with
      | false =>
        obtain rfl : R = false := HR.out.symm.trans (HN.out rfl)
        have hz2 : ((x : Int) != 0) = true := hz
        clear hz
        go_wp2
        go_ret
        exact ⟨rfl, rfl⟩
      | true =>
        have hz2 : ((x : Int) != 0) = false := hz
        clear hz
        go_wp2
        go_roundg gk
        case measure => omega
        case rel => exact ⟨i + 1, j + 1, by omega, by go_num, HJ2, HS, rfl⟩
end Go.Proofs.Ytifjgdhhfhfecaa
