/-
  Proved here, joined: Awk16
  Conditions: as each part says.
-/
import Derived.Test.YtlghphccmgmomaaGreatJN47
import Derived.Test.YtlghphccmgmomaaGreatJN49
import Derived.Test.YtlghphccmgmomaaGreatJN48

/-
  Proved here: what the statements' own program on an arena does at first.
  Conditions: none.
-/
namespace Go.Proofs.YtlghphccmgmomaaGreat
open Go Go.RowKit
set_option maxRecDepth 100000

open Classical
/-! ### What the statements' own program does at first -/
theorem boAt {w : World} {A : Option Addr} {l : List Bool} (h : RBo.Row w A l) {i : Nat} {e : Bool} (hi : l[i]? = some e) : ∃ b off, A = some ⟨b, off, none⟩ ∧ b < w.heap.size ∧ w.cell? ⟨b, off + i, none⟩ = some (.bool e) := by
  obtain ⟨b, off, e1, hlt, hc⟩ := h.2 (by have := (List.getElem?_eq_some_iff.1 hi).1; omega)
  have := hc i e hi 0 _ rfl
  exact ⟨b, off, e1, hlt, by simpa [RBo] using this⟩
set_option maxHeartbeats 800000 in
theorem samebo_any (w : World) (A B : Option Addr) (n c d : Nat) (l : List Bool) (hl : l.length = n) (hr : RBo.Row w A l) (hs : RBo.Row w B l) :
    Calls Tryz.prog 47 #[.slice A n c, .slice B n d] w fun e w' => e = .returned (.bool true) ∧ ∃ k, w' = w.drewN k := by
  have hn : n ≤ 1048576 := by have := hr.1; omega
  have HR := Lib.hid hr
  have HS := Lib.hid hs
  have HL := Lib.hid hl
  have hnn : ((n : Int) != (n : Int)) = false := by simp
  clear hr hs hl
  go_enter Tryz.func47, Tryz.ntmps47
  go_wp2
  go_loopg [5] n (fun gk s5 wx => ∃ i k : Nat, i + gk = n ∧ s5 = .int .i64 i ∧ wx = w.drewN k)
  case atStart => exact ⟨0, 0, by omega, rfl, rfl⟩
  case round =>
    obtain ⟨i, k, hig, rfl, rfl⟩ := hrel
    cases gk with
    | zero =>
      obtain rfl : i = n := by omega
      have hii : ¬ (i : Int) < (i : Int) := by omega
      go_wp2
      go_ret
      exact ⟨rfl, k, rfl⟩
    | succ gk =>
      have hii : (i : Int) < (n : Int) := by omega
      have hil : i < l.length := by have := HL.out; omega
      obtain ⟨b1, o1, rfl, _, g0⟩ := boAt HR.out (List.getElem?_eq_getElem hil)
      obtain ⟨b2, o2, rfl, _, k0⟩ := boAt HS.out (List.getElem?_eq_getElem hil)
      generalize l[i] = x0 at *
      have h0 : (x0 == x0) = true := by simp
      have h1 : (x0 != x0) = false := by simp
      go_wp2
      go_quiet (fail)
      go_wp2
      go_roundg gk
      case measure => omega
      case rel => exact ⟨i + 1, k + nq, by omega, by go_num, rfl⟩
/-- A block's lines, where they lie. -/
theorem rdB_of {d : St} {k : Ln} {kind : Int} {x : BV} (ho : x.ok) (hm : mayB x = true) (h : rdUp d k.line (spanN k.cl) = linesL x) (hk : x.kd = kind) (hl : linkB k.line x = k) : rdB d k kind = some x := by
  unfold rdB
  rw [h, if_pos ⟨x, ho, hm, rfl⟩, read_lines hm ho, hl, hk]
  rw [if_pos (by rw [(eqLn_iff k k).2 rfl]; simp)]
theorem stlen16 (d : St) (x y : Int) (b : List UInt8) : (d.store x y b).1.length = d.1.length := by
  unfold St.store
  split
  · simp
  · rfl
theorem store_ln {d : St} {i : Nat} {b : List UInt8} (hi : i < d.1.length) (hb : b.length = 64) (hv : (clAt d.1 (i : Int)).v.length = 64) : lnI (d.store (i : Int) 0 b) (i : Int) = b := by
  unfold lnI
  rw [if_pos (by rw [stlen16]; omega), St.store_at d i i b hi (by omega), if_pos rfl]
  show (clAt d.1 (i : Int)).v.take 0 ++ b ++ (clAt d.1 (i : Int)).v.drop (0 + b.length) = b
  rw [List.drop_of_length_le (by omega)]
  simp
section
variable {b : Nat} {w w' : World} {col : Nat → Nat} {z : Pz} {s : Az}
def aw16C : Ch := ⟨2, ⟨#[97]⟩, ⟨#[49]⟩, false, Ln.zero, 2, 0⟩
def aw16A : Az := azN 10 1
def aw16B : Az := { aw16A with L := takeL aw16A.n aw16A.L 0 }
def aw16X : BV := ⟨0, 1, 1, 1, 1, ⟨#[97]⟩, ⟨#[49]⟩⟩
theorem aw16_take : takeV aw16A.n aw16A.L 0 = 2 ∧ takeE aw16A.n aw16A.L 0 = 0 := by decide +kernel
theorem aw16_pub : pubE aw16B 0 1 [aw16C] = 0 := by decide +kernel
theorem aw16_d : aw16A.d.1.length = 10 ∧ (clAt aw16A.d.1 2).v.length = 64 := by decide +kernel
theorem aw16_x : numL 1 0 0 [aw16C] 1 = [aw16X] ∧ mayB aw16X = true ∧ aw16X.ok := ⟨rfl, by decide +kernel, ⟨by decide, by decide, by decide⟩⟩
theorem aw16_s : (pubS aw16B 0 1 [aw16C]).T = [linkB 2 aw16X] ∧ (pubS aw16B 0 1 [aw16C]).Q = [] ∧ (pubS aw16B 0 1 [aw16C]).d = headD aw16A.d 2 aw16X := by
  have e : pubS aw16B 0 1 [aw16C] = prf aw16B 0 1 aw16C aw16X := by
    unfold pubS
    rw [if_pos aw16_pub]
    show prfN aw16B 0 (0 + 1) [aw16C] (numL 1 0 0 [aw16C] 1) 1 = _
    rw [aw16_x.1]
    rfl
  rw [e]
  refine ⟨rfl, rfl, rfl⟩
theorem aw16_shelf : shP (pubS aw16B 0 1 [aw16C]) = [⟨⟨#[97]⟩, ⟨#[49]⟩⟩] ∧ shQ (pubS aw16B 0 1 [aw16C]) = [] := by
  obtain ⟨h1, h2, h3⟩ := aw16_s
  obtain ⟨h4, h5⟩ := aw16_d
  obtain ⟨-, h6, h7⟩ := aw16_x
  unfold shP shQ
  rw [h1, h2, h3]
  refine ⟨?_, rfl⟩
  have hl : (linesL aw16X).length = 64 := by rw [linesL_len h6]; rfl
  have e : rdB (headD aw16A.d 2 aw16X) (linkB 2 aw16X) 1 = some aw16X := by
    refine rdB_of h7 h6 ?_ rfl rfl
    unfold headD
    rw [if_pos h6]
    show rdUp (aw16A.d.store ((2 : Nat) : Int) 0 ((linesL aw16X).take 64)) (2 : Int) 1 = _
    show [] ++ lnI (aw16A.d.store ((2 : Nat) : Int) 0 ((linesL aw16X).take 64)) ((2 : Nat) : Int) = _
    rw [List.take_of_length_le (Nat.le_of_eq hl), store_ln (i := 2) (by rw [h4]; decide) hl h5]
    rfl
  have e2 : pairK (headD aw16A.d 2 aw16X) (linkB 2 aw16X) = some ⟨⟨#[97]⟩, ⟨#[49]⟩⟩ := by
    unfold pairK
    rw [e]
    rfl
  rw [List.filterMap_cons_some e2]
  rfl
theorem take_next (h : Ar b w col z s) (c : Int) : Calls Tryz.prog 46 #[.pointer (some ⟨z.pp, 0, none⟩), .int .i64 c] w fun e w' => e = .returned (.tuple #[.int .i64 (takeV s.n s.L c), .int .i64 (takeE s.n s.L c)]) ∧ ArTo b w col z { s with L := takeL s.n s.L c } w' := by
  refine (take_any h.pl c).mono ?_
  rintro e w' ⟨rfl, hp, ht⟩
  exact ⟨rfl, h.setPool hp ht⟩
theorem rowNew {α : Type} (R : Rec α) (w : World) (x : α) : R.Row (w.alloc (.cells (R.cells x).toArray R.tE)) (some ⟨w.heap.size, 0, none⟩) [x] := by
  have ho : (w.alloc (.cells (R.cells x).toArray R.tE)).ownsRow w.heap.size R.tE R.k (.slice (some ⟨w.heap.size, 0, none⟩) 1 1) 1 (R.enc [x]) :=
    ⟨by rw [R.enc_len]; rfl, .inr ⟨w.heap.size, 1, (R.cells x).toArray, rfl, Nat.le_refl _, heap_alloc_new w _, Nat.le_refl _, by decide, by simp [R.klen], by
      have hk := R.klen x
      simp only [Nat.one_mul, Rec.enc, List.flatMap_cons, List.flatMap_nil, List.append_nil]
      exact List.take_of_length_le (Nat.le_of_eq hk)⟩⟩
  obtain ⟨-, A, c, e, -, -, hr, -, -⟩ := Rec.row_of_own (R := R) (l := [x]) ho (by show 1 ≤ 1048576; omega)
  cases e
  exact hr
noncomputable def aw16S : Az := pubS aw16B 0 1 [aw16C]
theorem aw16_publish (h : Ar b w col z aw16B) : Calls Tryz.prog 4 #[.pointer (some ⟨z.ap, 0, none⟩), .int .i64 0, .int .u64 1, .slice (some ⟨w.heap.size, 0, none⟩) 1 1] (w.alloc (.cells #[.int .i64 2, .string ⟨#[97]⟩, .string ⟨#[49]⟩, .bool false, .string ⟨#[]⟩, .int .u64 0, .int .u64 0, .int .i64 0, .int .i64 0, .int .i64 2, .int .i64 0] 31)) fun x w' =>
    ∃ g, x = .returned (.tuple #[.slice (some ⟨g, 0, none⟩) 1 1, .int .i64 0]) ∧ w'.ownsRow w.heap.size RBo.tE RBo.k (.slice (some ⟨g, 0, none⟩) 1 1) 1 (RBo.enc [false]) ∧ ArTo b w col z aw16S w' := by
  have hba : Below w.heap.size w (w.alloc (.cells #[.int .i64 2, .string ⟨#[97]⟩, .string ⟨#[49]⟩, .bool false, .string ⟨#[]⟩, .int .u64 0, .int .u64 0, .int .i64 0, .int .i64 0, .int .i64 2, .int .i64 0] 31)) := (Below.refl _ _).alloc (Nat.le_refl _) _
  have hr : RH.Row (w.alloc (.cells #[.int .i64 2, .string ⟨#[97]⟩, .string ⟨#[49]⟩, .bool false, .string ⟨#[]⟩, .int .u64 0, .int .u64 0, .int .i64 0, .int .i64 0, .int .i64 2, .int .i64 0] 31)) (some ⟨w.heap.size, 0, none⟩) [aw16C] := rowNew RH w aw16C
  have hp := publish_any (h.below hba) 0 1 (some ⟨w.heap.size, 0, none⟩) [aw16C] 1 1 rfl hr (by omega) (by decide) (fun c hc => by
    simp only [List.mem_cons, List.not_mem_nil, or_false] at hc
    subst hc
    exact ⟨by decide, by decide⟩) (by omega) (by decide) (by decide) (fun a e => by cases e; rw [h.nw _ (Nat.le_refl _)]; omega) (by decide) (by decide) (by decide) (by decide)
  refine hp.mono ?_
  rintro x w' ⟨-, h1, h2⟩
  obtain ⟨g, rfl, hg, ho⟩ := h1 aw16_pub
  exact ⟨g, rfl, own_mono ho hba.size, ArTo.since h hba h2⟩
theorem aw16_sh (h : Ar b w col z aw16S) : Calls Tryz.prog 7 #[.pointer (some ⟨z.ap, 0, none⟩)] w fun x w' =>
    ∃ A c B d, x = .returned (.agg #[.slice A 1 c, .slice B 0 d]) ∧ w'.ownsRow w.heap.size RP.tE RP.k (.slice A 1 c) 1 (RP.enc [⟨⟨#[97]⟩, ⟨#[49]⟩⟩]) ∧ Below w.heap.size w w' := by
  have hs : aw16S.T = [linkB 2 aw16X] ∧ aw16S.Q = [] := ⟨aw16_s.1, aw16_s.2.1⟩
  have hp : shP aw16S = [⟨⟨#[97]⟩, ⟨#[49]⟩⟩] ∧ shQ aw16S = [] := aw16_shelf
  have := shelf_any h (by rw [hs.1]; decide) (by rw [hs.2]; decide) (fun k hk => by
    rw [hs.1] at hk
    simp only [List.mem_cons, List.not_mem_nil, or_false] at hk
    subst hk
    exact ⟨by decide, by decide⟩) (fun k hk => by
    rw [hs.2] at hk
    cases hk)
  rw [hp.1, hp.2] at this
  refine this.mono ?_
  rintro x w' ⟨A, c, B, d, rfl, h1, h2, -, h4⟩
  exact ⟨A, c, B, d, rfl, h1, h4⟩
set_option maxHeartbeats 3200000 in
theorem awake16_any (w : World) : Calls Tryz.prog 18 #[] w fun e w' => e = .returned (.bool true) ∧ Below w.heap.size w w' := by
  have HN := Lib.hid (arnew_ok (b := 0) (w := w) (col := fun _ => 0) 10 1 (by omega) (by omega) (by omega) (by omega) (fun _ _ => rfl) (fun k => .inl (Nat.zero_le _)))
  have HZS := Lib.hid zero_shelf
  go_enter Tryz.func18, Tryz.ntmps18
  go_wp2_with fail
  refine HN.out.mono ?_
  rintro e w1 ⟨ap, c1, z, rfl, hap, h1, hb1, hc1, -⟩
  have HC1 : Hid (∀ k, k < w.heap.size → c1 k = 0) := hc1
  have HA1 : Hid (Ar 0 w1 c1 z aw16A) := h1
  have HB1 := Lib.hid hb1
  have HAP := Lib.hid hap
  have HPO := Lib.hid (arpool_get h1)
  have HTK := Lib.hid (take_next h1 0)
  rw [show (azN 10 1) = aw16A from rfl, aw16_take.1, aw16_take.2] at HTK
  generalize hz : z.ap = zap at *
  obtain rfl : zap = ap := HAP.out
  clear h1 hb1 hap hc1
  go_wp2_with fail
  refine HPO.out.mono ?_
  rintro e w' ⟨rfl, rfl⟩
  go_wp2_with fail
  refine HTK.out.mono ?_
  rintro e w2 ⟨rfl, h2⟩
  obtain ⟨⟨c2, z2, hA2, hz2, hc2, hn2⟩, hs2⟩ := h2
  have HPB := Lib.hid (aw16_publish (b := 0) hA2)
  rw [(base_eq hz2).1, hz] at HPB
  have HT2 : Hid (z2.base = z.base ∧ (∀ k, k < w1.heap.size → c2 k = c1 k) ∧ (∀ k, w1.heap.size ≤ k → c2 k = 0 ∨ (0 < c2 k ∧ c2 k ≤ 0 + 10)) ∧ Stay (fun k => 0 < c1 k ∧ c1 k ≤ 0 + 10) w1 w2) := ⟨hz2, hc2, hn2, hs2⟩
  clear hA2 hz2 hc2 hn2 hs2
  go_wp2_with fail
  refine HPB.out.mono ?_
  rintro e w4 ⟨g5, rfl, ho5, h4⟩
  have HO5 := Lib.hid ho5
  have HK4 : Hid (ArTo 0 w1 c1 z aw16S w4) := ArTo.trans HT2.out.1 HT2.out.2.2.2 HT2.out.2.1 HT2.out.2.2.1 h4
  have HSZ4 : Hid (w2.heap.size ≤ w4.heap.size) := h4.st.size
  obtain ⟨⟨c4, z4, hA4, hz4, -, -⟩, hs4⟩ := HK4.out
  have HB4 : Hid (Below w.heap.size w w4) := HB1.out.trans (hs4.below (g := w.heap.size) (fun k hk => by
    rcases Nat.lt_or_ge k w.heap.size with h | h
    · exfalso
      have := HC1.out k h
      omega
    · exact h) HB1.out.size)
  have HSH := Lib.hid (aw16_sh hA4)
  rw [(base_eq hz4).1, hz] at HSH
  clear ho5 h4 hA4 hz4 hs4
  go_wp2_with fail
  refine HSH.out.mono ?_
  rintro e w5 ⟨A, c, B, d, rfl, ho6, hb5⟩
  obtain ⟨g6, hg6⟩ : ∃ g, w5.heap.size = g := ⟨_, rfl⟩
  have HG6 := Lib.hid hg6
  have HO6 := Lib.hid ho6
  have HB5 := Lib.hid hb5
  have HO55 := Lib.hid (own_keep HO5.out hb5)
  clear ho6 hb5 hg6
  go_wp2_with (first
    | ((with_reducible show wpList _ _ _ (⟨some 7, .alloc _, _, _, _, _⟩ :: _) _ _); refine wpList_alloc_var (o := ⟨some 7, _, _, _, _, _⟩) rfl 42 rfl g6 HG6.out _ HZS.out ?_; intro v6 H6 B6)
    | ((with_reducible show wpList _ _ _ (⟨none, .store _ (.tmp 7) _, _, _, _, _⟩ :: _) _ _); refine wpList_store_whole (o := ⟨none, .store 42 (.tmp 7) (.tmp 32), _, _, _, _⟩) rfl _ _ _ rfl rfl g6 #[.slice A 1 c, .slice B 0 d] rfl rfl 42 _ H6.out size_shelf rfl (onesV _ _ _ _ _ _) ?_; intro v7 H7 B7; have HB67 : Hid (Below w5.heap.size w5 v7) := HG6.out.symm ▸ B6.out.trans B7.out)
    | fail)
  have hn7 : RBo.Row (v7.alloc (.cells #[.bool false] 4)) (some ⟨v7.heap.size, 0, none⟩) [false] := rowNew RBo v7 false
  have hb7 : Below v7.heap.size v7 (v7.alloc (.cells #[.bool false] 4)) := (Below.refl _ _).alloc (Nat.le_refl _) _
  obtain ⟨-, A5, c5, e5, -, -, hr5, -, -⟩ := Rec.row_of_own (R := RBo) (l := [false]) (own_keep (own_keep HO55.out HB67.out) hb7) (by decide)
  cases e5
  have HSB := Lib.hid (samebo_any _ _ _ 1 1 1 [false] rfl hr5 hn7)
  obtain ⟨-, A6, c6, e6, -, -, hr6, -, -⟩ := Rec.row_of_own (R := RP) (l := [⟨⟨#[97]⟩, ⟨#[49]⟩⟩]) (own_keep HO6.out HB67.out) (by decide)
  cases e6
  obtain ⟨bP, oP, rfl, hlP, q0, q1⟩ := pairAt hr6 (i := 0) rfl
  have q1' : v7.cell? ⟨bP, oP + 1, none⟩ = some (.string ⟨#[49]⟩) := by simpa using q1
  obtain ⟨s0, s1⟩ := cells2 H7.out
  have hl7 := lt_of_heap H7.out
  have dg : ¬ g6 = v7.heap.size := by omega
  have dp : ¬ bP = v7.heap.size := by omega
  have HFI : Hid (∀ k, Below w.heap.size w ((v7.alloc (.cells #[.bool false] 4)).drewN k)) := fun k => by
    have h5 : w.heap.size ≤ w4.heap.size := HB4.out.size
    exact below_drewN ((((HB4.out.trans (HB5.out.mono h5)).trans (HB67.out.mono (Nat.le_trans h5 HB5.out.size))).alloc (by have := HB5.out.size; have := HB67.out.size; omega) _)) k
  clear hn7 hb7 hr5 hr6 q0 q1
  refine HSB.out.mono ?_
  rintro e w9 ⟨rfl, k, rfl⟩
  go_wp2
  go_ret
  exact ⟨by simp, HFI.out k⟩
end

end Go.Proofs.YtlghphccmgmomaaGreat
