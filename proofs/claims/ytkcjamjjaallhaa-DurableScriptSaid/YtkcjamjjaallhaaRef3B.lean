/-
  Proved here: what chapter 3's own Flush, Back and Store answer and leave.
  Conditions: a device of at most 258 lines.
-/
import Derived.Test.YtkcjamjjaallhaaRef3A
namespace Go.Proofs.Ytkcjamjjaallhaa
open Go Go.RowKit

theorem up64 (x : Int) : wrap64 (x + 1) = up x := (IntWalk.i64_left (x + 1)).symm
theorem counted {T D : TypeId} {w : World} {p q : Nat} {st : List Cl} {cs : List Int} (h : Dv T D w p q st cs) (k j : Nat) (hj : k + 1 = j) (x : Int) (hx : cs.getD k 0 = x) : Dv T D (w.setCell ⟨p, j, none⟩ (.int .i64 (wrap64 (x + 1)))) p q st (bump cs k) := by
  subst hj hx
  rw [up64]
  exact h.setCount k _
def Cl.rback (c : Cl) : Cl := { c with p := c.v, on := false }
set_option maxHeartbeats 400000 in
theorem rflush_bad {w : World} {p q : Nat} {st : List Cl} {cs : List Int} (h : DvR w p q st cs) (x : Int) (hx : has st x = false) :
    Calls Try.prog 43 #[.pointer (some ⟨p, 0, none⟩), .int .i64 x] w fun e w' => e = .returned (.int .i64 2) ∧ w = w' := by
  have hf := rhas_any h x
  rw [hx] at hf
  have HF := Lib.hid hf
  clear h hx hf
  go_enter Try.func43, Try.ntmps43
  go_wp2_with fail
  refine HF.out.mono ?_
  rintro e w' ⟨rfl, rfl⟩
  go_wp2
  go_ret
  exact ⟨rfl, rfl⟩
set_option maxHeartbeats 800000 in
set_option maxRecDepth 100000 in
theorem rflush_ok {w : World} {p q : Nat} {st : List Cl} {cs : List Int} (h : DvR w p q st cs) {i : Nat} {c : Cl} (hc : st[i]? = some c) :
    Calls Try.prog 43 #[.pointer (some ⟨p, 0, none⟩), .int .i64 i] w fun e w' => e = .returned (.int .i64 0) ∧ DvR w' p q (st.set i c.flush) (bump cs 1) ∧ Turns p q w w' := by
  have hlt := (List.getElem?_eq_some_iff.1 hc).1
  have hok := oks_at h.oks hc
  have hf := rhas_any h (i : Int)
  rw [has_nat hlt] at hf
  have HF := Lib.hid hf
  have HV := Lib.hid (h.drew.range_v hc)
  have HX := Lib.hid hok.1
  have HD := Lib.hid h.drew
  have HT0 := Lib.hid (Turns.refl p q w).drew
  have HC := Lib.hid hc
  have HOV := Lib.hid (over_f hok c.v hok.1)
  have hok1 : ({ c with f := c.v } : Cl).ok := ⟨hok.1, hok.2.1, hok.1⟩
  have HON := Lib.hid (over_on hok1 true)
  have HOK1 := Lib.hid hok1
  have HC1 : Hid ((st.set i { c with f := c.v })[i]? = some { c with f := c.v }) := by show _ = _; rw [List.getElem?_set_self hlt]
  have HOK2 : Hid (({ c with f := c.v, on := true } : Cl).ok) := c.flush_ok hok
  have HFL : Hid (c.flush = { c with f := c.v, on := true }) := rfl
  obtain ⟨cap, hsl, _⟩ := h.slice
  obtain ⟨n, hn'⟩ : ∃ n, st.length = n := ⟨_, rfl⟩
  have HN := Lib.hid hn'
  rw [hn'] at hsl hlt
  have hin : (i : Int) < (n : Int) := by omega
  obtain ⟨X, hX⟩ : ∃ X, cs.getD 1 0 = X := ⟨_, rfl⟩
  have HCX := Lib.hid hX
  clear hX
  generalize c.flush = d at *
  clear h hc hok hok1 hf hn'
  go_enter Try.func43, Try.ntmps43
  go_wp2_with fail
  refine HF.out.mono ?_
  rintro e w' ⟨rfl, rfl⟩
  go_wp2_with fail
  refine wp_region_still_tail 15 (by kernel_rfl) (by kernel_rfl) ?_
  change wpStill _ _ w.drew _ _ _
  simp only [List.take_succ_cons, List.take_zero, List.drop_succ_cons, List.drop_zero]
  iterate 12 still_step
  refine wpStill_load_mid rfl 104 (.tmp 20) rfl q (i * 193) rfl (enc c.v) _ HV.out Try.underlying104 rfl (by rw [enc_len, HX.out]; exact size_arr) ?_
  go_simp
  iterate 2 still_step
  refine wpStill_nil ?_
  refine wpList_store_line (o := ⟨none, .store 104 (.tmp 23) (.tmp 21), _, _, _, _⟩) rfl _ _ _ rfl rfl HD.out HC.out (i * 193 + 128) 128 rfl (.agg (enc c.v).toArray) (enc c.v) rfl rfl rfl (by rw [enc_len, HX.out]; exact size_arr) (by rw [enc_len, HX.out]; omega) _ HOV.out HOK1.out enc_one ?_
  intro w1 HD1 HT1
  obtain ⟨cap1, hsl1, _⟩ := HD1.out.slice
  rw [List.length_set, HN.out] at hsl1
  clear hsl
  go_wp2_with (first
    | ((with_reducible show wpList _ _ _ (⟨none, .store 4 _ _, _, _, _, _⟩ :: _) _ _); refine wpList_store_line (o := ⟨none, .store 4 (.tmp 30) _, _, _, _, _⟩) rfl _ _ _ rfl rfl HD1.out HC1.out (i * 193 + 192) 192 rfl (.bool true) [.bool true] rfl rfl rfl size_bool (by decide) _ HON.out HOK2.out (by intro u hu; simp at hu; subst hu; rfl) ?_; intro w2 HD2 HT2; clear hsl1; have hct := (HD2.out.count 1 (by decide)).1; have hfz := (HD2.out.count 1 (by decide)).2; rw [HCX.out] at hct))
  go_ret
  refine ⟨rfl, ?_, ((HT0.out.trans HT1.out).trans HT2.out).setCell_p _ _⟩
  have := counted HD2.out 1 2 rfl X HCX.out
  rw [List.set_set] at this
  rw [HFL.out]
  exact this
set_option maxHeartbeats 400000 in
theorem rback_bad {w : World} {p q : Nat} {st : List Cl} {cs : List Int} (h : DvR w p q st cs) (x : Int) (hx : has st x = false) :
    Calls Try.prog 24 #[.pointer (some ⟨p, 0, none⟩), .int .i64 x] w fun e w' => e = .returned (.int .i64 2) ∧ w = w' := by
  have hf := rhas_any h x
  rw [hx] at hf
  have HF := Lib.hid hf
  clear h hx hf
  go_enter Try.func24, Try.ntmps24
  go_wp2_with fail
  refine HF.out.mono ?_
  rintro e w' ⟨rfl, rfl⟩
  go_wp2
  go_ret
  exact ⟨rfl, rfl⟩
set_option maxHeartbeats 800000 in
set_option maxRecDepth 100000 in
theorem rback_ok {w : World} {p q : Nat} {st : List Cl} {cs : List Int} (h : DvR w p q st cs) {i : Nat} {c : Cl} (hc : st[i]? = some c) :
    Calls Try.prog 24 #[.pointer (some ⟨p, 0, none⟩), .int .i64 i] w fun e w' => e = .returned (.int .i64 0) ∧ DvR w' p q (st.set i c.rback) (bump cs 3) ∧ Turns p q w w' := by
  have hlt := (List.getElem?_eq_some_iff.1 hc).1
  have hok := oks_at h.oks hc
  have hf := rhas_any h (i : Int)
  rw [has_nat hlt] at hf
  have HF := Lib.hid hf
  have HV := Lib.hid (h.drew.range_v hc)
  have HX := Lib.hid hok.1
  have HD := Lib.hid h.drew
  have HT0 := Lib.hid (Turns.refl p q w).drew
  have HC := Lib.hid hc
  have HOV := Lib.hid (over_p hok c.v hok.1)
  have hok1 : ({ c with p := c.v } : Cl).ok := ⟨hok.1, hok.1, hok.2.2⟩
  have HON := Lib.hid (over_on hok1 false)
  have HOK1 := Lib.hid hok1
  have HC1 : Hid ((st.set i { c with p := c.v })[i]? = some { c with p := c.v }) := by show _ = _; rw [List.getElem?_set_self hlt]
  have HOK2 : Hid (({ c with p := c.v, on := false } : Cl).ok) := ⟨hok.1, hok.1, hok.2.2⟩
  have HFL : Hid (c.rback = { c with p := c.v, on := false }) := rfl
  obtain ⟨cap, hsl, _⟩ := h.slice
  obtain ⟨n, hn'⟩ : ∃ n, st.length = n := ⟨_, rfl⟩
  have HN := Lib.hid hn'
  rw [hn'] at hsl hlt
  have hin : (i : Int) < (n : Int) := by omega
  obtain ⟨X, hX⟩ : ∃ X, cs.getD 3 0 = X := ⟨_, rfl⟩
  have HCX := Lib.hid hX
  clear hX
  generalize c.rback = d at *
  clear h hc hok hok1 hf hn'
  go_enter Try.func24, Try.ntmps24
  go_wp2_with fail
  refine HF.out.mono ?_
  rintro e w' ⟨rfl, rfl⟩
  go_wp2_with fail
  refine wp_region_still_tail 15 (by kernel_rfl) (by kernel_rfl) ?_
  change wpStill _ _ w.drew _ _ _
  simp only [List.take_succ_cons, List.take_zero, List.drop_succ_cons, List.drop_zero]
  iterate 12 still_step
  refine wpStill_load_mid rfl 104 (.tmp 20) rfl q (i * 193) rfl (enc c.v) _ HV.out Try.underlying104 rfl (by rw [enc_len, HX.out]; exact size_arr) ?_
  go_simp
  iterate 2 still_step
  refine wpStill_nil ?_
  refine wpList_store_line (o := ⟨none, .store 104 (.tmp 23) (.tmp 21), _, _, _, _⟩) rfl _ _ _ rfl rfl HD.out HC.out (i * 193 + 64) 64 rfl (.agg (enc c.v).toArray) (enc c.v) rfl rfl rfl (by rw [enc_len, HX.out]; exact size_arr) (by rw [enc_len, HX.out]; omega) _ HOV.out HOK1.out enc_one ?_
  intro w1 HD1 HT1
  obtain ⟨cap1, hsl1, _⟩ := HD1.out.slice
  rw [List.length_set, HN.out] at hsl1
  clear hsl
  go_wp2_with (first
    | ((with_reducible show wpList _ _ _ (⟨none, .store 4 _ _, _, _, _, _⟩ :: _) _ _); refine wpList_store_line (o := ⟨none, .store 4 (.tmp 30) _, _, _, _, _⟩) rfl _ _ _ rfl rfl HD1.out HC1.out (i * 193 + 192) 192 rfl (.bool false) [.bool false] rfl rfl rfl size_bool (by decide) _ HON.out HOK2.out (by intro u hu; simp at hu; subst hu; rfl) ?_; intro w2 HD2 HT2; clear hsl1; have hct := (HD2.out.count 3 (by decide)).1; have hfz := (HD2.out.count 3 (by decide)).2; rw [HCX.out] at hct))
  go_ret
  refine ⟨rfl, ?_, ((HT0.out.trans HT1.out).trans HT2.out).setCell_p _ _⟩
  have := counted HD2.out 3 4 rfl X HCX.out
  rw [List.set_set] at this
  rw [HFL.out]
  exact this
theorem store_len {c : Cl} (h : c.ok) (a k : Nat) (l : List UInt8) (ha : a + l.length ≤ 64) : (c.store a (l.take k)).v.length = 64 := by
  have := h.1
  simp [Cl.store]
  omega
theorem store_step (c : Cl) (h : c.ok) (a k : Nat) (l : List UInt8) (hk : k < l.length) (ha : a + l.length ≤ 64) :
    ({ (c.store a (l.take k)) with v := (c.store a (l.take k)).v.take (a + k) ++ [l.getD k 0] ++ (c.store a (l.take k)).v.drop (a + k + 1) } : Cl) = c.store a (l.take (k + 1)) := by
  have hv := h.1
  have h1 : (c.v.take a).length = a := by rw [List.length_take]; omega
  have h2 : (l.take k).length = k := by rw [List.length_take]; omega
  simp only [Cl.store, h2]
  congr 1
  have h3 : (c.v.take a ++ l.take k).length = a + k := by rw [List.length_append]; omega
  rw [List.take_left' h3, show a + k + 1 = (c.v.take a ++ l.take k).length + 1 by omega, List.drop_length_add_append, List.drop_drop]
  rw [List.take_succ_eq_append_getElem hk, List.length_append, h2]
  simp [List.getD, List.getElem?_eq_getElem hk, Nat.add_assoc]
theorem rstore_bad {w : World} {p q : Nat} {st : List Cl} {cs : List Int} (h : DvR w p q st cs) (x y : Int) (v : Value) (hx : has st x = false) :
    Calls Try.prog 22 #[.pointer (some ⟨p, 0, none⟩), .int .i64 x, .int .i64 y, v] w fun e w' => e = .returned (.int .i64 2) ∧ w = w' := by
  have hf := rhas_any h x
  rw [hx] at hf
  have HF := Lib.hid hf
  clear h hx hf
  go_enter Try.func22, Try.ntmps22
  go_wp2_with fail
  refine HF.out.mono ?_
  rintro e w' ⟨rfl, rfl⟩
  go_wp2
  go_ret
  exact ⟨rfl, rfl⟩
set_option maxHeartbeats 400000 in
theorem rstore_off {w : World} {p q : Nat} {st : List Cl} {cs : List Int} (h : DvR w p q st cs) (x y : Int) (B : Option Addr) (m k : Nat) (_hm : m ≤ 1073741824) (hx : has st x = true) (hy : y < 0 ∨ 64 - (m : Int) < y) :
    Calls Try.prog 22 #[.pointer (some ⟨p, 0, none⟩), .int .i64 x, .int .i64 y, .slice B m k] w fun e w' => e = .returned (.int .i64 2) ∧ w = w' := by
  have hf := rhas_any h x
  rw [hx] at hf
  have HF := Lib.hid hf
  clear h hx hf
  rcases Classical.em (y < 0) with h1 | h1
  · clear hy
    go_enter Try.func22, Try.ntmps22
    go_wp2_with fail
    refine HF.out.mono ?_
    rintro e w' ⟨rfl, rfl⟩
    go_wp2
    go_ret
    exact ⟨rfl, rfl⟩
  · rcases Classical.em (64 < y) with h2 | h2
    · clear hy
      go_enter Try.func22, Try.ntmps22
      go_wp2_with fail
      refine HF.out.mono ?_
      rintro e w' ⟨rfl, rfl⟩
      go_wp2
      go_ret
      exact ⟨rfl, rfl⟩
    · have h3 : 64 - y < (m : Int) := by omega
      clear hy
      go_enter Try.func22, Try.ntmps22
      go_wp2_with fail
      refine HF.out.mono ?_
      rintro e w' ⟨rfl, rfl⟩
      go_wp2
      go_ret
      exact ⟨rfl, rfl⟩
set_option maxHeartbeats 1600000 in
set_option maxRecDepth 100000 in
theorem rstore_ok {w : World} {p q : Nat} {st : List Cl} {cs : List Int} (h : DvR w p q st cs) {i : Nat} {c : Cl} (hc : st[i]? = some c) (a : Nat) (B : Option Addr) (m k : Nat) (l : List UInt8) (hl : l.length = m) (ha : a + m ≤ 64) (hB : Row w B l) (hne : 0 < l.length → ∀ x, B = some x → x.block ≠ p ∧ x.block ≠ q) :
    Calls Try.prog 22 #[.pointer (some ⟨p, 0, none⟩), .int .i64 i, .int .i64 a, .slice B m k] w fun e w' => e = .returned (.int .i64 0) ∧ DvR w' p q (st.set i (c.store a l)) (bump cs 0) ∧ Turns p q w w' := by
  have hlt := (List.getElem?_eq_some_iff.1 hc).1
  have hok := oks_at h.oks hc
  have hf := rhas_any h (i : Int)
  rw [has_nat hlt] at hf
  have HF := Lib.hid hf
  have HD0 : Hid (DvR w p q (st.set i (c.store a (l.take 0))) cs) := by
    have e : c.store a (l.take 0) = c := by cases c; simp [Cl.store]
    show Dv _ _ _ _ _ _ _
    rw [e, set_same hc]
    exact h
  have HC := Lib.hid hc
  have HL := Lib.hid hl
  have HB := Lib.hid hB
  have HNE := Lib.hid hne
  have HOK := Lib.hid hok
  obtain ⟨X, hX⟩ : ∃ X, cs.getD 0 0 = X := ⟨_, rfl⟩
  have HCX := Lib.hid hX
  obtain ⟨n, hn'⟩ : ∃ n, st.length = n := ⟨_, rfl⟩
  have HN := Lib.hid hn'
  rw [hn'] at hlt
  have hin : (i : Int) < (n : Int) := by omega
  have h1 : ¬ (a : Int) < 0 := by omega
  have h2 : ¬ 64 < (a : Int) := by omega
  have h3 : ¬ 64 - (a : Int) < (m : Int) := by omega
  clear h hc hl hB hok hf hne hX hn'
  go_enter Try.func22, Try.ntmps22
  go_wp2_with fail
  refine HF.out.mono ?_
  rintro e w' ⟨rfl, rfl⟩
  go_wp2
  go_loopg [9] m (fun gk s9 wx => ∃ j : Nat, j + gk = m ∧ s9 = .int .i64 j ∧ Hid (DvR wx p q (st.set i (c.store a (l.take j))) cs) ∧ Hid (Turns p q w wx))
  case atStart => exact ⟨0, by omega, rfl, HD0, Turns.refl _ _ _⟩
  case round =>
    obtain ⟨j, hjg, rfl, HDr, HT⟩ := hrel
    cases gk with
    | zero =>
      obtain rfl : j = m := by omega
      have hjj : ¬ (j : Int) < (j : Int) := by omega
      have HD2 : Hid (DvR wr p q (st.set i (c.store a l)) cs) := by
        have := HDr.out
        rw [List.take_of_length_le (Nat.le_of_eq HL.out)] at this
        exact this
      have hct := (HD2.out.count 0 (by decide)).1
      have hfz := (HD2.out.count 0 (by decide)).2
      rw [HCX.out] at hct
      go_wp2
      go_ret
      exact ⟨rfl, counted HD2.out 0 1 rfl X HCX.out, HT.out.setCell_p _ _⟩
    | succ gk =>
      have hjj : (j : Int) < (m : Int) := by omega
      have hj : j < l.length := by have := HL.out; omega
      obtain ⟨cap, hsl, _⟩ := HDr.out.slice
      rw [List.length_set, HN.out] at hsl
      have hrow : Row wr B l := HB.out.turns HT.out (fun x hx => HNE.out (by omega) x hx)
      obtain ⟨b, off, rfl, _, hcl⟩ := hrow.2 (by omega)
      have hcell := hcl j hj
      have hnb := HNE.out (by omega) _ rfl
      have HC1 : Hid ((st.set i (c.store a (l.take j)))[i]? = some (c.store a (l.take j))) := by show _ = _; rw [List.getElem?_set_self (by have := HN.out; omega)]
      have hok1 : (c.store a (l.take j)).ok := c.store_ok HOK.out a _ (by rw [List.length_take]; have := HL.out; omega)
      have hov := over_v hok1 (a + j) [l.getD j 0] (by have := HL.out; simp; omega)
      rw [List.length_singleton, store_step c HOK.out a j l hj (by have := HL.out; omega)] at hov
      have HOV := Lib.hid hov
      have HOK2 : Hid ((c.store a (l.take (j + 1))).ok) := c.store_ok HOK.out a _ (by rw [List.length_take]; have := HL.out; omega)
      have hs1 : IntKind.i64.wrap ((a : Int) + (j : Int)) = (a : Int) + (j : Int) := IntWalk.i64_in _ (by omega)
      have hs2 : (0 : Int) ≤ (a : Int) + (j : Int) := by omega
      have hs3 : (a : Int) + (j : Int) < 64 := by omega
      have hs4 : ((a : Int) + (j : Int)).toNat = a + j := by omega
      have HDd := Lib.hid HDr.out.drew
      have HTd := Lib.hid HT.out.drew
      have HJA : Hid (a + j < 64) := by show _ < _; omega
      generalize l.getD j 0 = y at *
      clear hcl hrow hov hok1 hnb
      go_wp2_with fail
      refine wp_region_still_tail 15 (by kernel_rfl) (by kernel_rfl) ?_
      change wpStill _ _ wr.drew _ _ _
      simp only [List.take_succ_cons, List.take_zero, List.drop_succ_cons, List.drop_zero]
      iterate 15 still_step
      refine wpStill_nil ?_
      clear hs1 hs2 hs3 hs4
      refine wpList_store_line (o := ⟨none, .store 5 (.tmp 49) (.tmp 46), _, _, _, _⟩) rfl _ _ _ rfl rfl HDd.out HC1.out (i * 193 + (a + j)) (a + j) rfl (.int .u8 ((y.toNat : Nat) : Int)) (enc [y]) rfl rfl rfl byte_size (by have := HJA.out; simp [enc]; omega) _ HOV.out HOK2.out enc_one ?_
      intro w1 HD1 HT1
      have HD1' : Hid (DvR w1 p q (st.set i (c.store a (l.take (j + 1)))) cs) := by have := HD1.out; rw [List.set_set] at this; exact this
      go_wp2
      go_roundg gk
      case measure => omega
      case rel => exact ⟨j + 1, by omega, by go_num, HD1', HTd.out.trans HT1.out⟩

end Go.Proofs.Ytkcjamjjaallhaa
