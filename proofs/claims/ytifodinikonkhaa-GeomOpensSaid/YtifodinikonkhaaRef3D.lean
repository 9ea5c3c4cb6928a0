/-
  Proved here: what chapter 3's own Cut answers and leaves.
  Conditions: a device of at most 258 lines; a list that lies in memory of its own.
-/
import Derived.Test.YtifodinikonkhaaRef3C
namespace Go.Proofs.Ytifodinikonkhaa
open Go Go.RowKit

def mapI (h : Nat → Cl → Cl) (st : List Cl) (i : Nat) : List Cl := (st.mapIdx h).take i ++ st.drop i
theorem mapI_len (h : Nat → Cl → Cl) (st : List Cl) (i : Nat) : (mapI h st i).length = st.length := by simp [mapI]; omega
theorem mapI_zero (h : Nat → Cl → Cl) (st : List Cl) : mapI h st 0 = st := by simp [mapI]
theorem mapI_all (h : Nat → Cl → Cl) (st : List Cl) (i : Nat) (hi : st.length ≤ i) : mapI h st i = st.mapIdx h := by simp [mapI, List.take_of_length_le, List.drop_of_length_le, hi]
theorem mapI_at (h : Nat → Cl → Cl) (st : List Cl) (i : Nat) {c : Cl} (hc : st[i]? = some c) : (mapI h st i)[i]? = some c := by
  obtain ⟨hi, rfl⟩ := List.getElem?_eq_some_iff.1 hc
  have hl : ((st.mapIdx h).take i).length = i := by rw [List.length_take, List.length_mapIdx]; omega
  rw [mapI, List.getElem?_append_right (by omega), hl, Nat.sub_self, List.getElem?_drop, Nat.add_zero, List.getElem?_eq_getElem hi]
theorem mapI_set (h : Nat → Cl → Cl) (st : List Cl) (i : Nat) {c : Cl} (hc : st[i]? = some c) : (mapI h st i).set i (h i c) = mapI h st (i + 1) := by
  obtain ⟨hi, rfl⟩ := List.getElem?_eq_some_iff.1 hc
  have hl : ((st.mapIdx h).take i).length = i := by rw [List.length_take, List.length_mapIdx]; omega
  have hi' : i < (st.mapIdx h).length := by rw [List.length_mapIdx]; exact hi
  rw [mapI, mapI, List.take_succ_eq_append_getElem hi', List.set_append_right _ _ (by omega), hl, Nat.sub_self, List.drop_eq_getElem_cons hi, List.set_cons_zero, List.append_assoc, List.getElem_mapIdx]
  rfl
/-- The numbers below n of which f is true. -/
def rl (f : Nat → Bool) : Nat → List Int
  | 0 => []
  | n + 1 => rl f n ++ if f n then [(n : Int)] else []
theorem rl_len (f : Nat → Bool) (n : Nat) : (rl f n).length ≤ n := by
  induction n with
  | zero => simp [rl]
  | succ n ih => simp only [rl, List.length_append]; split <;> simp <;> omega
/-- What the chapter's Cut makes of a line. -/
def Cl.rcut (kb : Bool) (c : Cl) : Cl := if (c.v != c.p) && kb then { c with p := c.v, on := false } else { c with v := c.p, on := false }
def lostB (st : List Cl) (keep : List Int) (i : Nat) : Bool := ((clAt st (i : Int)).v != (clAt st (i : Int)).p) && !keep.any (· == (i : Int))
theorem Turns.then_below {p q : Nat} {w wr w' : World} (h : Turns p q w wr) (hb : Below w.heap.size wr w') : Turns p q w w' :=
  ⟨hb.os.trans h.os, hb.tape.trans h.tape, hb.output.trans h.output, Nat.le_trans h.size hb.size, fun k h1 h2 hk => (hb.block k hk).trans (h.block k h1 h2 hk)⟩
/-- What the chapter's Cut leaves. -/
def CuttedR (w : World) (p q : Nat) (st : List Cl) (cs : List Int) (keep : List Int) (e : Ending) (w' : World) : Prop :=
  ∃ v, e = .returned v ∧ w'.ownsRow w.heap.size 3 1 v (rl (lostB st keep) st.length).length (encI (rl (lostB st keep) st.length)) ∧ DvR w' p q (st.mapIdx fun i c => c.rcut (keep.any (· == (i : Int)))) (bump cs 4) ∧ Turns p q w w'
set_option maxHeartbeats 3200000 in
set_option maxRecDepth 100000 in
theorem rcut_ok {w : World} {p q : Nat} {st : List Cl} {cs : List Int} (h : DvR w p q st cs) (A : Option Addr) (m k : Nat) (keep : List Int) (hk : keep.length = m) (hA : RowI w A keep) (hne : 0 < keep.length → ∀ x, A = some x → x.block ≠ p ∧ x.block ≠ q) :
    Calls Try.prog 36 #[.pointer (some ⟨p, 0, none⟩), .slice A m k] w (CuttedR w p q st cs keep) := by
  have HD := Lib.hid h
  have HK := Lib.hid hk
  have HA := Lib.hid hA
  have HNE := Lib.hid hne
  have hn := h.len
  have HLP := Lib.hid h.lt_p
  have HLQ := Lib.hid h.lt_q
  obtain ⟨n, hn'⟩ : ∃ n, st.length = n := ⟨_, rfl⟩
  have HN := Lib.hid hn'
  rw [hn'] at hn
  obtain ⟨g, hg⟩ : ∃ g, w.heap.size = g := ⟨_, rfl⟩
  have HG := Lib.hid hg
  rw [hg] at HLP HLQ
  obtain ⟨X, hX⟩ : ∃ X, cs.getD 4 0 = X := ⟨_, rfl⟩
  have HCX := Lib.hid hX
  obtain ⟨H, hH⟩ : ∃ H : Nat → Cl → Cl, (fun i c => c.rcut (keep.any (· == (i : Int)))) = H := ⟨_, rfl⟩
  have HHH := Lib.hid hH
  have HFIN : Hid (∀ v w', w'.ownsRow g 3 1 v (rl (lostB st keep) n).length (encI (rl (lostB st keep) n)) → DvR w' p q (st.mapIdx H) (bump cs 4) → Turns p q w w' → CuttedR w p q st cs keep (.returned v) w') := fun v w' h1 h2 h3 => ⟨v, rfl, by rw [hn', hg]; exact h1, by rw [hH]; exact h2, h3⟩
  generalize CuttedR w p q st cs keep = R at *
  clear h hk hA hne hn' hg hX hH
  go_enter Try.func36, Try.ntmps36
  go_wp2
  go_loopg [5, 6] n (fun gk s5 s6 wx => ∃ (i : Nat) (V : Value), i + gk = n ∧ s6 = .int .i64 i ∧ V = s5 ∧ Hid (wx.ownsRow g 3 1 V (rl (lostB st keep) i).length (encI (rl (lostB st keep) i))) ∧ Hid (DvR wx p q (mapI H st i) cs) ∧ Hid (Turns p q w wx))
  case atStart => exact ⟨0, _, by omega, rfl, rfl, World.ownsRow_nil _ _ _ _, (by rw [mapI_zero]; exact HD), Turns.refl _ _ _⟩
  case round =>
    obtain ⟨i, V, hig, rfl, rfl, HO, HDr, HT⟩ := hrel
    obtain ⟨cap1, hsl1, _⟩ := HDr.out.slice
    rw [mapI_len, HN.out] at hsl1
    cases gk with
    | zero =>
      obtain rfl : i = n := by omega
      have hii : ¬ (i : Int) < (i : Int) := by omega
      have HD2 : Hid (DvR wr p q (st.mapIdx H) cs) := by
        have := HDr.out
        rw [mapI_all _ _ _ (Nat.le_of_eq HN.out)] at this
        exact this
      have hct := (HD2.out.count 4 (by decide)).1
      have hfz := (HD2.out.count 4 (by decide)).2
      rw [HCX.out] at hct
      go_wp2
      refine HFIN.out _ _ ?_ (counted HD2.out 4 5 rfl X HCX.out) (HT.out.setCell_p _ _)
      exact own_turns HO.out ((Turns.refl p q wr).setCell_p _ _) HLP.out HLQ.out
    | succ gk =>
      have hii : (i : Int) < (n : Int) := by omega
      have hi : i < st.length := by have := HN.out; omega
      obtain ⟨c, hc⟩ : ∃ c, st[i]? = some c := ⟨_, List.getElem?_eq_getElem hi⟩
      have hcl : clAt st (i : Int) = c := by have := clAt_some hi; rw [hc] at this; exact (Option.some.inj this).symm
      have hc1 := mapI_at H st i hc
      have HS := Lib.hid (mapI_set H st i hc)
      have hok := oks_at HDr.out.oks hc1
      have HOK := Lib.hid hok
      have HC1 := Lib.hid hc1
      have HV := Lib.hid (HDr.out.drew.range_v hc1)
      have HP := Lib.hid (HDr.out.drew.range_p hc1)
      have HDd := Lib.hid HDr.out.drew
      have HTd := Lib.hid HT.out.drew
      have HX := Lib.hid hok.1
      have HY := Lib.hid hok.2.1
      have heq : ∀ w', (Op.equalIn 10000 64 (.agg (enc c.v).toArray) (.agg (enc c.p).toArray)).run Try.prog w' = .ok (c.v == c.p) w' := fun w' => equal_arr _ _ hok.1 hok.2.1 w'
      have hgu := guard_arr
      have hlen : (rl (lostB st keep) i).length < 134217728 := by have := rl_len (lostB st keep) i; omega
      have hrowk : RowI wr.drew A keep := by
        rcases Nat.eq_zero_or_pos keep.length with h0 | h0
        · have := HA.out.1
          exact ⟨this, fun h => by omega⟩
        · refine HA.out.same HTd.out.size (fun x hx => ?_)
          obtain ⟨n1, n2⟩ := HNE.out h0 x hx
          obtain ⟨b, off, e, hb, _⟩ := HA.out.2 h0
          rw [e] at hx
          cases hx
          exact HTd.out.block _ n1 n2 hb
      have HIN := Lib.hid (rin_any wr.drew A m k keep (i : Int) HK.out hrowk)
      have HRS : Hid (rl (lostB st keep) (i + 1) = rl (lostB st keep) i ++ if (c.v != c.p) && !keep.any (· == (i : Int)) then [(i : Int)] else []) := by show _ = _; rw [rl, lostB, hcl]
      have HHC : Hid (H i c = c.rcut (keep.any (· == (i : Int)))) := by show _ = _; rw [← HHH.out]
      have HSET : Hid (∀ d : Cl, ((mapI H st i).set i d)[i]? = some d) := fun d => by rw [List.getElem?_set_self (by rw [mapI_len]; exact hi)]
      clear hc hc1 hok hi hrowk hcl
      generalize keep.any (· == (i : Int)) = kb at *
      cases hvp : (c.v == c.p) with
      | true =>
        have HRC : Hid (c.rcut kb = { c with v := c.p, on := false }) := by show _ = _; simp only [Cl.rcut, bne, hvp, Bool.not_true, Bool.false_and, Bool.false_eq_true, if_false]
        have HRS1 : Hid (rl (lostB st keep) (i + 1) = rl (lostB st keep) i) := by show _ = _; rw [HRS.out]; simp only [bne, hvp, Bool.not_true, Bool.false_and, Bool.false_eq_true, if_false, List.append_nil]
        have HCW := HC1
        have HLN : Hid ((mapI H st i).length = n) := by show _ = _; rw [mapI_len, HN.out]
        rw [hvp] at heq
        clear hvp
        go_wp2_with fail
        refine wp_region_still_lit (by kernel_rfl) (by kernel_rfl) ?_
        change wpStill _ _ wr.drew _ _ _
        iterate 7 still_step
        refine wpStill_load_mid rfl 64 (.tmp 23) rfl q (i * 193) rfl (enc c.v) _ HV.out Try.underlying64 rfl (by rw [enc_len, HX.out]; exact size_arr) ?_
        go_simp
        iterate 7 still_step
        refine wpStill_load_mid rfl 64 (.tmp 31) rfl q (i * 193 + 64) rfl (enc c.p) _ HP.out Try.underlying64 rfl (by rw [enc_len, HY.out]; exact size_arr) ?_
        go_simp
        iterate 2 still_step
        refine wpStill_nil ?_
        obtain ⟨W, hW⟩ : ∃ W, wr.drew = W := ⟨_, rfl⟩
        rw [hW] at HDd HTd ⊢
        have HOd : Hid (W.ownsRow g 3 1 V (rl (lostB st keep) i).length (encI (rl (lostB st keep) i))) := hW ▸ HO.out
        clear hW heq hsl1
        have hokt : (c).ok := oks_at HDd.out.oks HCW.out
        have hov := over_v hokt 0 (c).p (by have := hokt.2.1; omega)
        rw [List.take_zero, List.nil_append, Nat.zero_add, List.drop_of_length_le (by have := hokt.1; have := hokt.2.1; omega), List.append_nil] at hov
        have HOV := Lib.hid hov
        have hok5 : (({ (c) with v := (c).p } : Cl).ok) := ⟨hokt.2.1, hokt.2.1, hokt.2.2⟩
        have HOK5 := Lib.hid hok5
        have HON := Lib.hid (over_on hok5 false)
        have HOK6 : Hid (({ (c) with v := (c).p, on := false } : Cl).ok) := hok5
        have HPT := Lib.hid (HDd.out.drew.range_p HCW.out)
        have HYT := Lib.hid hokt.2.1
        have HDT := Lib.hid HDd.out.drew
        obtain ⟨cap3, hsl3, _⟩ := HDd.out.slice
        rw [HLN.out] at hsl3
        clear hokt hov hok5
        go_wp2_with fail
        refine wp_region_still_tail 15 (by kernel_rfl) (by kernel_rfl) ?_
        change wpStill _ _ W.drew _ _ _
        simp only [List.take_succ_cons, List.take_zero, List.drop_succ_cons, List.drop_zero]
        iterate 12 still_step
        refine wpStill_load_mid rfl 64 (.tmp 71) rfl q (i * 193 + 64) rfl (enc (c).p) _ HPT.out Try.underlying64 rfl (by rw [enc_len, HYT.out]; exact size_arr) ?_
        go_simp
        iterate 2 still_step
        refine wpStill_nil ?_
        refine wpList_store_line (o := ⟨none, .store 64 (.tmp 74) (.tmp 72), _, _, _, _⟩) rfl _ _ _ rfl rfl HDT.out HCW.out (i * 193) 0 rfl (.agg (enc (c).p).toArray) (enc (c).p) rfl rfl rfl (by rw [enc_len, HYT.out]; exact size_arr) (by rw [enc_len, HYT.out]; omega) _ HOV.out HOK5.out enc_one ?_
        intro w6 HD6 HT6
        have HC6 : Hid (((mapI H st i).set i { (c) with v := (c).p })[i]? = some { (c) with v := (c).p }) := by show _ = _; rw [List.getElem?_set_self (by have := HLN.out; omega)]
        obtain ⟨cap4, hsl4, _⟩ := HD6.out.slice
        rw [List.length_set, HLN.out] at hsl4
        clear hsl3
        go_wp2_with (first
          | ((with_reducible show wpList _ _ _ (⟨none, .store 4 _ _, _, _, _, _⟩ :: _) _ _); refine wpList_store_line (o := ⟨none, .store 4 (.tmp 81) _, _, _, _, _⟩) rfl _ _ _ rfl rfl HD6.out HC6.out (i * 193 + 192) 192 rfl (.bool false) [.bool false] rfl rfl rfl size_bool (by decide) _ HON.out HOK6.out (by intro u hu; simp at hu; subst hu; rfl) ?_; intro w7 HD7 HT7; clear hsl4))
        go_roundg gk
        case measure => omega
        case rel =>
          refine ⟨i + 1, V, by omega, by go_num, rfl, ?_, ?_, ((HTd.out.drew.trans HT6.out).trans HT7.out)⟩
          · rw [HRS1.out]
            exact own_turns HOd.out ((((Turns.refl p q W).drew).trans HT6.out).trans HT7.out) HLP.out HLQ.out
          · have := HD7.out
            simp only [List.set_set] at this
            rw [← HS.out, HHC.out, HRC.out]
            exact this
      | false =>
        rw [hvp] at heq
        cases kb with
        | true =>
          have HRC : Hid (c.rcut true = { ({ c with p := c.v } : Cl) with v := ({ c with p := c.v } : Cl).p, on := false }) := by show _ = _; simp only [Cl.rcut, bne, hvp, Bool.not_false, Bool.true_and, if_true]
          have HRS1 : Hid (rl (lostB st keep) (i + 1) = rl (lostB st keep) i) := by show _ = _; rw [HRS.out]; simp only [bne, hvp, Bool.not_false, Bool.not_true, Bool.true_and, Bool.false_eq_true, if_false, List.append_nil]
          have hokb : (({ c with p := c.v } : Cl).ok) := ⟨HOK.out.1, HOK.out.1, HOK.out.2.2⟩
          have HOKB := Lib.hid hokb
          have HOVB := Lib.hid (over_p HOK.out c.v HOK.out.1)
          have HLN : Hid (((mapI H st i).set i { c with p := c.v }).length = n) := by show _ = _; rw [List.length_set, mapI_len, HN.out]
          have HCW := Lib.hid (HSET.out { c with p := c.v })
          clear hvp hokb
          go_wp2_with fail
          refine wp_region_still_lit (by kernel_rfl) (by kernel_rfl) ?_
          change wpStill _ _ wr.drew _ _ _
          iterate 7 still_step
          refine wpStill_load_mid rfl 64 (.tmp 23) rfl q (i * 193) rfl (enc c.v) _ HV.out Try.underlying64 rfl (by rw [enc_len, HX.out]; exact size_arr) ?_
          go_simp
          iterate 7 still_step
          refine wpStill_load_mid rfl 64 (.tmp 31) rfl q (i * 193 + 64) rfl (enc c.p) _ HP.out Try.underlying64 rfl (by rw [enc_len, HY.out]; exact size_arr) ?_
          go_simp
          iterate 2 still_step
          refine wpStill_nil ?_
          obtain ⟨W, hW⟩ : ∃ W, wr.drew = W := ⟨_, rfl⟩
          rw [hW] at HDd HTd HV HIN ⊢
          have HOd : Hid (W.ownsRow g 3 1 V (rl (lostB st keep) i).length (encI (rl (lostB st keep) i))) := hW ▸ HO.out
          obtain ⟨cap2, hsl2, _⟩ := HDd.out.slice
          rw [mapI_len, HN.out] at hsl2
          clear hW heq hsl1
          go_wp2_with fail
          refine HIN.out.mono ?_
          rintro e w' ⟨rfl, rfl⟩
          have HDWd := Lib.hid HDd.out.drew
          have HVd := Lib.hid (HDd.out.drew.range_v HC1.out)
          go_wp2_with fail
          refine wp_region_still_tail 15 (by kernel_rfl) (by kernel_rfl) ?_
          change wpStill _ _ W.drew _ _ _
          simp only [List.take_succ_cons, List.take_zero, List.drop_succ_cons, List.drop_zero]
          iterate 12 still_step
          refine wpStill_load_mid rfl 64 (.tmp 51) rfl q (i * 193) rfl (enc c.v) _ HVd.out Try.underlying64 rfl (by rw [enc_len, HX.out]; exact size_arr) ?_
          go_simp
          iterate 2 still_step
          refine wpStill_nil ?_
          refine wpList_store_line (o := ⟨none, .store 64 (.tmp 54) (.tmp 52), _, _, _, _⟩) rfl _ _ _ rfl rfl HDWd.out HC1.out (i * 193 + 64) 64 rfl (.agg (enc c.v).toArray) (enc c.v) rfl rfl rfl (by rw [enc_len, HX.out]; exact size_arr) (by rw [enc_len, HX.out]; omega) _ HOVB.out HOKB.out enc_one ?_
          intro W2 HD5 HT5
          have HTW := Lib.hid (HTd.out.drew.trans HT5.out)
          have HOW2 := Lib.hid (own_turns HOd.out ((Turns.refl p q W).drew.trans HT5.out) HLP.out HLQ.out)
          have HSB : Hid ((mapI H st i).set i (H i c) = ((mapI H st i).set i { c with p := c.v }).set i (H i c)) := by show _ = _; rw [List.set_set]
          clear hsl2
          have hokt : ({ c with p := c.v } : Cl).ok := oks_at HD5.out.oks HCW.out
          have hov := over_v hokt 0 ({ c with p := c.v } : Cl).p (by have := hokt.2.1; omega)
          rw [List.take_zero, List.nil_append, Nat.zero_add, List.drop_of_length_le (by have := hokt.1; have := hokt.2.1; omega), List.append_nil] at hov
          have HOV := Lib.hid hov
          have hok5 : (({ ({ c with p := c.v } : Cl) with v := ({ c with p := c.v } : Cl).p } : Cl).ok) := ⟨hokt.2.1, hokt.2.1, hokt.2.2⟩
          have HOK5 := Lib.hid hok5
          have HON := Lib.hid (over_on hok5 false)
          have HOK6 : Hid (({ ({ c with p := c.v } : Cl) with v := ({ c with p := c.v } : Cl).p, on := false } : Cl).ok) := hok5
          have HPT := Lib.hid (HD5.out.drew.range_p HCW.out)
          have HYT := Lib.hid hokt.2.1
          have HDT := Lib.hid HD5.out.drew
          obtain ⟨cap3, hsl3, _⟩ := HD5.out.slice
          rw [HLN.out] at hsl3
          clear hokt hov hok5
          go_wp2_with fail
          refine wp_region_still_tail 15 (by kernel_rfl) (by kernel_rfl) ?_
          change wpStill _ _ W2.drew _ _ _
          simp only [List.take_succ_cons, List.take_zero, List.drop_succ_cons, List.drop_zero]
          iterate 12 still_step
          refine wpStill_load_mid rfl 64 (.tmp 71) rfl q (i * 193 + 64) rfl (enc ({ c with p := c.v } : Cl).p) _ HPT.out Try.underlying64 rfl (by rw [enc_len, HYT.out]; exact size_arr) ?_
          go_simp
          iterate 2 still_step
          refine wpStill_nil ?_
          refine wpList_store_line (o := ⟨none, .store 64 (.tmp 74) (.tmp 72), _, _, _, _⟩) rfl _ _ _ rfl rfl HDT.out HCW.out (i * 193) 0 rfl (.agg (enc ({ c with p := c.v } : Cl).p).toArray) (enc ({ c with p := c.v } : Cl).p) rfl rfl rfl (by rw [enc_len, HYT.out]; exact size_arr) (by rw [enc_len, HYT.out]; omega) _ HOV.out HOK5.out enc_one ?_
          intro w6 HD6 HT6
          have HC6 : Hid ((((mapI H st i).set i { c with p := c.v }).set i { ({ c with p := c.v } : Cl) with v := ({ c with p := c.v } : Cl).p })[i]? = some { ({ c with p := c.v } : Cl) with v := ({ c with p := c.v } : Cl).p }) := by show _ = _; rw [List.getElem?_set_self (by have := HLN.out; omega)]
          obtain ⟨cap4, hsl4, _⟩ := HD6.out.slice
          rw [List.length_set, HLN.out] at hsl4
          clear hsl3
          go_wp2_with (first
            | ((with_reducible show wpList _ _ _ (⟨none, .store 4 _ _, _, _, _, _⟩ :: _) _ _); refine wpList_store_line (o := ⟨none, .store 4 (.tmp 81) _, _, _, _, _⟩) rfl _ _ _ rfl rfl HD6.out HC6.out (i * 193 + 192) 192 rfl (.bool false) [.bool false] rfl rfl rfl size_bool (by decide) _ HON.out HOK6.out (by intro u hu; simp at hu; subst hu; rfl) ?_; intro w7 HD7 HT7; clear hsl4))
          go_roundg gk
          case measure => omega
          case rel =>
            refine ⟨i + 1, V, by omega, by go_num, rfl, ?_, ?_, ((HTW.out.drew.trans HT6.out).trans HT7.out)⟩
            · rw [HRS1.out]
              exact own_turns HOW2.out ((((Turns.refl p q W2).drew).trans HT6.out).trans HT7.out) HLP.out HLQ.out
            · have := HD7.out
              simp only [List.set_set] at this
              rw [← HS.out, HHC.out, HRC.out]
              exact this
        | false =>
          have HRC : Hid (c.rcut false = { c with v := c.p, on := false }) := by show _ = _; simp only [Cl.rcut, bne, hvp, Bool.not_false, Bool.true_and, Bool.false_eq_true, if_false]
          have HRS0 : Hid (rl (lostB st keep) (i + 1) = rl (lostB st keep) i ++ [(i : Int)]) := by show _ = _; rw [HRS.out]; simp only [bne, hvp, Bool.not_false, Bool.true_and, if_true]
          have HCW := HC1
          have HLN : Hid ((mapI H st i).length = n) := by show _ = _; rw [mapI_len, HN.out]
          clear hvp
          go_wp2_with fail
          refine wp_region_still_lit (by kernel_rfl) (by kernel_rfl) ?_
          change wpStill _ _ wr.drew _ _ _
          iterate 7 still_step
          refine wpStill_load_mid rfl 64 (.tmp 23) rfl q (i * 193) rfl (enc c.v) _ HV.out Try.underlying64 rfl (by rw [enc_len, HX.out]; exact size_arr) ?_
          go_simp
          iterate 7 still_step
          refine wpStill_load_mid rfl 64 (.tmp 31) rfl q (i * 193 + 64) rfl (enc c.p) _ HP.out Try.underlying64 rfl (by rw [enc_len, HY.out]; exact size_arr) ?_
          go_simp
          iterate 2 still_step
          refine wpStill_nil ?_
          obtain ⟨W, hW⟩ : ∃ W, wr.drew = W := ⟨_, rfl⟩
          rw [hW] at HDd HTd HV HIN ⊢
          have HOd : Hid (W.ownsRow g 3 1 V (rl (lostB st keep) i).length (encI (rl (lostB st keep) i))) := hW ▸ HO.out
          obtain ⟨cap2, hsl2, _⟩ := HDd.out.slice
          rw [mapI_len, HN.out] at hsl2
          clear hW heq hsl1
          go_wp2_with fail
          refine HIN.out.mono ?_
          rintro e w' ⟨rfl, rfl⟩
          obtain ⟨V', W2, hrun, hown, hb'⟩ := run_appI_one W g V (rl (lostB st keep) i) (i : Int) HOd.out hlen (by have := HTd.out.size; have := HG.out; omega)
          have HRUN : Hid (Sem.run Try.prog (Builtin.append_ #[55, 55] 55 #[V, .slice (some ⟨W.heap.size, 0, none⟩) 1 1]) (W.alloc (.cells #[.int .i64 (i : Int)] 3)) = .ok V' W2) := hrun
          have HRS1 : Hid (rl (lostB st keep) (i + 1) = rl (lostB st keep) i ++ [(i : Int)]) := HRS0
          have HOW2 : Hid (W2.ownsRow g 3 1 V' (rl (lostB st keep) i ++ [(i : Int)]).length (encI (rl (lostB st keep) i ++ [(i : Int)]))) := by show World.ownsRow _ _ _ _ _ _ _; rw [List.length_append, List.length_singleton]; exact hown
          have HD5 : Hid (DvR W2 p q (mapI H st i) cs) := HDd.out.same (hb'.block p HLP.out) (hb'.block q HLQ.out)
          have HTW : Hid (Turns p q w W2) := HTd.out.then_below (HG.out ▸ hb')
          clear hrun hown hb'
          go_wp2_with (at_builtin; refine wpList_app rfl (.tmp 56) (.tmp 58) 55 rfl rfl rfl HRUN.out ?_)
          clear hsl2
          have hokt : (c).ok := oks_at HD5.out.oks HCW.out
          have hov := over_v hokt 0 (c).p (by have := hokt.2.1; omega)
          rw [List.take_zero, List.nil_append, Nat.zero_add, List.drop_of_length_le (by have := hokt.1; have := hokt.2.1; omega), List.append_nil] at hov
          have HOV := Lib.hid hov
          have hok5 : (({ (c) with v := (c).p } : Cl).ok) := ⟨hokt.2.1, hokt.2.1, hokt.2.2⟩
          have HOK5 := Lib.hid hok5
          have HON := Lib.hid (over_on hok5 false)
          have HOK6 : Hid (({ (c) with v := (c).p, on := false } : Cl).ok) := hok5
          have HPT := Lib.hid (HD5.out.drew.range_p HCW.out)
          have HYT := Lib.hid hokt.2.1
          have HDT := Lib.hid HD5.out.drew
          obtain ⟨cap3, hsl3, _⟩ := HD5.out.slice
          rw [HLN.out] at hsl3
          clear hokt hov hok5
          refine wp_region_still_tail 15 (by kernel_rfl) (by kernel_rfl) ?_
          change wpStill _ _ W2.drew _ _ _
          simp only [List.take_succ_cons, List.take_zero, List.drop_succ_cons, List.drop_zero]
          iterate 12 still_step
          refine wpStill_load_mid rfl 64 (.tmp 71) rfl q (i * 193 + 64) rfl (enc (c).p) _ HPT.out Try.underlying64 rfl (by rw [enc_len, HYT.out]; exact size_arr) ?_
          go_simp
          iterate 2 still_step
          refine wpStill_nil ?_
          refine wpList_store_line (o := ⟨none, .store 64 (.tmp 74) (.tmp 72), _, _, _, _⟩) rfl _ _ _ rfl rfl HDT.out HCW.out (i * 193) 0 rfl (.agg (enc (c).p).toArray) (enc (c).p) rfl rfl rfl (by rw [enc_len, HYT.out]; exact size_arr) (by rw [enc_len, HYT.out]; omega) _ HOV.out HOK5.out enc_one ?_
          intro w6 HD6 HT6
          have HC6 : Hid (((mapI H st i).set i { (c) with v := (c).p })[i]? = some { (c) with v := (c).p }) := by show _ = _; rw [List.getElem?_set_self (by have := HLN.out; omega)]
          obtain ⟨cap4, hsl4, _⟩ := HD6.out.slice
          rw [List.length_set, HLN.out] at hsl4
          clear hsl3
          go_wp2_with (first
            | ((with_reducible show wpList _ _ _ (⟨none, .store 4 _ _, _, _, _, _⟩ :: _) _ _); refine wpList_store_line (o := ⟨none, .store 4 (.tmp 81) _, _, _, _, _⟩) rfl _ _ _ rfl rfl HD6.out HC6.out (i * 193 + 192) 192 rfl (.bool false) [.bool false] rfl rfl rfl size_bool (by decide) _ HON.out HOK6.out (by intro u hu; simp at hu; subst hu; rfl) ?_; intro w7 HD7 HT7; clear hsl4))
          go_roundg gk
          case measure => omega
          case rel =>
            refine ⟨i + 1, V', by omega, by go_num, rfl, ?_, ?_, ((HTW.out.drew.trans HT6.out).trans HT7.out)⟩
            · rw [HRS1.out]
              exact own_turns HOW2.out ((((Turns.refl p q W2).drew).trans HT6.out).trans HT7.out) HLP.out HLQ.out
            · have := HD7.out
              simp only [List.set_set] at this
              rw [← HS.out, HHC.out, HRC.out]
              exact this

end Go.Proofs.Ytifodinikonkhaa
