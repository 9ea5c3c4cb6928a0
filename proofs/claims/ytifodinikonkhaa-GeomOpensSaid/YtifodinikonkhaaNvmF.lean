/-
  Proved here: what package nvm's Cut answers and leaves.
  Conditions: a device of at most 258 lines; a list of at most 2^27 numbers that lies in memory of its own.
-/
import Derived.Test.YtifodinikonkhaaNvmE
namespace Go.Proofs.Ytifodinikonkhaa
open Go Go.RowKit

/-- Line x, if there is one, written back. -/
def keepOne (st : List Cl) (x : Int) : List Cl :=
  if x < 0 then st else match st[x.toNat]? with
    | some c => st.set x.toNat { c with p := c.v }
    | none => st
def keepAll (st : List Cl) (keep : List Int) : List Cl := keep.foldl keepOne st
def Cl.cut (c : Cl) : Cl := ({ c with v := c.p } : Cl).stop
theorem keepOne_len (st : List Cl) (x : Int) : (keepOne st x).length = st.length := by
  unfold keepOne
  split
  · rfl
  · split
    · rw [List.length_set]
    · rfl
theorem keepAll_len (st : List Cl) (keep : List Int) : (keepAll st keep).length = st.length := by
  induction keep generalizing st with
  | nil => rfl
  | cons x keep ih => exact (ih (keepOne st x)).trans (keepOne_len st x)
theorem keepAll_take (st : List Cl) (keep : List Int) (k : Nat) (hk : k < keep.length) : keepAll st (keep.take (k + 1)) = keepOne (keepAll st (keep.take k)) (keep.getD k 0) := by
  rw [List.take_succ_eq_append_getElem hk, keepAll, List.foldl_append]
  simp [keepAll, List.getD, List.getElem?_eq_getElem hk]
theorem keepOne_out (st : List Cl) (x : Int) (h : x < 0 ∨ (st.length : Int) ≤ x) : keepOne st x = st := by
  unfold keepOne
  split
  · rfl
  · rw [List.getElem?_eq_none (by omega)]
theorem keepOne_in (st : List Cl) (i : Nat) {c : Cl} (hc : st[i]? = some c) : keepOne st (i : Int) = st.set i { c with p := c.v } := by
  unfold keepOne
  rw [if_neg (by omega), Int.toNat_natCast, hc]

set_option maxHeartbeats 400000 in
theorem cut_nil (v : Value) (w : World) : Calls Try.prog 35 #[.pointer none, v] w fun e w' => e = .returned (.tuple #[.slice none 0 0, .int .i64 1]) ∧ w = w' := by
  go_enter Try.func35, Try.ntmps35
  go_wp2
  go_ret2
  exact ⟨rfl, rfl⟩

/-- What Cut leaves. -/
def Cutted (w : World) (p q : Nat) (st : List Cl) (cs : List Int) (keep : List Int) (e : Ending) (w' : World) : Prop :=
  ∃ v, e = .returned (.tuple #[v, .int .i64 0]) ∧ w'.ownsRow w.heap.size 3 1 v (looseL (keepAll st keep)).length (encI (looseL (keepAll st keep))) ∧ DvP w' p q ((keepAll st keep).map Cl.cut) (bump cs 4) ∧ Turns p q w w'
theorem Cutted.mk' {w : World} {p q : Nat} {st : List Cl} {cs keep : List Int} {v : Value} {w' : World} (h1 : w'.ownsRow w.heap.size 3 1 v (looseL (keepAll st keep)).length (encI (looseL (keepAll st keep)))) (h2 : DvP w' p q ((keepAll st keep).map Cl.cut) (bump cs 4)) (h3 : Turns p q w w') :
    Cutted w p q st cs keep (.returned (.tuple #[v, .int .i64 0])) w' := ⟨v, rfl, h1, h2, h3⟩
theorem own_turns {w w' : World} {base n : Nat} {v : Value} {xs : List Value} {e : TypeId} {p q : Nat} (h : w.ownsRow base e 1 v n xs) (ht : Turns p q w w') (hp : p < base) (hq : q < base) : w'.ownsRow base e 1 v n xs := by
  refine ⟨h.1, h.2.imp id fun ⟨g, cap, cur, h1, h2, h3, h4⟩ => ⟨g, cap, cur, h1, h2, (ht.block g (by omega) (by omega) (lt_of_heap h3)).trans h3, h4⟩⟩

set_option maxHeartbeats 1600000 in
theorem cut_ok {w : World} {p q : Nat} {st : List Cl} {cs : List Int} (h : DvP w p q st cs) (A : Option Addr) (m k : Nat) (keep : List Int) (hk : keep.length = m) (hA : RowI w A keep) (hne : 0 < keep.length → ∀ x, A = some x → x.block ≠ p ∧ x.block ≠ q) :
    Calls Try.prog 35 #[.pointer (some ⟨p, 0, none⟩), .slice A m k] w (Cutted w p q st cs keep) := by
  have HD := Lib.hid h
  have HK := Lib.hid hk
  have HA := Lib.hid hA
  have HNE := Lib.hid hne
  have hn := h.len
  have hm : m ≤ 134217728 := by have := hA.1; omega
  have HLP := Lib.hid h.lt_p
  have HLQ := Lib.hid h.lt_q
  obtain ⟨n, hn'⟩ : ∃ n, st.length = n := ⟨_, rfl⟩
  have HN := Lib.hid hn'
  rw [hn'] at hn
  clear h hk hA hne hn'
  go_enter Try.func35, Try.ntmps35
  go_wp2
  go_loopg [7, 8, 9, 17] m (fun gk s7 s8 s9 s17 wx => ∃ i : Nat, i + gk = m ∧ s17 = .int .i64 i ∧ Hid (DvP wx p q (keepAll st (keep.take i)) cs) ∧ Hid (Turns p q w wx))
  case atStart => exact ⟨0, by omega, rfl, HD, Turns.refl _ _ _⟩
  case round =>
    obtain ⟨i, hig, rfl, HDr, HT⟩ := hrel
    cases gk with
    | succ gk =>
      have hii : (i : Int) < (m : Int) := by omega
      have hi : i < keep.length := by have := HK.out; omega
      have HS := Lib.hid (keepAll_take st keep i hi)
      have hrow : RowI wr A keep := HA.out.same HT.out.size (fun x hx => by obtain ⟨n1, n2⟩ := HNE.out (by omega) x hx; exact HT.out.block _ n1 n2 (by
        obtain ⟨b, off, e, hb, _⟩ := HA.out.2 (by omega)
        rw [e] at hx
        cases hx
        exact hb))
      obtain ⟨b, off, rfl, _, hcl⟩ := hrow.2 (by omega)
      have hcell := hcl i hi
      have hlen := keepAll_len st (keep.take i)
      generalize keep.getD i 0 = x at *
      generalize hst : keepAll st (keep.take i) = s1 at *
      have HLN := Lib.hid hlen
      have HST := Lib.hid hst
      clear hcl hrow hi hst hlen
      rcases Classical.em (x < 0 ∨ (s1.length : Int) ≤ x) with hx | hx
      · have HF := Lib.hid (find_bad HDr.out x hx)
        have HO := Lib.hid (keepOne_out s1 x hx)
        clear hx
        go_wp2_with fail
        refine HF.out.mono ?_
        rintro e w' ⟨rfl, rfl⟩
        go_wp2
        go_roundg gk
        case measure => omega
        case rel => exact ⟨i + 1, by omega, by go_num, (by rw [HS.out, HO.out]; exact HDr), HT⟩
      · obtain ⟨j, rfl⟩ : ∃ j : Nat, x = (j : Int) := ⟨x.toNat, by omega⟩
        have hj : j < s1.length := by omega
        obtain ⟨c, hc⟩ : ∃ c, s1[j]? = some c := ⟨_, List.getElem?_eq_getElem hj⟩
        have HF := Lib.hid (find_ok HDr.out j hj)
        have HO := Lib.hid (keepOne_in s1 j hc)
        have HV := Lib.hid (HDr.out.range_v hc)
        have hok := oks_at HDr.out.oks hc
        have HX := Lib.hid hok.1
        have HOV := Lib.hid (over_p hok c.v hok.1)
        have HOK1 : Hid (({ c with p := c.v } : Cl).ok) := ⟨hok.1, hok.1, hok.2.2⟩
        have HC := Lib.hid hc
        clear hx hc hok hj
        go_wp2_with fail
        refine HF.out.mono ?_
        rintro e w' ⟨rfl, rfl⟩
        go_wp2_with (first
          | ((with_reducible show wpList _ _ _ (⟨some 33, _, _, _, _, _⟩ :: _) _ _); refine wpList_load_agg (o := ⟨some 33, _, _, _, _, _⟩) rfl 93 (.tmp 32) rfl q (j * 193) rfl (enc c.v) _ HV.out Try.underlying93 rfl (by rw [enc_len, HX.out]; exact size_content) ?_)
          | ((with_reducible show wpList _ _ _ (⟨none, .store 93 _ _, _, _, _, _⟩ :: _) _ _); refine wpList_store_line (o := ⟨none, .store 93 (.tmp 35) (.tmp 33), _, _, _, _⟩) rfl _ _ _ rfl rfl HDr.out HC.out (j * 193 + 64) 64 rfl (.agg (enc c.v).toArray) (enc c.v) rfl rfl rfl (by rw [enc_len, HX.out]; exact size_content) (by rw [enc_len, HX.out]; omega) _ HOV.out HOK1.out enc_one ?_; intro w1 HD1 HT1))
        go_roundg gk
        case measure => omega
        case rel => exact ⟨i + 1, by omega, by go_num, (by rw [HS.out, HO.out]; exact HD1), HT.out.trans HT1.out⟩
    | zero =>
      obtain rfl : i = m := by omega
      have hii : ¬ (i : Int) < (i : Int) := by omega
      have HD2 : Hid (DvP wr p q (keepAll st keep) cs) := by
        have := HDr.out
        rw [List.take_of_length_le (Nat.le_of_eq HK.out)] at this
        exact this
      have hlen := keepAll_len st keep
      generalize hs1 : keepAll st keep = s1 at *
      have HS1 := Lib.hid hs1
      have HLN : Hid (s1.length = n) := hlen.trans HN.out
      clear hs1 hlen HDr
      go_wp2_with fail
      refine (looses_ok HD2.out).mono ?_
      rintro e w2 ⟨V, rfl, ho, hb⟩
      have HO := Lib.hid (own_mono ho HT.out.size)
      have HD3 := Lib.hid (HD2.out.below hb)
      have HT3 := Lib.hid (HT.out.trans (Turns.of_below hb p q))
      obtain ⟨cap, hsl, _⟩ := HD3.out.slice
      rw [HLN.out] at hsl
      clear ho hb
      go_wp2
      clear hsl
      go_loopg [11, 12, 44] n (fun gk s11 s12 s44 wx => ∃ i : Nat, i + gk = n ∧ s44 = .int .i64 i ∧ Hid (DvP wx p q (mapTo Cl.cut s1 i) cs) ∧ Hid (Turns p q w wx) ∧ Hid (Turns p q w2 wx))
      case atStart => exact ⟨0, by omega, rfl, (by rw [mapTo_zero]; exact HD3), HT3, Turns.refl _ _ _⟩
      case round =>
        obtain ⟨j, hjg, rfl, HDr, HTr, HT2r⟩ := hrel
        cases gk with
        | zero =>
          obtain rfl : j = n := by omega
          have hjj : ¬ (j : Int) < (j : Int) := by omega
          have HD4 : Hid (DvP wr p q (s1.map Cl.cut) cs) := by
            have := HDr.out
            rw [mapTo_all _ _ _ (Nat.le_of_eq HLN.out)] at this
            exact this
          go_wp2_with fail
          refine (add_ok HD4.out 4 (by decide)).mono ?_
          rintro e w5 ⟨rfl, hd5, ht5⟩
          have HD5 := Lib.hid hd5
          have HT5 := Lib.hid ht5
          clear hd5 ht5
          go_wp2
          go_ret2
          refine Cutted.mk' ?_ ?_ (HTr.out.trans HT5.out)
          · rw [HS1.out]
            exact own_turns HO.out (HT2r.out.trans HT5.out) HLP.out HLQ.out
          · rw [HS1.out]
            exact HD5.out
        | succ gk =>
          have hjj : (j : Int) < (n : Int) := by omega
          have hj : j < s1.length := by have := HLN.out; omega
          obtain ⟨c, hc⟩ : ∃ c, s1[j]? = some c := ⟨_, List.getElem?_eq_getElem hj⟩
          have hc1 := mapTo_at Cl.cut s1 j hc
          have HS := Lib.hid (mapTo_set Cl.cut s1 j hc)
          obtain ⟨cap1, hsl1, _⟩ := HDr.out.slice
          rw [mapTo_len, HLN.out] at hsl1
          have hok := oks_at HDr.out.oks hc1
          have HC1 := Lib.hid hc1
          have HF := Lib.hid (HDr.out.range_p hc1)
          have HX := Lib.hid hok.2.1
          have hov := over_v hok 0 c.p (by have := hok.2.1; omega)
          rw [List.take_zero, List.nil_append, Nat.zero_add, List.drop_of_length_le (by have := hok.1; have := hok.2.1; omega), List.append_nil] at hov
          have HOV := Lib.hid hov
          have HOK1 : Hid (({ c with v := c.p } : Cl).ok) := ⟨hok.2.1, hok.2.1, hok.2.2⟩
          have HC2 : Hid (((mapTo Cl.cut s1 j).set j { c with v := c.p })[j]? = some { c with v := c.p }) := by show _ = _; rw [List.getElem?_set_self (by rw [mapTo_len]; exact hj)]
          have HFE : Hid (c.cut = ({ c with v := c.p } : Cl).stop) := rfl
          clear hc hc1 hok hov
          generalize c.cut = d at *
          generalize ({ c with v := c.p } : Cl) = c1 at *
          go_wp2_with (first
            | ((with_reducible show wpList _ _ _ (⟨some 57, _, _, _, _, _⟩ :: _) _ _); refine wpList_load_agg (o := ⟨some 57, _, _, _, _, _⟩) rfl 93 (.tmp 56) rfl q (j * 193 + 64) rfl (enc c.p) _ HF.out Try.underlying93 rfl (by rw [enc_len, HX.out]; exact size_content) ?_)
            | ((with_reducible show wpList _ _ _ (⟨none, .store 93 _ _, _, _, _, _⟩ :: _) _ _); refine wpList_store_line (o := ⟨none, .store 93 (.tmp 59) (.tmp 57), _, _, _, _⟩) rfl _ _ _ rfl rfl HDr.out HC1.out (j * 193) 0 rfl (.agg (enc c.p).toArray) (enc c.p) rfl rfl rfl (by rw [enc_len, HX.out]; exact size_content) (by rw [enc_len, HX.out]; omega) _ HOV.out HOK1.out enc_one ?_; intro w6 HD6 HT6)
            | ((with_reducible show Calls _ 56 _ _ _); refine (stop_ok HD6.out HC2.out).mono ?_; rintro e w7 ⟨rfl, hd7, ht7⟩; have HD7 := Lib.hid hd7; have HT7 := Lib.hid ht7; clear hd7 ht7))
          go_roundg gk
          case measure => omega
          case rel =>
            refine ⟨j + 1, by omega, by go_num, ?_, (HTr.out.trans HT6.out).trans HT7.out, (HT2r.out.trans HT6.out).trans HT7.out⟩
            have := HD7.out
            rw [List.set_set] at this
            rw [← HS.out, HFE.out]
            exact this

end Go.Proofs.Ytifodinikonkhaa
