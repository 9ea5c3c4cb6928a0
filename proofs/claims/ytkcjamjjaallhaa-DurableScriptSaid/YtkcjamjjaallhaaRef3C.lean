/-
  Proved here: what chapter 3's own Fence, Loose, Way and in answer and leave.
  Conditions: a device of at most 258 lines.
-/
import Derived.Test.YtkcjamjjaallhaaRef3B
namespace Go.Proofs.Ytkcjamjjaallhaa
open Go Go.RowKit

def Cl.rfence (c : Cl) : Cl := if c.on then { c with p := c.f, on := false } else c
set_option maxHeartbeats 1600000 in
set_option maxRecDepth 100000 in
theorem rfence_ok {w : World} {p q : Nat} {st : List Cl} {cs : List Int} (h : DvR w p q st cs) :
    Calls Try.prog 44 #[.pointer (some ⟨p, 0, none⟩)] w fun e w' => e = .returned (.tuple #[]) ∧ DvR w' p q (st.map Cl.rfence) (bump cs 2) ∧ Turns p q w w' := by
  have HD := Lib.hid h
  obtain ⟨n, hn'⟩ : ∃ n, st.length = n := ⟨_, rfl⟩
  have HN := Lib.hid hn'
  have hnl : n ≤ 258 := by have := h.len; omega
  obtain ⟨X, hX⟩ : ∃ X, cs.getD 2 0 = X := ⟨_, rfl⟩
  have HCX := Lib.hid hX
  clear h hn' hX
  go_enter Try.func44, Try.ntmps44
  go_wp2
  go_loopg [2] n (fun gk s2 wx => ∃ i : Nat, i + gk = n ∧ s2 = .int .i64 i ∧ Hid (DvR wx p q (mapTo Cl.rfence st i) cs) ∧ Hid (Turns p q w wx))
  case atStart => exact ⟨0, by omega, rfl, (by rw [mapTo_zero]; exact HD), Turns.refl _ _ _⟩
  case round =>
    obtain ⟨i, hig, rfl, HDr, HT⟩ := hrel
    obtain ⟨cap1, hsl1, _⟩ := HDr.out.slice
    rw [mapTo_len, HN.out] at hsl1
    cases gk with
    | zero =>
      obtain rfl : i = n := by omega
      have hii : ¬ (i : Int) < (i : Int) := by omega
      have HD2 : Hid (DvR wr p q (st.map Cl.rfence) cs) := by
        have := HDr.out
        rw [mapTo_all _ _ _ (Nat.le_of_eq HN.out)] at this
        exact this
      have hct := (HD2.out.count 2 (by decide)).1
      have hfz := (HD2.out.count 2 (by decide)).2
      rw [HCX.out] at hct
      go_wp2
      refine bodyPost_end (results_none rfl _ _ _) rfl ?_
      exact ⟨rfl, counted HD2.out 2 3 rfl X HCX.out, HT.out.setCell_p _ _⟩
    | succ gk =>
      have hii : (i : Int) < (n : Int) := by omega
      have hi : i < st.length := by have := HN.out; omega
      obtain ⟨c, hc⟩ : ∃ c, st[i]? = some c := ⟨_, List.getElem?_eq_getElem hi⟩
      have hc1 := mapTo_at Cl.rfence st i hc
      have HS := Lib.hid (mapTo_set Cl.rfence st i hc)
      have hon := HDr.out.cell_on hc1
      have hok := oks_at HDr.out.oks hc1
      have HC1 := Lib.hid hc1
      have HF := Lib.hid (HDr.out.drew.range_f hc1)
      have HDd := Lib.hid HDr.out.drew
      have HTd := Lib.hid HT.out.drew
      have HX := Lib.hid hok.2.2
      have HOV := Lib.hid (over_p hok c.f hok.2.2)
      have hok1 : (({ c with p := c.f } : Cl).ok) := ⟨hok.1, hok.2.2, hok.2.2⟩
      have HOK1 := Lib.hid hok1
      have HON := Lib.hid (over_on hok1 false)
      have HOK2 : Hid (({ c with p := c.f, on := false } : Cl).ok) := hok1
      have HC2 : Hid (((mapTo Cl.rfence st i).set i { c with p := c.f })[i]? = some { c with p := c.f }) := by show _ = _; rw [List.getElem?_set_self (by rw [mapTo_len]; exact hi)]
      clear hc hc1 hok hok1
      cases ho : c.on with
      | false =>
        have HFE : Hid (c.rfence = c) := by show _ = _; simp [Cl.rfence, ho]
        rw [ho] at hon
        clear ho
        go_wp2
        go_roundg gk
        case measure => omega
        case rel =>
          refine ⟨i + 1, by omega, by go_num, ?_, HT⟩
          rw [← HS.out, HFE.out, set_same HC1.out]
          exact HDr
      | true =>
        have HFE : Hid (c.rfence = { c with p := c.f, on := false }) := by show _ = _; simp [Cl.rfence, ho]
        rw [ho] at hon
        clear ho
        go_wp2_with fail
        refine wp_region_still_tail 15 (by kernel_rfl) (by kernel_rfl) ?_
        change wpStill _ _ wr.drew _ _ _
        simp only [List.take_succ_cons, List.take_zero, List.drop_succ_cons, List.drop_zero]
        iterate 12 still_step
        refine wpStill_load_mid rfl 104 (.tmp 31) rfl q (i * 193 + 128) rfl (enc c.f) _ HF.out Try.underlying104 rfl (by rw [enc_len, HX.out]; exact size_arr) ?_
        go_simp
        iterate 2 still_step
        refine wpStill_nil ?_
        refine wpList_store_line (o := ⟨none, .store 104 (.tmp 34) (.tmp 32), _, _, _, _⟩) rfl _ _ _ rfl rfl HDd.out HC1.out (i * 193 + 64) 64 rfl (.agg (enc c.f).toArray) (enc c.f) rfl rfl rfl (by rw [enc_len, HX.out]; exact size_arr) (by rw [enc_len, HX.out]; omega) _ HOV.out HOK1.out enc_one ?_
        intro w1 HD1 HT1
        obtain ⟨cap2, hsl2, _⟩ := HD1.out.slice
        rw [List.length_set, mapTo_len, HN.out] at hsl2
        clear hsl1 hon
        go_wp2_with (first
          | ((with_reducible show wpList _ _ _ (⟨none, .store 4 _ _, _, _, _, _⟩ :: _) _ _); refine wpList_store_line (o := ⟨none, .store 4 (.tmp 41) _, _, _, _, _⟩) rfl _ _ _ rfl rfl HD1.out HC2.out (i * 193 + 192) 192 rfl (.bool false) [.bool false] rfl rfl rfl size_bool (by decide) _ HON.out HOK2.out (by intro u hu; simp at hu; subst hu; rfl) ?_; intro w2 HD2 HT2; clear hsl2))
        go_roundg gk
        case measure => omega
        case rel =>
          refine ⟨i + 1, by omega, by go_num, ?_, (HTd.out.trans HT1.out).trans HT2.out⟩
          have := HD2.out
          rw [List.set_set] at this
          rw [← HS.out, HFE.out]
          exact this
theorem equal_arr (a b : List UInt8) (ha : a.length = 64) (hb : b.length = 64) (w : World) : (Op.equalIn 10000 104 (.agg (enc a).toArray) (.agg (enc b).toArray)).run Try.prog w = .ok (a == b) w := equal_arrT Try.underlying104 a b ha hb w
theorem guard_arr : Try.prog.eqGuardType Try.prog.depth 104 = false := by kernel_rfl
end Go.Proofs.Ytkcjamjjaallhaa
