/-
  Proved here: that both clocks, and both devices, tell the same; both beside one another, as the law DurableScript has them.
  Conditions: at most 500 notes of a thread.
-/
import Derived.Test.YtkcjamjjaallhaaRef9B
import Derived.Test.YtkcjamjjaallhaaActs9
import Derived.Test.YtkcjamjjaallhaaNum
import Derived.Deep.RegionHeld3
namespace Go.Proofs.Ytkcjamjjaallhaa
open Go Go.RowKit

theorem rload_at9 {w : World} {p q : Nat} {s : St} (h : DvT w p q s) (i : Nat) (hi : i < s.1.length) : Calls Try.prog 55 #[.pointer (some ⟨p, 0, none⟩), .int .i64 i] w (Loaded 104 w (clAt s.1 (i : Int)).v) := rload_ok h (clAt_some hi)
theorem rdurable_at9 {w : World} {p q : Nat} {s : St} (h : DvT w p q s) (i : Nat) (hi : i < s.1.length) : Calls Try.prog 56 #[.pointer (some ⟨p, 0, none⟩), .int .i64 i] w (Loaded 104 w (clAt s.1 (i : Int)).p) := rdurable_ok h (clAt_some hi)
set_option maxHeartbeats 1600000 in
theorem lines2_any {w : World} {dp dq vp vq : Nat} {s u : St} (hd : DvS w dp dq s) (hv : DvT w vp vq u) (hs : Sim s u) : Calls Try.prog 26 #[.pointer (some ⟨dp, 0, none⟩), .pointer (some ⟨vp, 0, none⟩)] w fun e w' => e = .returned (.bool true) ∧ Below w.heap.size w w' := by
  have HD := Lib.hid hd
  have HV := Lib.hid hv
  have HS := Lib.hid hs
  obtain ⟨cap, hsl, hcap⟩ := hv.slice
  have hlp := hv.lt_p
  have HSL := Lib.hid (fun w' (hb : Below w.heap.size w w') => (hb.cell (p := ⟨vp, 0, none⟩) hlp).trans hsl)
  have hm258 := hv.len
  obtain ⟨m, hm⟩ : ∃ m, u.1.length = m := ⟨_, rfl⟩
  rw [hm] at HSL hm258
  have HM := Lib.hid hm
  obtain ⟨G, hG⟩ : ∃ G, w.heap.size = G := ⟨_, rfl⟩
  rw [hG] at HSL ⊢
  have HG := Lib.hid hG
  clear hd hv hs hsl hcap hlp hm hG
  go_enter Try.func26, Try.ntmps26
  go_wp2
  go_loopg [5, 6, 7, 8, 9, 10, 11, 12, 13] m (fun gk s5 s6 s7 s8 s9 s10 s11 s12 s13 wx => ∃ i : Nat, i + gk = m ∧ s5 = .int .i64 i ∧ Hid (Below G w wx))
  case atStart => exact ⟨0, by omega, rfl, Below.refl _ _⟩
  case round =>
    obtain ⟨i, hig, rfl, HW⟩ := hrel
    have hslr := HSL.out wr HW.out
    cases gk with
    | zero =>
      obtain rfl : i = m := by omega
      have hii : ¬ (i : Int) < (i : Int) := by omega
      go_wp2
      go_ret
      exact ⟨rfl, HW.out⟩
    | succ gk =>
      have hii : (i : Int) < (m : Int) := by omega
      have hiu : i < u.1.length := by have := HM.out; omega
      have his : i < s.1.length := by have := HS.out.len; omega
      have hwb : Below w.heap.size w wr := by rw [HG.out]; exact HW.out
      have H1 := Lib.hid (load_at (HD.out.below hwb) i his)
      have hsim := HS.out.at_ i his
      have hok := clAt_ok HD.out i his
      have HX := Lib.hid hok.1
      have HY := Lib.hid hok.2.1
      have H2 := Lib.hid (fun w' (hb : Below wr.heap.size wr w') => rload_at9 ((HV.out.below hwb).below hb) i hiu)
      have H3 := Lib.hid (fun w' (hb : Below wr.heap.size wr w') => durable_at ((HD.out.below hwb).below hb) i his)
      have H4 := Lib.hid (fun w' (hb : Below wr.heap.size wr w') => rdurable_at9 ((HV.out.below hwb).below hb) i hiu)
      rw [← hsim.1] at H2
      rw [← hsim.2.1] at H4
      generalize (clAt s.1 (i : Int)).v = X at *
      generalize (clAt s.1 (i : Int)).p = Y at *
      clear hsim hok hwb hiu his
      go_wp2_with fail
      refine H1.out.mono ?_
      rintro e w1 ⟨g1, rfl, _, ha1, hb1⟩
      have HA1 := Lib.hid ha1
      have HB1 := Lib.hid hb1
      clear ha1 hb1
      go_wp2_with fail
      refine (H2.out w1 HB1.out).mono ?_
      rintro e w2 ⟨g2, rfl, _, ha2, hb2⟩
      have HA2 := Lib.hid ha2
      have HB2 := Lib.hid (HB1.out.trans (hb2.mono HB1.out.size))
      have HA12 := Lib.hid (HA1.out.below hb2 HA1.out.lt)
      clear ha2 hb2
      go_wp2_with fail
      refine (H3.out w2 HB2.out).mono ?_
      rintro e w3 ⟨g3, rfl, _, ha3, hb3⟩
      have HA3 := Lib.hid ha3
      have HB3 := Lib.hid (HB2.out.trans (hb3.mono HB2.out.size))
      have HA13 := Lib.hid (HA12.out.below hb3 HA12.out.lt)
      have HA23 := Lib.hid (HA2.out.below hb3 HA2.out.lt)
      clear ha3 hb3
      go_wp2_with fail
      refine (H4.out w3 HB3.out).mono ?_
      rintro e w4 ⟨g4, rfl, _, ha4, hb4⟩
      have HA4 := Lib.hid ha4
      have HB4 := Lib.hid (HB3.out.trans (hb4.mono HB3.out.size))
      have HA14 := Lib.hid (HA13.out.below hb4 HA13.out.lt)
      have HA24 := Lib.hid (HA23.out.below hb4 HA23.out.lt)
      have HA34 := Lib.hid (HA3.out.below hb4 HA3.out.lt)
      clear ha4 hb4
      go_wp2_with fail
      refine (same_arr9 w4 g1 g2 X HX.out HA14.out HA24.out).mono ?_
      rintro e w' ⟨rfl, rfl⟩
      go_wp2_with fail
      refine (same_arr9 w4 g3 g4 Y HY.out HA34.out HA4.out).mono ?_
      rintro e w' ⟨rfl, rfl⟩
      go_wp2
      go_roundg gk
      case measure => omega
      case rel => exact ⟨i + 1, by omega, by go_num, HW.out.trans (HB4.out.mono (by have := HW.out.size; have := HG.out; omega))⟩
theorem closing9_idle {S : List Nat} {w : World} {p o : Nat} {c : Ck} (h : Cm S w p o c) (e : c.ph = 0) : Calls Try.prog 33 #[.pointer (some ⟨p, 0, none⟩)] w fun e w' => e = .returned (.tuple #[.int .u64 0, .bool false]) ∧ w = w' := by
  have := ckclosing_any h
  simpa [e] using this
theorem closing9_busy {S : List Nat} {w : World} {p o : Nat} {c : Ck} (h : Cm S w p o c) (e : c.ph ≠ 0) : Calls Try.prog 33 #[.pointer (some ⟨p, 0, none⟩)] w fun e w' => e = .returned (.tuple #[.int .u64 ((c.dur + 1 : Nat) : Int), .bool true]) ∧ w = w' := by
  have := ckclosing_any h
  rw [if_neg e, decide_eq_false e] at this
  exact this
/-- Both tell the same of what is being closed. -/
theorem both_close {S S' : List Nat} {g : Nat} {w : World} {p o r M : Nat} {c : Ck} {N : List (List Int)} (h : Cm S w p o c) (h' : Rm S' g w r c N M) : ∃ (E : Int) (b : Bool), Calls Try.prog 33 #[.pointer (some ⟨p, 0, none⟩)] w (fun e w' => e = .returned (.tuple #[.int .u64 E, .bool b]) ∧ w = w') ∧
    Calls Try.prog 50 #[.pointer (some ⟨r, 0, none⟩)] w (fun e w' => e = .returned (.tuple #[.int .u64 E, .bool b]) ∧ w = w') := by
  rcases Nat.eq_zero_or_pos c.ph with e | e
  · exact ⟨0, false, closing9_idle h e, r9epoch_idle h' e⟩
  · exact ⟨_, true, closing9_busy h (by omega), r9epoch_busy h' (by omega)⟩
theorem own_b {w w' : World} {base n : Nat} {v : Value} {xs : List Value} {e : TypeId} (h : w.ownsRow base e 1 v n xs) (hb : Below w.heap.size w w') : w'.ownsRow base e 1 v n xs :=
  ⟨h.1, h.2.imp id fun ⟨g, cap, cur, h1, h2, h3, h4⟩ => ⟨g, cap, cur, h1, h2, (hb.block g (lt_of_heap h3)).trans h3, h4⟩⟩
set_option maxHeartbeats 3200000 in
set_option maxRecDepth 100000 in
theorem alike9_any {S S' : List Nat} {g : Nat} {w : World} {p o r M : Nat} {c : Ck} {N : List (List Int)} (h : Cm S w p o c) (h' : Rm S' g w r c N M) : Calls Try.prog 25 #[.pointer (some ⟨p, 0, none⟩), .pointer (some ⟨r, 0, none⟩)] w fun e w' => e = .returned (.bool true) ∧ Below w.heap.size w w' := by
  obtain ⟨E, b, hcl, hep⟩ := both_close h h'
  have HCL := Lib.hid hcl
  have HEP := Lib.hid hep
  have HC := Lib.hid h
  have HR := Lib.hid h'
  have hEE : (E == E) = true := by simp
  have hbb : (b == b) = true := by simp
  have HKO : Hid (c.owed.length ≤ 1000) := by have := h.ok.four; show c.owed.length ≤ 1000; omega
  have HKL : Hid (c.left.length ≤ 1000) := by have := h.ok.left; show c.left.length ≤ 1000; omega
  clear hcl hep h h'
  go_enter Try.func25, Try.ntmps25
  go_wp2_with fail
  refine HCL.out.mono ?_
  rintro e w' ⟨rfl, rfl⟩
  go_wp2_with fail
  refine HEP.out.mono ?_
  rintro e w' ⟨rfl, rfl⟩
  go_wp2_with fail
  refine (ckowed_any HC.out).mono ?_
  rintro e w1 ⟨V1, rfl, ho1, hb1⟩
  obtain ⟨A1, cap1, rfl, hrow1, _, _⟩ := rowI_of_own ho1 (by have := HKO.out; omega)
  have HO1 := Lib.hid ho1
  have HB1 := Lib.hid hb1
  have HW1 := Lib.hid hrow1
  clear ho1 hb1 hrow1
  go_wp2_with fail
  refine (ckleft_any (HC.out.below HB1.out)).mono ?_
  rintro e w2 ⟨V2, rfl, ho2, hb2⟩
  obtain ⟨A2, cap2, rfl, hrow2, _, _⟩ := rowI_of_own ho2 (by have := HKL.out; omega)
  have HO2 := Lib.hid ho2
  have HB2 := Lib.hid (HB1.out.trans (hb2.mono HB1.out.size))
  have HO1b := Lib.hid (own_b HO1.out hb2)
  have HSZ : Hid (w1.heap.size ≤ w2.heap.size) := hb2.size
  have HW1b := Lib.hid (HW1.out.below hb2)
  have HW2 := Lib.hid hrow2
  clear ho2 hb2 hrow2
  have hr2 := (HR.out.below HB2.out).below (below_drewN (Below.refl _ _) 1)
  have hc2 := (HC.out.below HB2.out).below (below_drewN (Below.refl _ _) 1)
  obtain ⟨n, A, cap, dn, c0, c1, _⟩ := hr2.reads
  have d0 : w2.cell? ⟨r, 0, none⟩ = some (.int .u64 (c.now : Nat)) := c0
  have d1 : w2.cell? ⟨r, 1, none⟩ = some (.int .u64 (c.dur : Nat)) := c1
  have HN := Lib.hid (cknow_any hc2)
  have HDU := Lib.hid (ckdur_any hc2)
  have HOW := Lib.hid (r9owed_any hr2)
  have HR2 := Lib.hid hr2
  have hnn : ((c.now : Int) == (c.now : Int)) = true := by simp
  have hdd : ((c.dur : Int) == (c.dur : Int)) = true := by simp
  clear hr2 hc2
  go_wp2
  go_region_held3 (fun w' => w'.cell? ⟨r, 0, none⟩ = some (.int .u64 (c.now : Nat)) ∧ w'.cell? ⟨r, 1, none⟩ = some (.int .u64 (c.dur : Nat))) (go_keep)
    (first
      | (go_at_call 32; refine HN.out.mono ?_; rintro e w' ⟨rfl, rfl⟩)
      | (go_at_call 27; refine HDU.out.mono ?_; rintro e w' ⟨rfl, rfl⟩)
      | (go_at_call 52; refine HOW.out.mono ?_; rintro e w3 ⟨V3, rfl, ho3, hb3⟩; obtain ⟨A3, cap3, rfl, hrow3, _, _⟩ := rowI_of_own ho3 (by have := HKO.out; omega); have HB3 := Lib.hid hb3; have HW3 := Lib.hid hrow3; have e0 : w3.cell? ⟨r, 0, none⟩ = some (.int .u64 (c.now : Nat)) := (hb3.cell (p := ⟨r, 0, none⟩) HR2.out.lt_r).trans c0; have e1 : w3.cell? ⟨r, 1, none⟩ = some (.int .u64 (c.dur : Nat)) := (hb3.cell (p := ⟨r, 1, none⟩) HR2.out.lt_r).trans c1; have HS1 := Lib.hid (samei_any w3 A1 A3 c.owed.length cap1 cap3 c.owed rfl ((HW1b.out.below (below_drewN (Below.refl _ _) 1)).below hb3) hrow3); clear ho3 hb3 hrow3)
      | (go_at_call 51; (with_reducible show Calls _ _ #[.slice A1 _ _, _] _ _); refine HS1.out.mono ?_; rintro e w' ⟨rfl, k1, rfl⟩; have HLF := Lib.hid (r9left_any ((HR2.out.below HB3.out).below (below_drewN (Below.refl _ _) k1))); have f0 : (w3.drewN k1).cell? ⟨r, 0, none⟩ = some (.int .u64 (c.now : Nat)) := e0; have f1 : (w3.drewN k1).cell? ⟨r, 1, none⟩ = some (.int .u64 (c.dur : Nat)) := e1)
      | (go_at_call 53; refine HLF.out.mono ?_; rintro e w' ⟨⟨A4, cap4, rfl, hrow4, _⟩, rfl⟩; have HS2 := Lib.hid (samei_any (w3.drewN k1) A2 A4 c.left.length cap2 cap4 c.left rfl (((HW2.out.below (below_drewN (Below.refl _ _) 1)).below HB3.out).below (below_drewN (Below.refl _ _) k1)) hrow4); clear hrow4)
      | (go_at_call 51; (with_reducible show Calls _ _ #[.slice A2 _ _, _] _ _); refine HS2.out.mono ?_; rintro e w' ⟨rfl, k2, rfl⟩; have g0 : ((w3.drewN k1).drewN k2).cell? ⟨r, 0, none⟩ = some (.int .u64 (c.now : Nat)) := f0; have g1 : ((w3.drewN k1).drewN k2).cell? ⟨r, 1, none⟩ = some (.int .u64 (c.dur : Nat)) := f1))
  have HB24 : Hid (Below w2.heap.size w2 (w3.drewN (k1 + k2))) := below_drewN (((below_drewN (Below.refl _ _) 1 : Below w2.heap.size w2 (w2.drewN 1))).trans HB3.out) (k1 + k2)
  have HP1 := Lib.hid (own_b HO1b.out HB24.out)
  have HP2 := Lib.hid (own_b HO2.out HB24.out)
  have HB4 := Lib.hid (HB2.out.trans (HB24.out.mono HB2.out.size))
  have HLT1 := Lib.hid (own_lt HO1.out)
  have HSZ1 : Hid (w1.heap.size ≤ (w3.drewN (k1 + k2)).heap.size) := Nat.le_trans (Nat.le_trans (by have := HB2.out.size; have := HSZ.out; omega) (Nat.le_refl _)) HB24.out.size
  clear HS1 HS2 HLF HN HDU HOW HR2 HW1b HW2 HB3 HW3 HO1b HO2 HW1 HR HC c0 c1 d0 d1 e0 e1 f0 f1 g0 g1
  generalize w3.drewN (k1 + k2) = w4 at *
  go_wp2_with fail
  refine (overi_sp w4 w.heap.size c.owed.length _ c.owed rfl (by have := HKO.out; omega) HP1.out (by have := HB4.out.size; omega)).mono ?_
  rintro e w5 ⟨rfl, hs5⟩
  have HP25 := Lib.hid (hs5.own HP2.out HLT1.out)
  have HB5 := Lib.hid (HB4.out.trans (hs5.below (fun k hk => own_ge HP1.out k hk) (by have := HB4.out.size; omega)))
  have HSZ5 := Lib.hid (Nat.le_trans HSZ1.out hs5.size)
  clear hs5
  go_wp2_with fail
  refine (overi_sp w5 w1.heap.size c.left.length _ c.left rfl (by have := HKL.out; omega) HP25.out HSZ5.out).mono ?_
  rintro e w6 ⟨rfl, hs6⟩
  have HB6 := Lib.hid (HB5.out.trans (hs6.below (fun k hk => by have := own_ge HP25.out k hk; have := HB1.out.size; omega) (by have := HB5.out.size; omega)))
  clear hs6
  go_wp2
  go_ret
  exact ⟨rfl, HB6.out⟩
/-- The program's clock and device beside the chapter's own, behind a world w0. -/
structure T9 (S : List Nat) (g : Nat) (w0 w : World) (p o dp dq r vp vq : Nat) (c : Ck) (s : St) (c2 : Ck) (u : St) (M : Nat) : Prop where
  lw : Lw S g w0 w p o dp dq c s
  rd : ∃ N, Rd9 S g w r vp vq c2 N M u
  pos : 0 < s.1.length
  pou : 0 < u.1.length
  a1 : r ∉ [p, o, dp, dq]
  a2 : vp ∉ [p, o, dp, dq]
  a3 : vq ∉ [p, o, dp, dq]
section
variable {S L : List Nat} {g : Nat} {w0 w w' : World} {p o dp dq r vp vq M M' : Nat} {c c' c2 c2' : Ck} {s s' u u' : St}
theorem T9.p_turn (h : T9 S g w0 w p o dp dq r vp vq c s c2 u M) (hl : Lw S g w0 w' p o dp dq c' s') (hk : Keeps [p, o, dp, dq] w w') (hs : s'.1.length = s.1.length) : T9 S g w0 w' p o dp dq r vp vq c' s' c2 u M := by
  obtain ⟨N, hr⟩ := h.rd
  exact ⟨hl, ⟨N, hr.rm.keeps hk h.a1 h.lw.sub, hr.dv.keeps hk h.a2 h.a3, hr.inp, hr.inq, hr.rp, hr.rq, hr.gp, hr.gq, Nat.le_trans hr.gw hk.size, fun y hy => Nat.lt_of_lt_of_le (hr.lt y hy) hk.size⟩, by rw [hs]; exact h.pos, h.pou, h.a1, h.a2, h.a3⟩
theorem not4 {x : Nat} (h : x ∉ [p, o, dp, dq]) : p ≠ x ∧ o ≠ x ∧ dp ≠ x ∧ dq ≠ x := by
  simp only [List.mem_cons, List.not_mem_nil, or_false, not_or] at h
  exact ⟨fun e => h.1 e.symm, fun e => h.2.1 e.symm, fun e => h.2.2.1 e.symm, fun e => h.2.2.2 e.symm⟩
theorem T9.r_turn (h : T9 S g w0 w p o dp dq r vp vq c s c2 u M) (hr' : ∃ N', Rm S g w' r c2' N' M') (hd : DvT w' vp vq u') (hL : ∀ x ∈ L, x ∈ [r, vp, vq]) (f : Fr g L w w') (hu : u'.1.length = u.1.length) : T9 S g w0 w' p o dp dq r vp vq c s c2' u' M' := by
  obtain ⟨N, hr⟩ := h.rd
  obtain ⟨N', hr'⟩ := hr'
  have n1 := not4 h.a1
  have n2 := not4 h.a2
  have n3 := not4 h.a3
  have hout : ∀ x, x ≠ r → x ≠ vp → x ≠ vq → x ∉ L := fun x e1 e2 e3 hx => by
    have := hL x hx
    simp [e1, e2, e3] at this
  have hin : ∀ x ∈ L, x ∈ S := fun x hx => by
    have := hL x hx
    simp only [List.mem_cons, List.not_mem_nil, or_false] at this
    rcases this with rfl | rfl | rfl
    · exact hr.rm.inr
    · exact hr.inp
    · exact hr.inq
  exact ⟨h.lw.fr f h.pos (hout _ n1.1 n2.1 n3.1) (hout _ n1.2.1 n2.2.1 n3.2.1) (hout _ n1.2.2.1 n2.2.2.1 n3.2.2.1) (hout _ n1.2.2.2 n2.2.2.2 n3.2.2.2) hin, ⟨N', hr', hd, hr.inp, hr.inq, hr.rp, hr.rq, hr.gp, hr.gq, Nat.le_trans hr.gw f.size, fun y hy => Nat.lt_of_lt_of_le (hr.lt y hy) f.size⟩, h.pos, by rw [hu]; exact h.pou, h.a1, h.a2, h.a3⟩
theorem T9.below (h : T9 S g w0 w p o dp dq r vp vq c s c2 u M) (hb : Below w.heap.size w w') : T9 S g w0 w' p o dp dq r vp vq c s c2 u M := h.p_turn (h.lw.below hb) (Keeps.of_below hb _) rfl
theorem T9.gw (h : T9 S g w0 w p o dp dq r vp vq c s c2 u M) : g ≤ w.heap.size := h.lw.gw
theorem T9.note_p (h : T9 S g w0 w p o dp dq r vp vq c s c2 u M) (t x : Int) : Calls Try.prog 15 #[.pointer (some ⟨p, 0, none⟩), .int .i64 t, .int .i64 x] w fun e w' => e = .returned (.int .i64 (c.noteE t x)) ∧ T9 S g w0 w' p o dp dq r vp vq (c.note t x) s c2 u M ∧ Keeps [p, o, dp, dq] w w' :=
  (h.lw.note_k t x).mono fun _ _ ⟨he, hl, hk⟩ => ⟨he, h.p_turn hl hk rfl, hk⟩
theorem T9.begin_p (h : T9 S g w0 w p o dp dq r vp vq c s c2 u M) : Calls Try.prog 17 #[.pointer (some ⟨p, 0, none⟩)] w fun e w' => e = .returned (.int .i64 c.beginE) ∧ T9 S g w0 w' p o dp dq r vp vq c.begin_ s c2 u M :=
  h.lw.begin_k.mono fun _ _ ⟨he, hl, hk⟩ => ⟨he, h.p_turn hl hk rfl⟩
theorem T9.step_p (h : T9 S g w0 w p o dp dq r vp vq c s c2 u M) (hlt : c.dur + 3 < 18446744073709551616) : Calls Try.prog 19 #[.pointer (some ⟨p, 0, none⟩), .pointer (some ⟨dp, 0, none⟩)] w fun e w' => e = .returned (.tuple #[.int .i64 c.act, .int .i64 c.stepE]) ∧ T9 S g w0 w' p o dp dq r vp vq c.step (c.dev s) c2 u M :=
  (h.lw.step_k hlt).mono fun _ _ ⟨he, hl, hk⟩ => ⟨he, h.p_turn hl hk (Ck.dev_len c s)⟩
theorem T9.store_p (h : T9 S g w0 w p o dp dq r vp vq c s c2 u M) (x y : Int) (B : Option Addr) (m k : Nat) (l : List UInt8) (hl : l.length = m) (hB : Row w B l) (hB0 : B = none → k = 0) :
    Calls Try.prog 21 #[.pointer (some ⟨dp, 0, none⟩), .int .i64 x, .int .i64 y, .slice B m k] w fun e w' => e = .returned (.int .i64 (err (has s.1 x && fitsAt y m))) ∧ T9 S g w0 w' p o dp dq r vp vq c (s.store x y l) c2 u M ∧ Keeps [p, o, dp, dq] w w' :=
  (h.lw.store_k x y B m k l hl hB hB0).mono fun _ _ ⟨he, hl, hk⟩ => ⟨he, h.p_turn hl hk (St.store_len _ _ _ _), hk⟩
theorem T9.back_p (h : T9 S g w0 w p o dp dq r vp vq c s c2 u M) (x : Int) : Calls Try.prog 23 #[.pointer (some ⟨dp, 0, none⟩), .int .i64 x] w fun e w' => e = .returned (.int .i64 (err (has s.1 x))) ∧ T9 S g w0 w' p o dp dq r vp vq c (s.back x) c2 u M ∧ Keeps [p, o, dp, dq] w w' :=
  (back_any h.lw.cd.dv x).mono fun _ _ ⟨he, hd, ht⟩ => ⟨he, h.p_turn (h.lw.dv_turned hd ht) (ht.keeps (by simp) (by simp)) (St.back_len _ _), ht.keeps (by simp) (by simp)⟩
theorem T9.note_r (h : T9 S g w0 w p o dp dq r vp vq c s c2 u M) (hM : M ≤ 500) (t x : Int) : Calls Try.prog 16 #[.pointer (some ⟨r, 0, none⟩), .int .i64 t, .int .i64 x] w fun e w' => e = .returned (.int .i64 (c2.noteE t x)) ∧ T9 S g w0 w' p o dp dq r vp vq c s (c2.note t x) u (M + 1) ∧ Fr g [] w w' := by
  obtain ⟨N, hr⟩ := h.rd
  exact (hr.rm.note hM t x hr.lt hr.gw).mono fun _ _ ⟨he, h1, f⟩ => ⟨he, h.r_turn h1 (hr.dv.fr f h.pou (by simp) (by simp)) (by simp) f rfl, f⟩
theorem T9.begin_r (h : T9 S g w0 w p o dp dq r vp vq c s c2 u M) : Calls Try.prog 18 #[.pointer (some ⟨r, 0, none⟩)] w fun e w' => e = .returned (.int .i64 c2.beginE) ∧ T9 S g w0 w' p o dp dq r vp vq c s c2.begin_ u M := by
  obtain ⟨N, hr⟩ := h.rd
  exact (hr.rm.begin_ hr.lt hr.gw).mono fun _ _ ⟨he, h1, f⟩ => ⟨he, h.r_turn h1 (hr.dv.fr f h.pou (by simpa using hr.rp.symm) (by simpa using hr.rq.symm)) (by simp) f rfl⟩
theorem Ck.rdev_len (c : Ck) (s : St) : (c.rdev s).1.length = s.1.length := by
  unfold Ck.rdev
  split
  · rfl
  split
  · exact St.flush_len _ _
  split
  · simp [St.rfence]
  split
  · exact St.store_len _ _ _ _
  split
  · exact St.flush_len _ _
  · simp [St.rfence]
theorem T9.step_r (h : T9 S g w0 w p o dp dq r vp vq c s c2 u M) (hlt : c2.dur + 3 < 18446744073709551616) : Calls Try.prog 20 #[.pointer (some ⟨r, 0, none⟩), .pointer (some ⟨vp, 0, none⟩)] w fun e w' => e = .returned (.tuple #[.int .i64 c2.act, .int .i64 c2.stepE]) ∧ T9 S g w0 w' p o dp dq r vp vq c s c2.step (c2.rdev u) M := by
  obtain ⟨N, hr⟩ := h.rd
  exact (r9step_any hr hlt).mono fun _ _ ⟨he, h1, h2, f⟩ => ⟨he, h.r_turn ⟨N, h1⟩ h2 (by simp) f (Ck.rdev_len _ _)⟩
theorem T9.fr2 (h : T9 S g w0 w p o dp dq r vp vq c s c2 u M) (hd : DvT w' vp vq u') (ht : Turns vp vq w w') (hu : u'.1.length = u.1.length) : T9 S g w0 w' p o dp dq r vp vq c s c2 u' M := by
  obtain ⟨N, hr⟩ := h.rd
  exact h.r_turn ⟨N, hr.rm.keeps ht.k2 (not2 hr.rp hr.rq) (sub2 hr.inp hr.inq)⟩ hd (L := [vp, vq]) (by intro x hx; simp at hx; simp [hx]) (Fr.of_keeps ht.k2 (fun x hx => by simp at hx; rcases hx with rfl | rfl; exact hr.gp; exact hr.gq) hr.gw) hu
theorem T9.store_r (h : T9 S g w0 w p o dp dq r vp vq c s c2 u M) (x y : Int) (B : Option Addr) (m k : Nat) (l : List UInt8) (hl : l.length = m) (hB : Row w B l) (hne : 0 < l.length → ∀ x, B = some x → x.block ≠ vp ∧ x.block ≠ vq) :
    Calls Try.prog 22 #[.pointer (some ⟨vp, 0, none⟩), .int .i64 x, .int .i64 y, .slice B m k] w fun e w' => e = .returned (.int .i64 (err (has u.1 x && fitsAt y m))) ∧ T9 S g w0 w' p o dp dq r vp vq c s c2 (u.store x y l) M := by
  obtain ⟨N, hr⟩ := h.rd
  exact (rstore_any hr.dv x y B m k l hl hB hne).mono fun _ _ ⟨he, hd, ht⟩ => ⟨he, h.fr2 hd ht (St.store_len _ _ _ _)⟩
theorem T9.back_r (h : T9 S g w0 w p o dp dq r vp vq c s c2 u M) (x : Int) : Calls Try.prog 24 #[.pointer (some ⟨vp, 0, none⟩), .int .i64 x] w fun e w' => e = .returned (.int .i64 (err (has u.1 x))) ∧ T9 S g w0 w' p o dp dq r vp vq c s c2 (u.rback x) M := by
  obtain ⟨N, hr⟩ := h.rd
  exact (rback_any hr.dv x).mono fun _ _ ⟨he, hd, ht⟩ => ⟨he, h.fr2 hd ht (by unfold St.rback; split <;> simp)⟩
theorem T9.alike (h : T9 S g w0 w p o dp dq r vp vq c s c u M) : Calls Try.prog 25 #[.pointer (some ⟨p, 0, none⟩), .pointer (some ⟨r, 0, none⟩)] w fun e w' => e = .returned (.bool true) ∧ T9 S g w0 w' p o dp dq r vp vq c s c u M := by
  obtain ⟨N, hr⟩ := h.rd
  exact (alike9_any h.lw.cd.ck hr.rm).mono fun _ _ ⟨he, hb⟩ => ⟨he, h.below hb⟩
theorem T9.lines (h : T9 S g w0 w p o dp dq r vp vq c s c2 u M) (hs : Sim s u) : Calls Try.prog 26 #[.pointer (some ⟨dp, 0, none⟩), .pointer (some ⟨vp, 0, none⟩)] w fun e w' => e = .returned (.bool true) ∧ T9 S g w0 w' p o dp dq r vp vq c s c2 u M := by
  obtain ⟨N, hr⟩ := h.rd
  exact (lines2_any h.lw.cd.dv hr.dv hs).mono fun _ _ ⟨he, hb⟩ => ⟨he, h.below hb⟩
end
theorem t9_new {g p o r nb dp dq vp vq n d m : Nat} {w0 w1 w2 w3 w4 : World} (hz : w0.heap.size = g) (hp : g ≤ p) (ho : g ≤ o) (hc : ∀ S : List Nat, p ∈ S → o ∈ S → Cm S w1 p o (ck0 n d)) (hb1 : Below g w0 w1)
    (hr : w1.heap.size ≤ r) (hnb : w1.heap.size ≤ nb) (hnb2 : nb < w2.heap.size) (hrn : r ≠ nb) (hrm : ∀ (S : List Nat) (g : Nat), r ∈ S → nb ∉ S → g ≤ w1.heap.size → Rm S g w2 r (ck0 n d) (List.replicate n []) 0) (hb2 : Below w1.heap.size w1 w2)
    (hdp : w2.heap.size ≤ dp) (hdq : w2.heap.size ≤ dq) (hd : DvP w3 dp dq (fresh m) five0) (hb3 : Below w2.heap.size w2 w3) (hvp : w3.heap.size ≤ vp) (hvq : w3.heap.size ≤ vq) (hv : DvR w4 vp vq (fresh m) five0) (hb4 : Below w3.heap.size w3 w4) (hm : 0 < m) :
    T9 [p, o, r, dp, dq, vp, vq] g w0 w4 p o dp dq r vp vq (ck0 n d) (fresh m, five0) (ck0 n d) (fresh m, five0) 0 := by
  have h1 := hc [p, o] (by simp) (by simp)
  have lp := h1.lt_p
  have lo := h1.lt_o
  have hs1 := hb1.size
  have hs2 := hb2.size
  have hs3 := hb3.size
  have hs4 := hb4.size
  have ldp := hd.lt_p
  have ldq := hd.lt_q
  have lvp := hv.lt_p
  have lvq := hv.lt_q
  have hlr := (hrm [r] g (by simp) (by simpa using fun e => hrn e.symm) (by omega)).lt_r
  have hall : ∀ x ∈ [p, o, r, dp, dq, vp, vq], g ≤ x ∧ x < w4.heap.size := fun x hx => by
    simp only [List.mem_cons, List.not_mem_nil, or_false] at hx
    rcases hx with rfl | rfl | rfl | rfl | rfl | rfl | rfl <;> omega
  have hnS : nb ∉ [p, o, r, dp, dq, vp, vq] := by
    simp only [List.mem_cons, List.not_mem_nil, or_false, not_or]
    exact ⟨by omega, by omega, fun e => hrn e.symm, by omega, by omega, by omega, by omega⟩
  have hb14 : Below w1.heap.size w1 w4 := (hb2.trans (hb3.mono hs2)).trans (hb4.mono (by omega))
  have hb24 : Below w2.heap.size w2 w4 := hb3.trans (hb4.mono hs3)
  refine ⟨lw_newS hz hc hb1 (by omega) (by omega) (hd.below hb4) hb14 (by simp) (by simp) (by simp) (by simp) hall, ⟨_, (hrm _ g (by simp) hnS (by omega)).below hb24, hv, by simp, by simp, by omega, by omega, by omega, by omega, by omega, fun y hy => (hall y hy).2⟩, by simpa [fresh] using hm, by simpa [fresh] using hm, ?_, ?_, ?_⟩
  · simp only [List.mem_cons, List.not_mem_nil, or_false, not_or]
    exact ⟨by omega, by omega, by omega, by omega⟩
  · simp only [List.mem_cons, List.not_mem_nil, or_false, not_or]
    exact ⟨by omega, by omega, by omega, by omega⟩
  · simp only [List.mem_cons, List.not_mem_nil, or_false, not_or]
    exact ⟨by omega, by omega, by omega, by omega⟩

theorem T9.drew9 {S : List Nat} {g : Nat} {w0 w : World} {p o dp dq r vp vq M : Nat} {c c2 : Ck} {s u : St} (h : T9 S g w0 w p o dp dq r vp vq c s c2 u M) : T9 S g w0 w.drew p o dp dq r vp vq c s c2 u M := h.below (below_drewN (Below.refl _ _) 1)
theorem T9.new9 {S : List Nat} {g : Nat} {w0 w : World} {p o dp dq r vp vq M : Nat} {c c2 : Ck} {s u : St} (h : T9 S g w0 w p o dp dq r vp vq c s c2 u M) : w.heap.size ≠ vp ∧ w.heap.size ≠ vq := by
  obtain ⟨N, hr⟩ := h.rd
  have h1 := hr.lt _ hr.inp
  have h2 := hr.lt _ hr.inq
  omega
/-- An act in a variable. -/
structure Bx9 (S : List Nat) (w : World) (b : Nat) (y : ActP) : Prop where
  out : b ∉ S
  cells : w.heap[b]? = some (.cells #[.int .i64 y.kd, .int .i64 y.t, .int .i64 y.line, .int .i64 y.b] 41 (0, 0))
section
variable {S L : List Nat} {g b : Nat} {w w' : World} {y : ActP}
theorem Bx9.lt (h : Bx9 S w b y) : b < w.heap.size := lt_of_heap h.cells
theorem Bx9.c0 (h : Bx9 S w b y) : w.cell? ⟨b, 0, none⟩ = some (.int .i64 y.kd) := by simp [World.cell?, h.cells]
theorem Bx9.c1 (h : Bx9 S w b y) : w.cell? ⟨b, 1, none⟩ = some (.int .i64 y.t) := by simp [World.cell?, h.cells]
theorem Bx9.c2 (h : Bx9 S w b y) : w.cell? ⟨b, 2, none⟩ = some (.int .i64 y.line) := by simp [World.cell?, h.cells]
theorem Bx9.c3 (h : Bx9 S w b y) : w.cell? ⟨b, 3, none⟩ = some (.int .i64 y.b) := by simp [World.cell?, h.cells]
theorem Bx9.drew (h : Bx9 S w b y) : Bx9 S w.drew b y := ⟨h.out, h.cells⟩
theorem Bx9.below (h : Bx9 S w b y) (hb : Below w.heap.size w w') : Bx9 S w' b y := ⟨h.out, (hb.block b h.lt).trans h.cells⟩
theorem Bx9.keeps (h : Bx9 S w b y) (hk : Keeps L w w') (hL : ∀ x ∈ L, x ∈ S) : Bx9 S w' b y := ⟨h.out, (hk.block b (fun hm => h.out (hL _ hm)) h.lt).trans h.cells⟩
theorem Bx9.fr (h : Bx9 S w b y) (f : Fr g L w w') (hL : ∀ x ∈ L, x ∈ S) : Bx9 S w' b y := ⟨h.out, (f.block b (fun hm => h.out (hL _ hm)) h.lt ⟨_, _, _, h.c0⟩).trans h.cells⟩
end
theorem bx9_new {S : List Nat} {g : Nat} {w0 w w' : World} {p o dp dq r vp vq M b : Nat} {c c2 : Ck} {s u : St} {y : ActP} (h : T9 S g w0 w p o dp dq r vp vq c s c2 u M) (hb : w.heap.size = b) (hc : w'.heap[b]? = some (.cells #[.int .i64 y.kd, .int .i64 y.t, .int .i64 y.line, .int .i64 y.b] 41 (0, 0))) : Bx9 S w' b y :=
  ⟨fun hm => by have := (h.lw.all b hm).2; omega, hc⟩
theorem zero_act9 : (Try.prog.info? 41).bind (·.zero) = some (.agg #[.int .i64 0, .int .i64 0, .int .i64 0, .int .i64 0]) := by kernel_rfl
theorem size_act9 : (Try.prog.info? 41).map (·.size) = some 4 := by kernel_rfl
theorem ones4 (a b c d : Int) : (#[.int .i64 a, .int .i64 b, .int .i64 c, .int .i64 d] : Array Value).all (·.oneCell') = true := all_oneCell_toArray (cs := [.int .i64 a, .int .i64 b, .int .i64 c, .int .i64 d]) (by intro u hu; simp at hu; rcases hu with rfl | rfl | rfl | rfl <;> rfl)
theorem act9_at {w : World} {b off len i : Nat} {xs : List ActP} {y : ActP} (h : IsActs w (some ⟨b, off, none⟩) len xs) (hx : xs[i]? = some y) (j : Nat) (v : Value) (hv : [Value.int .i64 y.kd, .int .i64 y.t, .int .i64 y.line, .int .i64 y.b][j]? = some v) : w.cell? ⟨b, off + (i * 4 + j), none⟩ = some v := by
  have hi : i < xs.length := (List.getElem?_eq_some_iff.1 hx).1
  obtain ⟨b', off', e, _, hc⟩ := h.2.2 (by have := h.1; omega)
  cases e
  exact hc i y hx j v hv
theorem begin_dur9 (c : Ck) : c.begin_.dur = c.dur := by unfold Ck.begin_; split <;> rfl
theorem step_dur9 (c : Ck) : c.step.dur ≤ c.dur + 1 := by
  unfold Ck.step
  repeat' split
  all_goals simp
theorem u8_of9 (z : Int) : ∃ X : UInt8, IntKind.u8.wrap z = ((X.toNat : Nat) : Int) := by
  have h : 0 ≤ IntKind.u8.wrap z ∧ IntKind.u8.wrap z < 256 := by
    simp [IntKind.wrap, IntKind.signed, IntKind.bits]
    omega
  obtain ⟨n, hn⟩ := Int.eq_ofNat_of_zero_le h.1
  refine ⟨UInt8.ofNat n, ?_⟩
  rw [hn, UInt8.toNat_ofNat']
  have : n < 256 := by omega
  rw [Nat.mod_eq_of_lt (by omega)]
theorem u64_nat9 (x : Int) (h : (Lit.int .u64 x).wf = true) : ∃ n : Nat, x = n ∧ n < 18446744073709551616 := by
  have h1 : 0 ≤ x ∧ x < 18446744073709551616 := by
    simp [Lit.wf, IntKind.min, IntKind.max, IntKind.signed, IntKind.bits] at h
    omega
  obtain ⟨n, rfl⟩ := Int.eq_ofNat_of_zero_le h1.1
  exact ⟨n, rfl, by omega⟩

end Go.Proofs.Ytkcjamjjaallhaa
