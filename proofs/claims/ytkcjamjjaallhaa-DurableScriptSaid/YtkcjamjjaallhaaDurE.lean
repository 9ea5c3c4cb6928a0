/-
  Proved here: what the actions of package durable's steps answer and leave, of a clock and of a device.
  Conditions: none.
-/
import Derived.Test.YtkcjamjjaallhaaDurD
import Derived.Test.YtkcjamjjaallhaaNvmM
import Derived.Test.YtkcjamjjaallhaaGeomD
import Derived.Test.YtkcjamjjaallhaaDurLine
namespace Go.Proofs.Ytkcjamjjaallhaa
open Go Go.RowKit

theorem Ck.ok.still {c c' : Ck} (h : c.ok) (h1 : c'.dur = c.dur) (h2 : c'.owed = c.owed) (h3 : c'.noted = c.noted) (h4 : c'.left = c.left) (h5 : c'.ph ≠ 1) (h6 : c'.ph ≤ 5) (h8 : c.ph ≠ 1) : c'.ok :=
  ⟨by rw [h1]; exact h.lt, by rw [h3]; exact h.noted, by rw [h2]; exact h.one, by rw [h2]; exact h.four, by rw [h4]; exact h.left, by rw [h4]; exact h.lines, h6, by rw [h4, ← h.some_]; exact ⟨fun e => absurd e h5, fun e => absurd e h8⟩⟩
/-- What a step leaves. -/
def StepTo (S : List Nat) (p o dp dq : Nat) (c : Ck) (s : St) (w : World) (e : Ending) (w' : World) : Prop :=
  e = .returned (.int .i64 c.act) ∧ Cm S w' p o c.step ∧ DvS w' dp dq (c.dev s) ∧ Keeps [p, o, dp, dq] w w'
/-- A clock and a device apart from one another. -/
structure Cd (S : List Nat) (w : World) (p o dp dq : Nat) (c : Ck) (s : St) : Prop where
  ck : Cm S w p o c
  dv : DvS w dp dq s
  inp : dp ∈ S
  inq : dq ∈ S
  pp : p ≠ dp
  pq : p ≠ dq
  op : o ≠ dp
  oq : o ≠ dq
theorem sub4 {p o dp dq : Nat} {S : List Nat} (hp : p ∈ S) (ho : o ∈ S) (h1 : dp ∈ S) (h2 : dq ∈ S) : ∀ x ∈ [p, o, dp, dq], x ∈ S := by
  intro x hx
  simp only [List.mem_cons, List.not_mem_nil, or_false] at hx
  rcases hx with rfl | rfl | rfl | rfl <;> assumption
theorem sub2 {p q : Nat} {S : List Nat} (hp : p ∈ S) (hq : q ∈ S) : ∀ x ∈ [p, q], x ∈ S := by
  intro x hx
  simp only [List.mem_cons, List.not_mem_nil, or_false] at hx
  rcases hx with rfl | rfl <;> assumption
theorem not2 {x p q : Nat} (h1 : x ≠ p) (h2 : x ≠ q) : x ∉ [p, q] := by simp [h1, h2]
theorem Turns.k2 {p q : Nat} {a b : World} (h : Turns p q a b) : Keeps [p, q] a b := h.keeps (by simp) (by simp)
section
variable {S : List Nat} {w w' : World} {p o dp dq now dur : Nat} {c : Ck} {s : St} {owed left : List Int} {noted : List Bool} {fv : Value}
theorem Cr.dev (h : Cr S w p o now dur owed noted left fv) (ht : Turns dp dq w w') (h1 : p ≠ dp) (h2 : p ≠ dq) (h3 : o ≠ dp) (h4 : o ≠ dq) (h5 : dp ∈ S) (h6 : dq ∈ S) : Cr S w' p o now dur owed noted left fv := h.keeps ht.k2 (not2 h1 h2) (not2 h3 h4) (sub2 h5 h6)
theorem Dv.ck {T D : TypeId} {st : List Cl} {cs : List Int} (h : Dv T D w dp dq st cs) (ht : Turns p o w w') (h1 : p ≠ dp) (h2 : p ≠ dq) (h3 : o ≠ dp) (h4 : o ≠ dq) : Dv T D w' dp dq st cs := h.turns ht h1.symm h3.symm h2.symm h4.symm
end
theorem one_fnv (ph p : Nat) : (fnv ph p).oneCell' = true := by
  rcases Nat.eq_zero_or_pos ph with rfl | h
  · rfl
  · obtain ⟨f, hf⟩ := fnv_some ph p (by omega)
    rw [hf]
    rfl
theorem Cr.storeF {S : List Nat} {w : World} {p o now dur : Nat} {owed left : List Int} {noted : List Bool} {fv : Value} (h : Cr S w p o now dur owed noted left fv) (ph : Nat) :
    ∃ w', (storeCells ⟨p, 262, none⟩ [fnv ph p]).run Try.prog w = .ok () w' ∧ Cr S w' p o now dur owed noted left (fnv ph p) ∧ Turns p o w w' :=
  ⟨_, store_one w p 262 _ _ h.reads.2.2.2 (h.frozenP _) (one_fnv ph p), h.setF _, turns_p p o w 262 _⟩
theorem fnv2 (p : Nat) : fnv 2 p = .func (.func 66) #[.pointer (some ⟨p, 0, none⟩)] #[] := rfl
theorem fnv3 (p : Nat) : fnv 3 p = .func (.func 78) #[.pointer (some ⟨p, 0, none⟩)] #[] := rfl
theorem fnv4 (p : Nat) : fnv 4 p = .func (.func 84) #[.pointer (some ⟨p, 0, none⟩)] #[] := rfl
theorem fnv5 (p : Nat) : fnv 5 p = .func (.func 88) #[.pointer (some ⟨p, 0, none⟩)] #[] := rfl
theorem makeF (fn : Fn) (first cap : Array Value) (w : World) : (Instr.makeFunc fn first cap).run Try.prog w = .ok (.func fn first cap) w := rfl
set_option maxHeartbeats 800000 in
set_option maxRecDepth 100000 in
theorem ckfence_any {S : List Nat} {w : World} {p o dp dq : Nat} {c : Ck} {s : St} (h : Cd S w p o dp dq c s) (hp : c.ph = 2) : Calls Try.prog 66 #[.pointer (some ⟨p, 0, none⟩), .pointer (some ⟨dp, 0, none⟩)] w (StepTo S p o dp dq c s w) := by
  have HF := Lib.hid (fence_any h.dv)
  have HD := Lib.hid h
  have hmf := makeF
  have HFIN : Hid (∀ w1 w2, DvS w1 dp dq s.fence → Turns dp dq w w1 → Cr S w2 p o c.now c.dur c.owed c.noted c.left (fnv 3 p) → Turns p o w1 w2 → StepTo S p o dp dq c s w (.returned (.int .i64 2)) w2) := fun w1 w2 hd t1 hr t2 => by
    have e1 : c.act = 2 := by unfold Ck.act; simp [hp]
    have e2 : c.step = { c with ph := 3 } := by unfold Ck.step; simp [hp]
    have e3 : c.dev s = s.fence := by unfold Ck.dev; simp [hp]
    have hok := h.ck.ok.still (c' := { c with ph := 3 }) rfl rfl rfl rfl (by show 3 ≠ 1; omega) (by show 3 ≤ 5; omega) (by omega)
    refine ⟨by rw [e1], ?_, by rw [e3]; exact hd.ck t2 h.pp h.pq h.op h.oq, (t1.keeps (by simp) (by simp)).trans (t2.keeps (by simp) (by simp))⟩
    rw [e2]
    refine ⟨hok, ?_⟩
    have hn : ({ c with ph := 3 } : Ck).now = c.now := by unfold Ck.now; simp [hp]
    rw [hn]
    exact hr
  clear h
  generalize hR : StepTo S p o dp dq c s w = R at *
  go_enter Try.func66, Try.ntmps66
  go_wp2_with fail
  refine HF.out.mono ?_
  rintro e w1 ⟨rfl, hd1, ht1⟩
  obtain ⟨w2, e2, hr2, ht2⟩ := (HD.out.ck.raw.dev ht1 HD.out.pp HD.out.pq HD.out.op HD.out.oq HD.out.inp HD.out.inq).storeF 3
  have E2 := Lib.hid (fnv3 p ▸ e2)
  have HE := Lib.hid (HFIN.out w1 w2 hd1 ht1 hr2 ht2)
  clear hd1 ht1 e2 hr2 ht2
  go_wp2_with ((with_reducible show wpList _ _ _ (⟨none, .store 79 _ _, _, _, _, _⟩ :: _) _ _); refine wpList_store_run (o := ⟨none, .store 79 _ _, _, _, _, _⟩) rfl _ _ _ rfl rfl rfl rfl rfl size_action E2.out ?_)
  exact HE.out
theorem ck_plain {S : List Nat} {w w1 w2 : World} {p o dp dq : Nat} {c : Ck} {s s' : St} (h : Cd S w p o dp dq c s) (k : Nat) (hk0 : c.ph ≠ 0) (hk1 : c.ph ≠ 1) (hk2 : k ≠ 0) (hk3 : k ≠ 1) (hk5 : k ≤ 5) (a : Int) (e1 : c.act = a) (e2 : c.step = { c with ph := k }) (e3 : c.dev s = s')
    (hd : DvS w1 dp dq s') (t1 : Keeps [dp, dq] w w1) (hr : Cr S w2 p o c.now c.dur c.owed c.noted c.left (fnv k p)) (t2 : Turns p o w1 w2) : StepTo S p o dp dq c s w (.returned (.int .i64 a)) w2 := by
  have hok := h.ck.ok.still (c' := { c with ph := k }) rfl rfl rfl rfl hk3 hk5 hk1
  refine ⟨by rw [e1], ?_, by rw [e3]; exact hd.ck t2 h.pp h.pq h.op h.oq, (t1.mono (by simp)).trans (t2.keeps (by simp) (by simp))⟩
  rw [e2]
  refine ⟨hok, ?_⟩
  have hn : ({ c with ph := k } : Ck).now = c.now := by unfold Ck.now; simp [hk0, hk2]
  rw [hn]
  exact hr
set_option maxHeartbeats 800000 in
set_option maxRecDepth 100000 in
theorem ckflushc_any {S : List Nat} {w : World} {p o dp dq : Nat} {c : Ck} {s : St} (h : Cd S w p o dp dq c s) (hp : c.ph = 4) : Calls Try.prog 84 #[.pointer (some ⟨p, 0, none⟩), .pointer (some ⟨dp, 0, none⟩)] w (StepTo S p o dp dq c s w) := by
  have HF := Lib.hid (flush_any h.dv 1)
  have HD := Lib.hid h
  have hmf := makeF
  have HFIN := Lib.hid (fun w1 w2 hd (t1 : Turns dp dq w w1) hr t2 => ck_plain (w1 := w1) (w2 := w2) h 5 (by omega) (by omega) (by omega) (by omega) (by omega) 1 (by unfold Ck.act; simp [hp]) (by unfold Ck.step; simp [hp]) (s' := s.flush 1) (by unfold Ck.dev; simp [hp]) hd t1.k2 hr t2)
  clear h
  generalize hR : StepTo S p o dp dq c s w = R at *
  go_enter Try.func84, Try.ntmps84
  go_wp2_with fail
  refine HF.out.mono ?_
  rintro e w1 ⟨rfl, hd1, ht1⟩
  obtain ⟨w2, e2, hr2, ht2⟩ := (HD.out.ck.raw.dev ht1 HD.out.pp HD.out.pq HD.out.op HD.out.oq HD.out.inp HD.out.inq).storeF 5
  have E2 := Lib.hid (fnv5 p ▸ e2)
  have HE := Lib.hid (HFIN.out w1 w2 hd1 ht1 hr2 ht2)
  clear hd1 ht1 e2 hr2 ht2
  go_wp2_with ((with_reducible show wpList _ _ _ (⟨none, .store 79 _ _, _, _, _, _⟩ :: _) _ _); refine wpList_store_run (o := ⟨none, .store 79 _ _, _, _, _, _⟩) rfl _ _ _ rfl rfl rfl rfl rfl size_action E2.out ?_)
  exact HE.out
set_option maxHeartbeats 800000 in
set_option maxRecDepth 100000 in
theorem ckstorec_any {S : List Nat} {w : World} {p o dp dq : Nat} {c : Ck} {s : St} (h : Cd S w p o dp dq c s) (hp : c.ph = 3) : Calls Try.prog 78 #[.pointer (some ⟨p, 0, none⟩), .pointer (some ⟨dp, 0, none⟩)] w (StepTo S p o dp dq c s w) := by
  have H0 := Lib.hid (ckdue_any h.ck)
  have H1 := Lib.hid (clock_ok (c.dur + 1) (by have := h.ck.ok.lt; omega) w)
  have HD := Lib.hid h
  have hmf := makeF
  have HCL := Lib.hid (clockL_len (c.dur + 1))
  have HFIN := Lib.hid (fun w1 w2 hd (t1 : Keeps [dp, dq] w w1) hr t2 => ck_plain (w1 := w1) (w2 := w2) h 4 (by omega) (by omega) (by omega) (by omega) (by omega) 3 (by unfold Ck.act; simp [hp]) (by unfold Ck.step; simp [hp]) (s' := s.store 1 0 (clockL (c.dur + 1))) (by unfold Ck.dev; simp [hp]) hd t1 hr t2)
  clear h
  generalize hR : StepTo S p o dp dq c s w = R at *
  go_enter Try.func78, Try.ntmps78
  go_wp2_with fail
  refine H0.out.mono ?_
  rintro e w' ⟨rfl, rfl⟩
  go_wp2_with fail
  refine H1.out.mono ?_
  rintro e w1 ⟨g, rfl, hg, hb⟩
  have hd1 := HD.out.dv.below hb.2
  have HR1 := Lib.hid (HD.out.ck.raw.below hb.2)
  have HB1 := Lib.hid (Keeps.of_below hb.2 [dp, dq])
  have HS := Lib.hid (store_any (s := s) hd1 1 0 (some ⟨g, 0, none⟩) 64 64 (clockL (c.dur + 1)) HCL.out (hb.1.row (by rw [HCL.out]; omega)) (by intro h; cases h))
  clear hg hb hd1
  go_wp2_with fail
  refine HS.out.mono ?_
  rintro e w2 ⟨rfl, hd2, ht2⟩
  obtain ⟨w3, e3, hr3, ht3⟩ := (HR1.out.dev ht2 HD.out.pp HD.out.pq HD.out.op HD.out.oq HD.out.inp HD.out.inq).storeF 4
  have E3 := Lib.hid (fnv4 p ▸ e3)
  have HE := Lib.hid (HFIN.out w2 w3 hd2 (HB1.out.trans ht2.k2) hr3 ht3)
  clear hd2 ht2 e3 hr3 ht3
  go_wp2_with ((with_reducible show wpList _ _ _ (⟨none, .store 79 _ _, _, _, _, _⟩ :: _) _ _); refine wpList_store_run (o := ⟨none, .store 79 _ _, _, _, _, _⟩) rfl _ _ _ rfl rfl rfl rfl rfl size_action E3.out ?_)
  exact HE.out
set_option maxHeartbeats 800000 in
set_option maxRecDepth 100000 in
theorem ckfencec_any {S : List Nat} {w : World} {p o dp dq : Nat} {c : Ck} {s : St} (h : Cd S w p o dp dq c s) (hp : c.ph = 5) (hlt : c.dur + 3 < 18446744073709551616) : Calls Try.prog 88 #[.pointer (some ⟨p, 0, none⟩), .pointer (some ⟨dp, 0, none⟩)] w (StepTo S p o dp dq c s w) := by
  have HF := Lib.hid (fence_any h.dv)
  have HD := Lib.hid h
  have hmf := makeF
  have hw := u64_up c.dur (by omega)
  have HW := Lib.hid hw
  have HFIN : Hid (∀ w1 w2, DvS w1 dp dq s.fence → Turns dp dq w w1 → Cr S w2 p o c.now (c.dur + 1) c.owed c.noted c.left (fnv 0 p) → Turns p o w1 w2 → StepTo S p o dp dq c s w (.returned (.int .i64 2)) w2) := fun w1 w2 hd t1 hr t2 => by
    have e1 : c.act = 2 := by unfold Ck.act; simp [hp]
    have e2 : c.step = { c with ph := 0, dur := c.dur + 1 } := by unfold Ck.step; simp [hp]
    have e3 : c.dev s = s.fence := by unfold Ck.dev; simp [hp]
    have hok := h.ck.ok.step hlt
    refine ⟨by rw [e1], ?_, by rw [e3]; exact hd.ck t2 h.pp h.pq h.op h.oq, (t1.keeps (by simp) (by simp)).trans (t2.keeps (by simp) (by simp))⟩
    rw [e2] at hok ⊢
    refine ⟨hok, ?_⟩
    have hn : ({ c with ph := 0, dur := c.dur + 1 } : Ck).now = c.now := by unfold Ck.now; simp [hp]
    rw [hn]
    exact hr
  clear h
  generalize hR : StepTo S p o dp dq c s w = R at *
  go_enter Try.func88, Try.ntmps88
  go_wp2_with fail
  refine HF.out.mono ?_
  rintro e w1 ⟨rfl, hd1, ht1⟩
  obtain ⟨w2, e2, hr2, ht2⟩ := (HD.out.ck.raw.dev ht1 HD.out.pp HD.out.pq HD.out.op HD.out.oq HD.out.inp HD.out.inq).storeF 0
  have E2 := Lib.hid (fnv_zero p ▸ e2)
  have HU := Lib.hid (uadd p 1 _ 1 _ w2 hr2.reads.2.1 (hr2.frozenP 1) HW.out)
  have HE := Lib.hid (HFIN.out w1 _ hd1 ht1 (hr2.setDur (c.dur + 1)) (ht2.trans (turns_p p o w2 1 _)))
  clear hd1 ht1 e2 hr2 ht2
  go_wp2_with ((with_reducible show wpList _ _ _ (⟨none, .store 79 _ _, _, _, _, _⟩ :: _) _ _); refine wpList_store_run (o := ⟨none, .store 79 _ _, _, _, _, _⟩) rfl _ _ _ rfl rfl rfl rfl rfl size_action E2.out ?_)
  refine HU.out.mono ?_
  rintro e w' ⟨rfl, rfl⟩
  go_wp2
  exact HE.out
theorem rowI_tail {w : World} {b off : Nat} {x : Int} {l : List Int} (h : RowI w (some ⟨b, off, none⟩) (x :: l)) : RowI w (some ⟨b, off + 1, none⟩) l := by
  obtain ⟨b', off', e, hlt, hc⟩ := h.2 (by simp)
  cases e
  refine ⟨by have := h.1; simp only [List.length_cons] at this; omega, fun _ => ⟨b, off + 1, rfl, hlt, fun k hk => ?_⟩⟩
  have := hc (k + 1) (by simp only [List.length_cons]; omega)
  rw [List.getD_cons_succ] at this
  rw [show off + 1 + k = off + (k + 1) by omega]
  exact this
/-- What is left of the lines, one less. -/
theorem flush_rest {S : List Nat} {w : World} {p o dp dq : Nat} {c : Ck} {s : St} (h : Cd S w p o dp dq c s) (hp : c.ph = 1) (l : List Int) (b off' cap' : Nat) (hr : RowI w (some ⟨b, off', none⟩) l) (hcap : l.length ≤ cap') (hb : b ∉ S) :
    ∃ w1, (storeCells ⟨p, 261, none⟩ [.slice (some ⟨b, off', none⟩) l.length cap']).run Try.prog w = .ok () w1 ∧ DvS w1 dp dq s ∧ Cr S w1 p o c.now c.dur c.owed c.noted l (fnv 1 p) ∧ Turns p o w w1 := by
  obtain ⟨A, cap, hs, _⟩ := h.ck.readL
  have r1 := h.ck.raw.setL l (some ⟨b, off', none⟩) cap' l.length rfl hr hcap (by intro e; cases e) (fun y hy => by cases hy; exact hb)
  rw [hp] at r1
  exact ⟨_, store_one w p 261 _ _ hs (h.ck.raw.frozenP _) rfl, h.dv.ck (turns_p p o w 261 _) h.pp h.pq h.op h.oq, r1, turns_p p o w 261 _⟩
theorem flush_fin {S : List Nat} {w w1 w2 w3 : World} {p o dp dq : Nat} {c : Ck} {s : St} (h : Cd S w p o dp dq c s) (hp : c.ph = 1) (x : Int) (l : List Int) (hxl : c.left = x :: l)
    (t1 : Turns p o w w1) (hd : DvS w2 dp dq (s.flush x)) (t2 : Turns dp dq w1 w2) (hr : Cr S w3 p o c.now c.dur c.owed c.noted l (fnv (nx l) p)) (t3 : Turns p o w2 w3) : StepTo S p o dp dq c s w (.returned (.int .i64 1)) w3 := by
  have e1 : c.act = 1 := by unfold Ck.act; simp [hp]
  have e2 : c.step = { c with left := l, ph := nx l } := by unfold Ck.step; simp [hp, hxl]
  have e3 : c.dev s = s.flush x := by unfold Ck.dev; simp [hp, hxl]
  have hok := h.ck.ok.step
  have hok' : c.step.ok := by
    rw [e2]
    have := h.ck.ok
    have hn := nx_le l
    exact ⟨this.lt, this.noted, this.one, this.four, by have := this.left; rw [hxl] at this; simp only [List.length_cons] at this; show l.length ≤ 258; omega, fun y hy => this.lines y (by rw [hxl]; exact List.mem_cons_of_mem _ hy), by show nx l ≤ 5; omega, nx_some l⟩
  refine ⟨by rw [e1], ?_, by rw [e3]; exact hd.ck t3 h.pp h.pq h.op h.oq, ((t1.keeps (by simp) (by simp)).trans (t2.keeps (by simp) (by simp))).trans (t3.keeps (by simp) (by simp))⟩
  rw [e2] at hok' ⊢
  refine ⟨hok', ?_⟩
  have hn : ({ c with left := l, ph := nx l } : Ck).now = c.now := by
    have := nx_le l
    unfold Ck.now
    rw [if_neg (by show nx l ≠ 0; omega), if_neg (by omega)]
  rw [hn]
  exact hr
set_option maxHeartbeats 800000 in
set_option maxRecDepth 100000 in
theorem ckflushf_any {S : List Nat} {w : World} {p o dp dq : Nat} {c : Ck} {s : St} (h : Cd S w p o dp dq c s) (hp : c.ph = 1) : Calls Try.prog 65 #[.pointer (some ⟨p, 0, none⟩), .pointer (some ⟨dp, 0, none⟩)] w (StepTo S p o dp dq c s w) := by
  obtain ⟨x, l, hxl⟩ := left_cons h.ck.ok hp
  obtain ⟨A, cap, hs, hrow, hcap, ha, hn⟩ := h.ck.readL
  rw [hxl] at hs hrow hcap
  obtain ⟨b, off, rfl, hlt, hcell⟩ := hrow.2 (by simp)
  have hc0 := hcell 0 (by simp)
  simp only [Nat.add_zero, List.getD_cons_zero] at hc0
  have hbS := hn _ rfl
  have HFIN := Lib.hid (fun w1 w2 w3 t1 hd t2 hr t3 => flush_fin (w1 := w1) (w2 := w2) (w3 := w3) h hp x l hxl t1 hd t2 hr t3)
  have HREST := Lib.hid (fun off' cap' hr hcap => flush_rest h hp l b off' cap' hr hcap hbS)
  have HD := Lib.hid h
  have HFL := Lib.hid (fun w1 (hd : DvS w1 dp dq s) => flush_any hd x)
  have HTL := Lib.hid (rowI_tail hrow)
  have HROW := Lib.hid hrow
  have HFE := Lib.hid (fnv_some (nx l) p (by have := nx_le l; omega))
  clear h hcell hrow hlt ha hn hbS
  generalize hR : StepTo S p o dp dq c s w = R at *
  simp only [List.length_cons] at hs hcap
  rcases Classical.em (cap = 1) with rfl | hcap1
  · obtain rfl : l = [] := List.eq_nil_of_length_eq_zero (by omega)
    obtain ⟨w1, e1, hd1, hr1, ht1⟩ := HREST.out off 0 (rowI_nil _ _) (by simp)
    have E1 := Lib.hid e1
    have HF1 := Lib.hid (HFL.out w1 hd1)
    have HR1 := Lib.hid hr1
    have HT1 := Lib.hid ht1
    simp only [List.length_nil, Nat.zero_add] at hs
    clear e1 hd1 hr1 ht1 hcap HTL HROW HREST hR hp hxl
    go_enter Try.func65, Try.ntmps65
    go_wp2_with ((with_reducible show wpList _ _ _ (⟨none, .store 68 _ _, _, _, _, _⟩ :: _) _ _); refine wpList_store_run (o := ⟨none, .store 68 _ _, _, _, _, _⟩) rfl _ _ _ rfl rfl rfl rfl rfl size_ints E1.out ?_)
    refine HF1.out.mono ?_
    rintro e w2 ⟨rfl, hd2, ht2⟩
    have hr2 := HR1.out.dev ht2 HD.out.pp HD.out.pq HD.out.op HD.out.oq HD.out.inp HD.out.inq
    obtain ⟨w3, e3, hr3, ht3⟩ := hr2.storeF 2
    have HF2 := Lib.hid (ckfirst_any hr2)
    have E3 := Lib.hid (fnv2 p ▸ e3)
    have HE := Lib.hid (HFIN.out w1 w2 w3 HT1.out hd2 ht2 hr3 ht3)
    have HN2 : Hid (fnv (nx []) p = .func (.func 66) #[.pointer (some ⟨p, 0, none⟩)] #[]) := rfl
    clear hd2 ht2 hr2 e3 hr3 ht3
    go_wp2_with fail
    refine HF2.out.mono ?_
    rw [HN2.out]
    rintro e w' ⟨rfl, rfl⟩
    go_wp2_with ((with_reducible show wpList _ _ _ (⟨none, .store 79 _ _, _, _, _, _⟩ :: _) _ _); refine wpList_store_run (o := ⟨none, .store 79 _ _, _, _, _, _⟩) rfl _ _ _ rfl rfl rfl rfl rfl size_action E3.out ?_)
    exact HE.out
  · obtain ⟨w1, e1, hd1, hr1, ht1⟩ := HREST.out (off + 1) (cap - 1) HTL.out (by omega)
    have E1 := Lib.hid e1
    have HF1 := Lib.hid (HFL.out w1 hd1)
    have HR1 := Lib.hid hr1
    have HT1 := Lib.hid ht1
    obtain ⟨F, hF⟩ := HFE.out
    have HN2 := Lib.hid hF
    have hm0 : (0 : Int) < ((l.length + 1 : Nat) : Int) := by omega
    have hm1 : (1 : Int) ≤ ((l.length + 1 : Nat) : Int) := by omega
    clear e1 hd1 hr1 ht1 HTL HROW HREST hR hp hxl hF
    go_enter Try.func65, Try.ntmps65
    go_wp2_with ((with_reducible show wpList _ _ _ (⟨none, .store 68 _ _, _, _, _, _⟩ :: _) _ _); refine wpList_store_run (o := ⟨none, .store 68 _ _, _, _, _, _⟩) rfl _ _ _ rfl rfl rfl rfl rfl size_ints E1.out ?_)
    refine HF1.out.mono ?_
    rintro e w2 ⟨rfl, hd2, ht2⟩
    have hr2 := HR1.out.dev ht2 HD.out.pp HD.out.pq HD.out.op HD.out.oq HD.out.inp HD.out.inq
    obtain ⟨w3, e3, hr3, ht3⟩ := hr2.storeF (nx l)
    have HF2 := Lib.hid (ckfirst_any hr2)
    have E3 := Lib.hid (HN2.out ▸ e3)
    have HE := Lib.hid (HFIN.out w1 w2 w3 HT1.out hd2 ht2 hr3 ht3)
    clear hd2 ht2 hr2 e3 hr3 ht3
    go_wp2_with fail
    refine HF2.out.mono ?_
    rw [HN2.out]
    rintro e w' ⟨rfl, rfl⟩
    go_wp2_with ((with_reducible show wpList _ _ _ (⟨none, .store 79 _ _, _, _, _, _⟩ :: _) _ _); refine wpList_store_run (o := ⟨none, .store 79 _ _, _, _, _, _⟩) rfl _ _ _ rfl rfl rfl rfl rfl size_action E3.out ?_)
    exact HE.out

end Go.Proofs.Ytkcjamjjaallhaa
