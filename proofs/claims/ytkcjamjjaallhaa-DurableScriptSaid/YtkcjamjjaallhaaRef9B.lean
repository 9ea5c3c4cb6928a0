/-
  Proved here: what Step of chapter 9's own clock answers and leaves, of the clock and of chapter 3's own device.
  Conditions: epochs below 2^64 - 3.
-/
import Derived.Test.YtkcjamjjaallhaaRef9A
namespace Go.Proofs.Ytkcjamjjaallhaa
open Go Go.RowKit

def Ck.rdev (c : Ck) (s : St) : St :=
  if c.ph = 0 then s else if c.ph = 1 then s.flush (c.left.getD 0 0) else if c.ph = 2 then s.rfence else if c.ph = 3 then s.store 1 0 (clockL (c.dur + 1)) else if c.ph = 4 then s.flush 1 else s.rfence
theorem Sim.dev {s u : St} (h : Sim s u) (c : Ck) : Sim (c.dev s) (c.rdev u) := by
  unfold Ck.dev Ck.rdev
  split
  · exact h
  split
  · exact h.flush _
  split
  · exact h.fence
  split
  · exact h.store _ _ _
  split
  · exact h.flush _
  · exact h.fence
theorem rfence_any {w : World} {p q : Nat} {s : St} (h : DvT w p q s) : Calls Try.prog 44 #[.pointer (some ⟨p, 0, none⟩)] w fun e w' => e = .returned (.tuple #[]) ∧ DvT w' p q s.rfence ∧ Turns p q w w' := rfence_ok h
/-- The chapter's own clock and device beside one another. -/
structure Rd9 (S : List Nat) (g : Nat) (w : World) (r vp vq : Nat) (c : Ck) (N : List (List Int)) (M : Nat) (u : St) : Prop where
  rm : Rm S g w r c N M
  dv : DvT w vp vq u
  inp : vp ∈ S
  inq : vq ∈ S
  rp : r ≠ vp
  rq : r ≠ vq
  gp : g ≤ vp
  gq : g ≤ vq
  gw : g ≤ w.heap.size
  lt : ∀ y ∈ S, y < w.heap.size
/-- What a step leaves. -/
def Stepped9 (S : List Nat) (g r vp vq : Nat) (c : Ck) (N : List (List Int)) (M : Nat) (u : St) (w : World) (e : Ending) (w' : World) : Prop :=
  e = .returned (.tuple #[.int .i64 c.act, .int .i64 c.stepE]) ∧ Rm S g w' r c.step N M ∧ DvT w' vp vq (c.rdev u) ∧ Fr g [r, vp, vq] w w'
section
variable {S : List Nat} {g : Nat} {w w1 w2 w3 : World} {r vp vq M : Nat} {c : Ck} {N : List (List Int)} {u : St}
set_option maxHeartbeats 400000 in
theorem r9step_0 (h : Rd9 S g w r vp vq c N M u) (e : c.ph = 0) : Calls Try.prog 20 #[.pointer (some ⟨r, 0, none⟩), .pointer (some ⟨vp, 0, none⟩)] w (Stepped9 S g r vp vq c N M u w) := by
  obtain ⟨n, A, cap, dn, _, _, _, c3, _⟩ := h.rm.reads
  have HFIN : Hid (Stepped9 S g r vp vq c N M u w (.returned (.tuple #[.int .i64 0, .int .i64 12])) w) := by
    refine ⟨by unfold Ck.stepE Ck.act; rw [if_pos e, if_pos e], ?_, ?_, Fr.of_below (Below.refl _ _) h.gw⟩
    · unfold Ck.step; rw [if_pos e]; exact h.rm
    · unfold Ck.rdev; rw [if_pos e]; exact h.dv
  rw [decide_eq_true e, Bool.not_true] at c3
  clear h e
  generalize Stepped9 S g r vp vq c N M u w = R at *
  go_enter Try.func20, Try.ntmps20
  go_wp2
  exact HFIN.out
/-- The count of steps raised. -/
theorem Rm.done (h : Rd9 S g w r vp vq c N M u) (h2 : 2 ≤ c.ph) : ∃ n A cap w1, w.cell? ⟨r, 5, none⟩ = some (.int .i64 (doneN c.ph)) ∧ (storeCells ⟨r, 5, none⟩ [.int .i64 (doneN c.ph + 1)]).run Try.prog w = .ok () w1 ∧ DvT w1 vp vq u ∧ Turns r r w w1 ∧ w.cell? ⟨r, 3, none⟩ = some (.bool true) ∧ w.cell? ⟨r, 4, none⟩ = some (.slice A 0 cap) ∧
    w1.cell? ⟨r, 5, none⟩ = some (.int .i64 (doneN c.ph + 1)) ∧ w1.cell? ⟨r, 0, none⟩ = some (.int .u64 (c.dur + 1 + 1 : Nat)) ∧
    w1.heap[r]? = some (.cells (R6 c.now c.dur n c.owed.length true (.slice A 0 cap) (doneN c.ph + 1)).toArray 85 (0, 0)) ∧ c.left = [] ∧
    (∀ (c' : Ck) (w2 : World) (dn : Int), c'.ok → c'.owed = c.owed → c'.noted = c.noted → c'.left = [] → (c'.ph ≠ 0 → dn = doneN c'.ph) → Keeps [r, vp, vq] w w2 → w2.heap[r]? = some (.cells (rkL c' n (.slice A 0 cap) dn).toArray 85 (0, 0)) → Rm S g w2 r c' N M) := by
  obtain ⟨n, A, cap, dn, V, e, h1, q2, q3, q4, q5, q6, q7, q8, q9⟩ := h.rm.mem
  have hp : c.ph ≠ 0 := by omega
  have hl : c.left = [] := by
    rcases Classical.em (c.left = []) with h' | h'
    · exact h'
    · have := h.rm.ok.some_.2 h'
      omega
  have hdn := h1 hp
  subst hdn
  have hr6 : rkL c n (.slice A c.left.length cap) (doneN c.ph) = R6 c.now c.dur n c.owed.length true (.slice A 0 cap) (doneN c.ph) := by unfold rkL R6; rw [decide_eq_false hp, Bool.not_false, hl]; rfl
  have e0 := e
  rw [hr6] at e0
  obtain ⟨w1, e1, h2', t1⟩ := r6_store (P := Try.prog) e0 5 (.int .i64 (doneN c.ph + 1)) (by simp [R6]) rfl (l' := R6 c.now c.dur n c.owed.length true (.slice A 0 cap) (doneN c.ph + 1)) rfl
  refine ⟨n, A, cap, w1, by rw [cell_in e0]; rfl, e1, h.dv.turns t1 h.rp.symm h.rp.symm h.rq.symm h.rq.symm, t1, by rw [cell_in e0]; rfl, by rw [cell_in e0]; rfl, by rw [cell_in h2']; rfl, ?_, h2', hl, fun c' w2 dn hok ho hno hl' hd hk hh => ?_⟩
  · rw [cell_in h2', now_busy hp]
    rfl
  · refine h.rm.again q6 q7 q8 q9 c' hok ho hno hk (fun x hx => ?_) A cap dn hd (by rw [hl']; exact rowI_nil _ _) (by rw [hl']; exact Nat.zero_le _) q4 q5 (by rw [hl']; exact hh)
    simp only [List.mem_cons, List.not_mem_nil, or_false] at hx
    rcases hx with rfl | rfl | rfl
    · exact h.rm.inr
    · exact h.inp
    · exact h.inq
theorem fr3 (h : Rd9 S g w r vp vq c N M u) (k : Keeps [r, vp, vq] w w2) : Fr g [r, vp, vq] w w2 := Fr.of_keeps k (fun x hx => by
  simp only [List.mem_cons, List.not_mem_nil, or_false] at hx
  rcases hx with rfl | rfl | rfl
  · exact h.rm.gr
  · exact h.gp
  · exact h.gq) h.gw
end
section
variable {S : List Nat} {g : Nat} {w w1 w2 : World} {r vp vq M : Nat} {c : Ck} {N : List (List Int)} {u : St}
theorem r9fin (h : Rd9 S g w r vp vq c N M u) (h2 : 2 ≤ c.ph) (h4 : c.ph ≤ 4) {n cap : Nat} {A : Option Addr}
    (hfin : ∀ (c' : Ck) (w2 : World) (dn : Int), c'.ok → c'.owed = c.owed → c'.noted = c.noted → c'.left = [] → (c'.ph ≠ 0 → dn = doneN c'.ph) → Keeps [r, vp, vq] w w2 → w2.heap[r]? = some (.cells (rkL c' n (.slice A 0 cap) dn).toArray 85 (0, 0)) → Rm S g w2 r c' N M)
    (hl : c.left = []) (hh : w1.heap[r]? = some (.cells (R6 c.now c.dur n c.owed.length true (.slice A 0 cap) (doneN c.ph + 1)).toArray 85 (0, 0))) (t1 : Turns r r w w1) (k2 : Keeps [vp, vq] w1 w2) (hd : DvT w2 vp vq (c.rdev u)) (a : Int) (ha : c.act = a) : Stepped9 S g r vp vq c N M u w (.returned (.tuple #[.int .i64 a, .int .i64 0])) w2 := by
  have hk : Keeps [r, vp, vq] w w2 := (t1.keeps (by simp) (by simp)).trans (k2.mono (by intro x hx; simp at hx; simp [hx]))
  have es : c.step = { c with ph := c.ph + 1 } := by
    unfold Ck.step
    rcases (by omega : c.ph = 2 ∨ c.ph = 3 ∨ c.ph = 4) with e | e | e <;> simp [e]
  have hok := h.rm.ok.still (c' := { c with ph := c.ph + 1 }) rfl rfl rfl rfl (by show c.ph + 1 ≠ 1; omega) (by show c.ph + 1 ≤ 5; omega) (by omega)
  have hdn : doneN (c.ph + 1) = doneN c.ph + 1 := by
    rcases (by omega : c.ph = 2 ∨ c.ph = 3 ∨ c.ph = 4) with e | e | e <;> simp [e, doneN]
  have hnow : ({ c with ph := c.ph + 1 } : Ck).now = c.now := by
    unfold Ck.now
    rw [if_neg (by show c.ph + 1 ≠ 0; omega), if_neg (by omega)]
  refine ⟨by rw [ha]; unfold Ck.stepE; rw [if_neg (by omega)], ?_, hd, fr3 h hk⟩
  rw [es]
  refine hfin _ w2 (doneN c.ph + 1) hok rfl rfl hl (fun _ => hdn.symm) hk ?_
  rw [k2.block r (not2 h.rp h.rq) (lt_of_heap hh), hh]
  have : rkL ({ c with ph := c.ph + 1 } : Ck) n (.slice A 0 cap) (doneN c.ph + 1) = R6 c.now c.dur n c.owed.length true (.slice A 0 cap) (doneN c.ph + 1) := by
    unfold rkL R6
    rw [hnow]
    simp
  rw [this]
set_option maxHeartbeats 1600000 in
set_option maxRecDepth 100000 in
theorem r9step_2 (h : Rd9 S g w r vp vq c N M u) (e : c.ph = 2) : Calls Try.prog 20 #[.pointer (some ⟨r, 0, none⟩), .pointer (some ⟨vp, 0, none⟩)] w (Stepped9 S g r vp vq c N M u w) := by
  obtain ⟨n, A, cap, w1, c5, e1, hd1, t1, c3, c4, c51, c01, h1, hl, hfin⟩ := Rm.done h (by omega)
  have hdn : doneN c.ph = 0 := by rw [e]; rfl
  have hdn1 : doneN c.ph + 1 = 1 := by rw [hdn]; rfl
  have HFIN := Lib.hid (fun (w2 : World) (t2 : Turns vp vq w1 w2) (hd : DvT w2 vp vq (u.rfence)) => r9fin h (by omega) (by omega) hfin hl h1 t1 t2.k2 (by unfold Ck.rdev; simpa [e] using hd) 2 (by unfold Ck.act; simp [e]))
  have HF := Lib.hid (rfence_any hd1)
  rw [hdn1] at e1 c51
  rw [hdn] at c5
  have E1 := Lib.hid e1
  clear hfin h1 t1 hd1 e1 hdn hdn1 hl h e c01
  generalize Stepped9 S g r vp vq c N M u w = R at *
  go_enter Try.func20, Try.ntmps20
  go_wp2_with ((with_reducible show wpList _ _ _ (⟨none, .store 3 _ _, _, _, _, _⟩ :: _) _ _); refine wpList_store_run (o := ⟨none, .store 3 _ _, _, _, _, _⟩) rfl _ _ _ rfl rfl rfl rfl rfl size_int E1.out ?_)
  refine HF.out.mono ?_
  rintro e w2 ⟨rfl, hd2, ht2⟩
  have HE := Lib.hid (HFIN.out w2 ht2 hd2)
  clear hd2 ht2
  go_wp2
  exact HE.out
set_option maxHeartbeats 1600000 in
set_option maxRecDepth 100000 in
theorem r9step_4 (h : Rd9 S g w r vp vq c N M u) (e : c.ph = 4) : Calls Try.prog 20 #[.pointer (some ⟨r, 0, none⟩), .pointer (some ⟨vp, 0, none⟩)] w (Stepped9 S g r vp vq c N M u w) := by
  obtain ⟨n, A, cap, w1, c5, e1, hd1, t1, c3, c4, c51, c01, h1, hl, hfin⟩ := Rm.done h (by omega)
  have hdn : doneN c.ph = 2 := by rw [e]; rfl
  have hdn1 : doneN c.ph + 1 = 3 := by rw [hdn]; rfl
  have HFIN := Lib.hid (fun (w2 : World) (t2 : Turns vp vq w1 w2) (hd : DvT w2 vp vq (u.flush 1)) => r9fin h (by omega) (by omega) hfin hl h1 t1 t2.k2 (by unfold Ck.rdev; simpa [e] using hd) 1 (by unfold Ck.act; simp [e]))
  have HF := Lib.hid (rflush_any hd1 1)
  rw [hdn1] at e1 c51
  rw [hdn] at c5
  have E1 := Lib.hid e1
  clear hfin h1 t1 hd1 e1 hdn hdn1 hl h e c01
  generalize Stepped9 S g r vp vq c N M u w = R at *
  go_enter Try.func20, Try.ntmps20
  go_wp2_with ((with_reducible show wpList _ _ _ (⟨none, .store 3 _ _, _, _, _, _⟩ :: _) _ _); refine wpList_store_run (o := ⟨none, .store 3 _ _, _, _, _, _⟩) rfl _ _ _ rfl rfl rfl rfl rfl size_int E1.out ?_)
  refine HF.out.mono ?_
  rintro e w2 ⟨rfl, hd2, ht2⟩
  have HE := Lib.hid (HFIN.out w2 ht2 hd2)
  clear hd2 ht2
  go_wp2
  exact HE.out
set_option maxHeartbeats 1600000 in
set_option maxRecDepth 100000 in
theorem r9step_3 (h : Rd9 S g w r vp vq c N M u) (e : c.ph = 3) : Calls Try.prog 20 #[.pointer (some ⟨r, 0, none⟩), .pointer (some ⟨vp, 0, none⟩)] w (Stepped9 S g r vp vq c N M u w) := by
  obtain ⟨n, A, cap, w1, c5, e1, hd1, t1, c3, c4, c51, c01, h1, hl, hfin⟩ := Rm.done h (by omega)
  have hdn : doneN c.ph = 1 := by rw [e]; rfl
  have hdn1 : doneN c.ph + 1 = 2 := by rw [hdn]; rfl
  have HFIN := Lib.hid (fun (w2 : World) (t2 : Keeps [vp, vq] w1 w2) (hd : DvT w2 vp vq (u.store 1 0 (clockL (c.dur + 1)))) => r9fin h (by omega) (by omega) hfin hl h1 t1 t2 (by unfold Ck.rdev; simpa [e] using hd) 3 (by unfold Ck.act; simp [e]))
  have hw1 := u64_down (c.dur + 1) (by have := h.rm.ok.lt; omega)
  have HC := Lib.hid (rclock_ok (c.dur + 1) (by have := h.rm.ok.lt; omega) w1)
  have HCL := Lib.hid (clockL_len (c.dur + 1))
  have HD1 := Lib.hid hd1
  have HLT : Hid (vp < w1.heap.size ∧ vq < w1.heap.size) := ⟨hd1.lt_p, hd1.lt_q⟩
  rw [hdn1] at e1 c51
  rw [hdn] at c5
  have E1 := Lib.hid e1
  generalize ((c.dur + 1 + 1 : Nat) : Int) = d2 at *
  clear hfin h1 t1 hd1 e1 hdn hdn1 hl h e
  generalize Stepped9 S g r vp vq c N M u w = R at *
  unfold OwnTo at HC
  generalize ((c.dur + 1 : Nat) : Int) = d1 at *
  go_enter Try.func20, Try.ntmps20
  go_wp2_with ((with_reducible show wpList _ _ _ (⟨none, .store 3 _ _, _, _, _, _⟩ :: _) _ _); refine wpList_store_run (o := ⟨none, .store 3 _ _, _, _, _, _⟩) rfl _ _ _ rfl rfl rfl rfl rfl size_int E1.out ?_)
  refine HC.out.mono ?_
  rintro e w2 ⟨gb, cap2, rfl, ho, hb⟩
  obtain ⟨A2, cap3, he, hrow⟩ := row_of_own ho (by rw [HCL.out]; omega)
  cases he
  have hgb : w1.heap.size ≤ gb := by
    rcases ho.2 with ⟨h0, _⟩ | ⟨g', cap', cur, he2, hge, _⟩
    · cases h0
    · cases he2; exact hge
  have hd2 := HD1.out.below hb
  have HS := Lib.hid (rstore_any (s := u) hd2 1 0 (some ⟨gb, 0, none⟩) (clockL (c.dur + 1)).length cap2 (clockL (c.dur + 1)) rfl hrow (fun _ x hx => by cases hx; have := HLT.out; exact ⟨by show gb ≠ vp; omega, by show gb ≠ vq; omega⟩))
  have HK2 := Lib.hid (Keeps.of_below hb [vp, vq])
  clear ho hb hrow hgb hd2
  go_wp2_with fail
  refine HS.out.mono ?_
  rintro e w3 ⟨rfl, hd3, ht3⟩
  have HE := Lib.hid (HFIN.out w3 (HK2.out.trans ht3.k2) hd3)
  clear hd3 ht3
  go_wp2
  exact HE.out
set_option maxHeartbeats 1600000 in
set_option maxRecDepth 100000 in
theorem r9step_5 (h : Rd9 S g w r vp vq c N M u) (e : c.ph = 5) (hlt : c.dur + 3 < 18446744073709551616) : Calls Try.prog 20 #[.pointer (some ⟨r, 0, none⟩), .pointer (some ⟨vp, 0, none⟩)] w (Stepped9 S g r vp vq c N M u w) := by
  obtain ⟨n, A, cap, w1, c5, e1, hd1, t1, c3, c4, c51, c01, h1, hl, hfin⟩ := Rm.done h (by omega)
  have hdn : doneN c.ph = 3 := by rw [e]; rfl
  have hdn1 : doneN c.ph + 1 = 4 := by rw [hdn]; rfl
  have hw1 := u64_down (c.dur + 1) (by have := h.rm.ok.lt; omega)
  have HF := Lib.hid (rfence_any hd1)
  have HNR : Hid (r ≠ vp ∧ r ≠ vq) := ⟨h.rp, h.rq⟩
  have HFIN := Lib.hid (fun (w2 w3 w4 : World) (hd2 : DvT w2 vp vq u.rfence) (t2 : Turns vp vq w1 w2) (t3 : Turns r r w2 w3) (h4 : w4.heap[r]? = some (.cells (R6 c.now (c.dur + 1) n c.owed.length false (.slice A 0 cap) 4).toArray 85 (0, 0))) (t4 : Turns r r w3 w4) => (by
    have e2 : c.step = { c with ph := 0, dur := c.dur + 1 } := by unfold Ck.step; simp [e]
    have e3 : c.rdev u = u.rfence := by unfold Ck.rdev; simp [e]
    have hk : Keeps [r, vp, vq] w w4 := ((t1.keeps (by simp) (by simp)).trans (t2.keeps (by simp) (by simp))).trans ((t3.keeps (by simp) (by simp)).trans (t4.keeps (by simp) (by simp)))
    have hok := h.rm.ok.step hlt
    refine ⟨by unfold Ck.act Ck.stepE; simp [e], ?_, by rw [e3]; exact (hd2.turns t3 h.rp.symm h.rp.symm h.rq.symm h.rq.symm).turns t4 h.rp.symm h.rp.symm h.rq.symm h.rq.symm, fr3 h hk⟩
    rw [e2] at hok ⊢
    refine hfin _ w4 4 hok rfl rfl hl (fun h0 => absurd rfl h0) hk ?_
    have hn : ({ c with ph := 0, dur := c.dur + 1 } : Ck).now = c.now := by unfold Ck.now; simp [e]
    have : rkL ({ c with ph := 0, dur := c.dur + 1 } : Ck) n (.slice A 0 cap) 4 = R6 c.now (c.dur + 1) n c.owed.length false (.slice A 0 cap) 4 := by
      unfold rkL R6
      rw [hn]
      simp
    rw [this]
    exact h4 : Stepped9 S g r vp vq c N M u w (.returned (.tuple #[.int .i64 2, .int .i64 0])) w4))
  have hnow2 : c.now = c.dur + 1 + 1 := now_busy (by omega)
  rw [hdn1] at e1 c51 h1
  rw [hdn] at c5
  have E1 := Lib.hid e1
  have H1 := Lib.hid h1
  have HNW := Lib.hid hnow2
  clear hfin h1 t1 hd1 e1 hdn hdn1 hl h e c01 hlt hnow2
  generalize Stepped9 S g r vp vq c N M u w = R at *
  go_enter Try.func20, Try.ntmps20
  go_wp2_with ((with_reducible show wpList _ _ _ (⟨none, .store 3 _ _, _, _, _, _⟩ :: _) _ _); refine wpList_store_run (o := ⟨none, .store 3 _ _, _, _, _, _⟩) rfl _ _ _ rfl rfl rfl rfl rfl size_int E1.out ?_)
  refine HF.out.mono ?_
  rintro e w2 ⟨rfl, hd2, ht2⟩
  have h2 := (ht2.block r HNR.out.1 HNR.out.2 (lt_of_heap H1.out)).trans H1.out
  have c02 : w2.cell? ⟨r, 0, none⟩ = some (.int .u64 (c.dur + 1 + 1 : Nat)) := by rw [cell_in h2, ← HNW.out]; rfl
  obtain ⟨w3, e3, h3, t3⟩ := r6_store (P := Try.prog) h2 1 (.int .u64 (c.dur + 1 : Nat)) (by simp [R6]) rfl (l' := R6 c.now (c.dur + 1) n c.owed.length true (.slice A 0 cap) 4) rfl
  obtain ⟨w4, e4, h4, t4⟩ := r6_store (P := Try.prog) h3 3 (.bool false) (by simp [R6]) rfl (l' := R6 c.now (c.dur + 1) n c.owed.length false (.slice A 0 cap) 4) rfl
  have HE := Lib.hid (HFIN.out w2 w3 w4 hd2 ht2 t3 h4 t4)
  have E3 := Lib.hid e3
  have E4 := Lib.hid e4
  generalize ((c.dur + 1 + 1 : Nat) : Int) = d2 at *
  generalize ((c.dur + 1 : Nat) : Int) = d1 at *
  clear hd2 ht2 h2 e3 h3 t3 e4 h4 t4
  go_wp2_with (first
    | ((with_reducible show wpList _ _ _ (⟨none, .store 22 _ _, _, _, _, _⟩ :: _) _ _); refine wpList_store_run (o := ⟨none, .store 22 _ _, _, _, _, _⟩) rfl _ _ _ rfl rfl rfl rfl rfl size_u64 E3.out ?_)
    | ((with_reducible show wpList _ _ _ (⟨none, .store 4 _ _, _, _, _, _⟩ :: _) _ _); refine wpList_store_run (o := ⟨none, .store 4 _ _, _, _, _, _⟩) rfl _ _ _ rfl rfl rfl rfl rfl size_bool9 E4.out ?_))
  exact HE.out
end
section
variable {S : List Nat} {g : Nat} {w w1 w2 : World} {r vp vq M : Nat} {c : Ck} {N : List (List Int)} {u : St}
/-- The lines that are left, one less, in memory of their own. -/
theorem r9rest (h : Rd9 S g w r vp vq c N M u) (hp : c.ph = 1) (x : Int) (l : List Int) (hxl : c.left = x :: l) (ht : Turns vp vq w w1) (hd : DvT w1 vp vq (u.flush x)) (b off' cap' : Nat) (hr : RowI w (some ⟨b, off', none⟩) l) (hb : b ∉ S) :
    ∃ A2 cap2 w2 w3, (Builtin.append_ #[68, 68] 68 #[.slice none 0 0, .slice (some ⟨b, off', none⟩) l.length cap']).run Try.prog w1 = .ok (.slice A2 l.length cap2) w2 ∧ (storeCells ⟨r, 4, none⟩ [.slice A2 l.length cap2]).run Try.prog w2 = .ok () w3 ∧ Stepped9 S g r vp vq c N M u w (.returned (.tuple #[.int .i64 1, .int .i64 0])) w3 := by
  obtain ⟨n, A, cap, dn, V, e, h1, q2, q3, q4, q5, q6, q7, q8, q9⟩ := h.rm.mem
  have hdn := h1 (by omega)
  subst hdn
  have hll : l.length ≤ 258 := by have := h.rm.ok.left; rw [hxl] at this; simp only [List.length_cons] at this; omega
  have hr1 : RowI w1 (some ⟨b, off', none⟩) l := hr.move ht.size (fun y hy hlt => by cases hy; exact ht.block b (fun ee => hb (ee ▸ h.inp)) (fun ee => hb (ee ▸ h.inq)) hlt)
  obtain ⟨V2, w2, e2, o2, g2, _⟩ := run_appI w1 w1.heap.size 0 (.slice none 0 0) [] (World.ownsRow_nil _ _ _ _) (some ⟨b, off', none⟩) l.length cap' l rfl hr1 (by intro h; cases h) (by omega) (Nat.le_refl _)
  rw [Nat.zero_add, List.nil_append] at o2
  have b2 : Below w1.heap.size w1 w2 := (Below.refl _ _).grown g2 (Nat.le_refl _) (fun k hk => by simp [Value.ownBlock] at hk)
  obtain ⟨A2, cap2, rfl, hrow2, ha2, hbase⟩ := rowI_of_own o2 (by omega)
  have er1 := (ht.block r h.rp h.rq (lt_of_heap e)).trans e
  have er2 := (b2.block r (lt_of_heap er1)).trans er1
  have hr6 : rkL c n (.slice A c.left.length cap) (doneN c.ph) = R6 c.now c.dur n c.owed.length true (.slice A c.left.length cap) 0 := by unfold rkL R6; rw [hp]; rfl
  rw [hr6] at er2
  obtain ⟨w3, e3, h3, t3⟩ := r6_store (P := Try.prog) er2 4 (.slice A2 l.length cap2) (by simp [R6]) rfl (l' := R6 c.now c.dur n c.owed.length true (.slice A2 l.length cap2) 0) rfl
  refine ⟨A2, cap2, w2, w3, e2, e3, ?_⟩
  have hk : Keeps [r, vp, vq] w w3 := ((ht.keeps (by simp) (by simp)).trans (Keeps.of_below b2 _)).trans (t3.keeps (by simp) (by simp))
  have es : c.step = { c with left := l, ph := nx l } := by unfold Ck.step; simp [hp, hxl]
  have hn := nx_le l
  have hok : ({ c with left := l, ph := nx l } : Ck).ok := by
    have := h.rm.ok
    exact ⟨this.lt, this.noted, this.one, this.four, hll, fun y hy => this.lines y (by rw [hxl]; exact List.mem_cons_of_mem _ hy), by show nx l ≤ 5; omega, nx_some l⟩
  have hsz := ht.size
  refine ⟨by unfold Ck.act Ck.stepE; simp [hp], ?_, by unfold Ck.rdev; simp only [hp, hxl]; exact (hd.below b2).turns t3 h.rp.symm h.rp.symm h.rq.symm h.rq.symm, fr3 h hk⟩
  rw [es]
  refine h.rm.again q6 q7 q8 q9 _ hok rfl rfl hk (fun y hy => ?_) A2 cap2 0 (fun _ => ?_) (hrow2.move t3.size (fun y hy hlt => t3.other (by have := hbase y hy; have := h.lt r h.rm.inr; omega) hlt)) (own_cap o2) ha2 (fun y hy hm => by have := hbase y hy; have := h.lt _ hm; omega) ?_
  · simp only [List.mem_cons, List.not_mem_nil, or_false] at hy
    rcases hy with rfl | rfl | rfl
    · exact h.rm.inr
    · exact h.inp
    · exact h.inq
  · show (0 : Int) = doneN (nx l)
    unfold doneN
    rw [if_neg (by omega), if_neg (by omega), if_neg (by omega)]
  · have hnow : ({ c with left := l, ph := nx l } : Ck).now = c.now := by
      unfold Ck.now
      rw [if_neg (by show nx l ≠ 0; omega), if_neg (by omega)]
    have : rkL ({ c with left := l, ph := nx l } : Ck) n (.slice A2 l.length cap2) 0 = R6 c.now c.dur n c.owed.length true (.slice A2 l.length cap2) 0 := by
      unfold rkL R6
      rw [hnow, decide_eq_false (by show nx l ≠ 0; omega)]
      rfl
    rw [this]
    exact h3
set_option maxHeartbeats 1600000 in
set_option maxRecDepth 100000 in
theorem r9step_1 (h : Rd9 S g w r vp vq c N M u) (e : c.ph = 1) : Calls Try.prog 20 #[.pointer (some ⟨r, 0, none⟩), .pointer (some ⟨vp, 0, none⟩)] w (Stepped9 S g r vp vq c N M u w) := by
  obtain ⟨x, l, hxl⟩ := left_cons h.rm.ok e
  obtain ⟨n, A, cap, dn, _, _, _, c3, c4, _, _, hrow, hcap, ha, hn, _⟩ := h.rm.reads
  rw [decide_eq_false (by omega), Bool.not_false] at c3
  rw [hxl] at c4 hrow hcap
  obtain ⟨b, off, rfl, hlt, hcell⟩ := hrow.2 (by simp)
  have hc0 := hcell 0 (by simp)
  simp only [Nat.add_zero, List.getD_cons_zero] at hc0
  have hbS := hn _ rfl
  have HR := Lib.hid (fun w1 ht hd off' cap' hr => r9rest (w1 := w1) h e x l hxl ht hd b off' cap' hr hbS)
  have HF := Lib.hid (rflush_any h.dv x)
  have HC4 := Lib.hid (fun w1 (ht : Turns vp vq w w1) => (World.cell?_of_block (w := w) (a := ⟨r, 4, none⟩) (ht.block r h.rp h.rq h.rm.lt_r)).trans c4)
  have HTL := Lib.hid (rowI_tail hrow)
  clear h hcell hrow hlt ha hn hbS
  generalize Stepped9 S g r vp vq c N M u w = R at *
  simp only [List.length_cons] at c4 hcap HC4
  rcases Classical.em (cap = 1) with rfl | hcap1
  · obtain rfl : l = [] := List.eq_nil_of_length_eq_zero (by omega)
    simp only [List.length_nil, Nat.zero_add] at c4 HC4
    clear hcap HTL hxl
    go_enter Try.func20, Try.ntmps20
    go_wp2_with fail
    refine HF.out.mono ?_
    rintro e w1 ⟨rfl, hd1, ht1⟩
    obtain ⟨A2, cap2, w2, w3, e2, e3, hfin⟩ := HR.out w1 ht1 hd1 off 0 (rowI_nil _ _)
    have c41 := HC4.out w1 ht1
    have E2 := Lib.hid e2
    have E3 := Lib.hid e3
    have HE := Lib.hid hfin
    clear hd1 ht1 e2 e3 hfin HR HC4
    go_wp2_with (first
      | (at_builtin; refine wpList_app rfl (.const (.slice none 0 0)) (.tmp 32) 68 rfl rfl rfl E2.out ?_)
      | ((with_reducible show wpList _ _ _ (⟨none, .store 68 _ _, _, _, _, _⟩ :: _) _ _); refine wpList_store_run (o := ⟨none, .store 68 _ _, _, _, _, _⟩) rfl _ _ _ rfl rfl rfl rfl rfl size_ints E3.out ?_))
    exact HE.out
  · have hm0 : (0 : Int) < ((l.length + 1 : Nat) : Int) := by omega
    have hm1 : (1 : Int) ≤ ((l.length + 1 : Nat) : Int) := by omega
    clear hxl
    go_enter Try.func20, Try.ntmps20
    go_wp2_with fail
    refine HF.out.mono ?_
    rintro e w1 ⟨rfl, hd1, ht1⟩
    obtain ⟨A2, cap2, w2, w3, e2, e3, hfin⟩ := HR.out w1 ht1 hd1 (off + 1) (cap - 1) HTL.out
    have c41 := HC4.out w1 ht1
    have E2 := Lib.hid e2
    have E3 := Lib.hid e3
    have HE := Lib.hid hfin
    clear hd1 ht1 e2 e3 hfin HR HC4
    go_wp2_with (first
      | (at_builtin; refine wpList_app rfl (.const (.slice none 0 0)) (.tmp 32) 68 rfl rfl rfl E2.out ?_)
      | ((with_reducible show wpList _ _ _ (⟨none, .store 68 _ _, _, _, _, _⟩ :: _) _ _); refine wpList_store_run (o := ⟨none, .store 68 _ _, _, _, _, _⟩) rfl _ _ _ rfl rfl rfl rfl rfl size_ints E3.out ?_))
    exact HE.out
theorem r9step_any (h : Rd9 S g w r vp vq c N M u) (hlt : c.dur + 3 < 18446744073709551616) : Calls Try.prog 20 #[.pointer (some ⟨r, 0, none⟩), .pointer (some ⟨vp, 0, none⟩)] w (Stepped9 S g r vp vq c N M u w) := by
  have h5 := h.rm.ok.ph
  rcases (by omega : c.ph = 0 ∨ c.ph = 1 ∨ c.ph = 2 ∨ c.ph = 3 ∨ c.ph = 4 ∨ c.ph = 5) with e | e | e | e | e | e
  · exact r9step_0 h e
  · exact r9step_1 h e
  · exact r9step_2 h e
  · exact r9step_3 h e
  · exact r9step_4 h e
  · exact r9step_5 h e hlt
end

end Go.Proofs.Ytkcjamjjaallhaa
