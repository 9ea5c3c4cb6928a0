/-
  Proved here: what push, pop and drop leave of a store.
  Conditions: less than 10^6 pairs and texts.
-/
import Derived.Test.YtpmgnhijiodbaaaSh15
namespace Go.Proofs.Ytpmgnhijiodbaaa
open Go Go.RowKit
set_option maxRecDepth 100000

set_option maxHeartbeats 800000 in
theorem push15_any {w : World} {p : Nat} {v1 v2 : Value} {L : List Kv} {Q : List ByteArray} (h : Shm w p v1 v2 L Q) (hl : Q.length + 1 < 1000000) (s : ByteArray) : Calls Try.prog 20 #[.pointer (some ⟨p, 0, none⟩), .string s] w fun e w' => e = .returned (.tuple #[]) ∧ ShTo w p v1 v2 L (Q ++ [s]) w' := by
  obtain ⟨u, w1, e1, e2, e3, e4, _⟩ := RS.run_app_one w 0 Q.length v2 Q s h.o2 (by omega) (Nat.zero_le _) 23
  obtain ⟨_, A, cap, rfl, _⟩ := Rec.row_of_own e2 (by simp; omega)
  have HFIN : Hid (ShTo w p v1 v2 L (Q ++ [s]) (w1.setCell ⟨p, 1, none⟩ (.slice A (Q.length + 1) cap))) := h.texts (by simp; exact hl) (by rw [List.length_append]; exact e2) (Stay.of_grown e3) (fun k hk => by
    rcases e4 with e | e
    · exact .inl (e.symm.trans hk)
    · rw [e] at hk
      cases hk
      exact .inr (Nat.le_succ _))
  have HP1 : Hid (∃ a, w1.heap[p]? = some (.cells #[a, v2] 25 (0, 0))) := ⟨v1, (e3.block p (h.lt (.inl rfl)) (Ne.symm h.ne2)).trans h.mem⟩
  obtain ⟨_, _, B, c2, _, f2, -⟩ := h.forms
  subst f2
  obtain ⟨p0, p1⟩ := cells2 h.mem
  have E1 : Hid ((Builtin.append_ #[23, 23] 23 #[.slice B Q.length c2, .slice (some ⟨w.heap.size, 0, none⟩) 1 1]).run Try.prog (w.alloc (.cells #[.string s] 9)) = .ok (.slice A (Q.length + 1) cap) w1) := e1
  obtain ⟨x1, hx1⟩ := HP1.out
  obtain ⟨q0, q1⟩ := cells2 hx1
  have hf1 : w1.frozen? ⟨p, 1, none⟩ = false := by simp [World.frozen?, hx1]
  have hpw : p < w.heap.size := h.lt (.inl rfl)
  have hpn : ¬ p = w.heap.size := by omega
  obtain ⟨R, hR⟩ : ∃ R, ShTo w p v1 (.slice B Q.length c2) L (Q ++ [s]) = R := ⟨_, rfl⟩
  rw [hR] at HFIN ⊢
  clear e1 e2 e3 e4 h hx1 hR HP1
  generalize Q.length = n at *
  go_enter Try.func20, Try.ntmps20
  go_wp2_with (at_builtin; refine wpList_app rfl (.tmp 8) (.tmp 10) 23 rfl rfl rfl E1.out ?_)
  refine bodyPost_end (results_none rfl _ _ _) rfl ?_
  exact ⟨rfl, HFIN.out⟩
set_option maxHeartbeats 800000 in
theorem pop15_nil {w : World} {p : Nat} {v1 v2 : Value} {L : List Kv} (h : Shm w p v1 v2 L []) : Calls Try.prog 21 #[.pointer (some ⟨p, 0, none⟩)] w fun e w' => e = .returned (.tuple #[.string ⟨#[]⟩, .bool false]) ∧ w = w' := by
  obtain ⟨_, _, B, c2, _, f2, -⟩ := h.forms
  subst f2
  obtain ⟨p0, p1⟩ := cells2 h.mem
  rw [List.length_nil] at p1
  clear h
  go_enter Try.func21, Try.ntmps21
  go_wp2
  go_ret2
  exact ⟨rfl, rfl⟩
set_option maxHeartbeats 1600000 in
theorem pop15_any {w : World} {p : Nat} {v1 v2 : Value} {L : List Kv} {x : ByteArray} {Q : List ByteArray} (h : Shm w p v1 v2 L (x :: Q)) : Calls Try.prog 21 #[.pointer (some ⟨p, 0, none⟩)] w fun e w' => e = .returned (.tuple #[.string x, .bool true]) ∧ ShTo w p v1 v2 L Q w' := by
  obtain ⟨_, _, B, c2, _, f2, _, _, g1, g2, _, hrow, _⟩ := h.forms
  subst f2
  obtain ⟨b, off, rfl, hbw, hb0⟩ := textAt hrow (i := 0) rfl
  have hoff : off = 0 := by
    rcases h.o2.2 with ⟨e, _⟩ | ⟨g, cap, cur, e, _⟩ <;> cases e
    rfl
  subst hoff
  have HDL := Lib.hid (dels_some rfl h.o2 (by simp))
  have HFIN : Hid (∀ A m c W, W.ownsRow 0 RS.tE RS.k (.slice A m c) Q.length (RS.enc Q) → w.grownBy W (some b) → (∀ k, (Value.slice A m c).ownBlock = some k → some b = some k ∨ w.heap.size ≤ k) → ShTo w p v1 (.slice (some ⟨b, 0, none⟩) (x :: Q).length c2) L Q (W.setCell ⟨p, 1, none⟩ (.slice A m c))) := fun A m c W h1 h2 h3 =>
    h.texts (by have := h.l2; simp at this; omega) h1 (Stay.of_grown h2) h3
  have HPM : Hid (∀ W, w.grownBy W (some b) → ∃ a, W.heap[p]? = some (.cells #[a, .slice (some ⟨b, 0, none⟩) (x :: Q).length c2] 25 (0, 0))) := fun W hW => ⟨v1, (hW.block p (h.lt (.inl rfl)) (Ne.symm h.ne2)).trans h.mem⟩
  obtain ⟨p0, p1⟩ := cells2 h.mem
  have HDL2 : Hid (Calls Try.prog 43 #[.slice (some ⟨b, 0, none⟩) (x :: Q).length c2, .int .i64 0, .int .i64 1] w (RowTo15 RS 0 Q (.slice (some ⟨b, 0, none⟩) (x :: Q).length c2) w)) := HDL.out
  have hn0 : (0 : Nat) < (x :: Q).length := by simp
  have hn1 : (((x :: Q).length : Int) == 0) = false := by simp; omega
  have HQL : Hid (Q.length ≤ 1048576) := by have := h.l2; simp at this; show _ ≤ _; omega
  obtain ⟨R, hR⟩ : ∃ R, ShTo w p v1 (.slice (some ⟨b, 0, none⟩) (x :: Q).length c2) L Q = R := ⟨_, rfl⟩
  rw [hR] at HFIN ⊢
  have hpw : p < w.heap.size := h.lt (.inl rfl)
  clear HDL h hrow hR
  generalize (x :: Q).length = n at *
  go_enter Try.func21, Try.ntmps21
  go_wp2_with fail
  refine HDL2.out.mono ?_
  rintro e w1 ⟨u, rfl, h1, h2, h3⟩
  obtain ⟨_, A, c, rfl, _⟩ := Rec.row_of_own h1 HQL.out
  have HF := Lib.hid (HFIN.out A _ c w1 h1 h2 h3)
  obtain ⟨a, ha⟩ := HPM.out w1 h2
  obtain ⟨q0, q1⟩ := cells2 ha
  have hf1 : w1.frozen? ⟨p, 1, none⟩ = false := by simp [World.frozen?, ha]
  clear h1 h2 h3 ha p0 p1
  generalize Q.length = m at *
  go_wp2
  go_ret2
  exact ⟨rfl, HF.out⟩
set_option maxHeartbeats 800000 in
theorem delf_nil {w : World} {B : Nat} (g : Nat) (cb : Array Value) (p : Kv → Bool) (eg : ∀ args w, (callFunc g args).run Try.prog w = .ok (.enter g args) w) :
    Calls Try.prog 41 #[.slice none 0 0, .func (.func g) #[] cb] w (RowTo15 RP B ([] : List Kv) (.slice none 0 0) w) := by
  have HIX := Lib.hid (idxp_any (w := w) (A := none) (l := []) 0 0 rfl (RP.row_nil _ _) g cb #[] p rfl eg (fun W hW x hx => by cases hx))
  have hf : fIdx p [] = -1 := rfl
  rw [hf] at HIX
  have HF : Hid (∀ W, Below w.heap.size w W → RowTo15 RP B ([] : List Kv) (.slice none 0 0) w (.returned (.slice none 0 0)) W) := fun W hW =>
    ⟨_, rfl, World.ownsRow_nil _ _ _ _, ⟨hW.os, hW.tape, hW.output, hW.size, fun k hk _ => hW.block k hk⟩, fun k hk => by cases hk⟩
  obtain ⟨R, hR⟩ : ∃ R, RowTo15 RP B ([] : List Kv) (.slice none 0 0) w = R := ⟨_, rfl⟩
  rw [hR] at HF ⊢
  clear hf hR
  go_enter Try.func41, Try.ntmps41
  go_wp2_with fail
  refine HIX.out.mono ?_
  rintro e w1 ⟨rfl, hb⟩
  have HB1 := Lib.hid hb
  clear hb
  go_wp2
  exact HF.out _ HB1.out
theorem delf_any {w : World} {v : Value} {B : Nat} {l : List Kv} (hown : w.ownsRow B RP.tE RP.k v l.length (RP.enc l)) (hl : l.length ≤ 1048576) (g : Nat) (cb : Array Value) (p : Kv → Bool)
    (eg : ∀ args w, (callFunc g args).run Try.prog w = .ok (.enter g args) w) (hc : ∀ W, w.grownBy W v.ownBlock → ∀ x : Kv, Calls Try.prog g (#[.agg #[.string x.k, .string x.v]] ++ cb) W fun e w' => e = .returned (.bool (p x)) ∧ Below W.heap.size W w') :
    Calls Try.prog 41 #[v, .func (.func g) #[] cb] w (RowTo15 RP B (l.filter fun x => !p x) v w) := by
  rcases hown.2 with ⟨rfl, h0⟩ | ⟨gr, cap, cur, rfl, _⟩
  · obtain rfl : l = [] := List.eq_nil_of_length_eq_zero h0
    exact delf_nil g cb p eg
  · exact delf_some rfl hown hl g cb #[] p rfl eg hc
theorem delK_len (L : List Kv) (s : ByteArray) : decide ((delK L s).length < L.length) = hasK L s := by
  have h := List.length_filter_lt_length_iff_exists (l := L) (p := fun x => !eqKv s x)
  unfold delK hasK
  rw [Bool.eq_iff_iff, decide_eq_true_eq, List.any_eq_true]
  rw [h]
  simp
set_option maxHeartbeats 1600000 in
theorem drop15_any {w : World} {p : Nat} {v1 v2 : Value} {L : List Kv} {Q : List ByteArray} (h : Shm w p v1 v2 L Q) (s : ByteArray) : Calls Try.prog 19 #[.pointer (some ⟨p, 0, none⟩), .string s] w fun e w' => e = .returned (.bool (hasK L s)) ∧ ShTo w p v1 v2 (delK L s) Q w' := by
  obtain ⟨g, hg⟩ : ∃ g, w.heap.size = g := ⟨_, rfl⟩
  obtain ⟨w1, hw1⟩ : ∃ w1, w.alloc (.cells #[.string s] 9) = w1 := ⟨_, rfl⟩
  have HX : Hid (w1.heap[g]? = some (.cells #[.string s] 9 (0, 0))) := by rw [← hw1, ← hg]; exact heap_alloc_new w _
  have HB : Hid (Below g w w1) := by rw [← hw1, ← hg]; exact (Below.refl _ _).alloc (Nat.le_refl _) _
  have h1 := h.below (hg ▸ HB.out)
  have hlt : ∀ k, shOwn p v1 v2 k → k < g := fun k hk => hg ▸ h.lt hk
  have HDF := Lib.hid (delf_any (B := 0) h1.o1 (by have := h.l1; omega) 42 #[.pointer (some ⟨g, 0, none⟩)] (eqKv s) (enters_of Try.func42 (by kernel_rfl) rfl) (fun W hW x => drop1_15 x s g W (Nat.lt_of_lt_of_le (lt_of_heap HX.out) hW.size) (by
    have hb := hW.block g (lt_of_heap HX.out) (fun e => by have := hlt g (.inr (.inl e.symm)); omega)
    exact cells1 (hb.trans HX.out))))
  have HFIN : Hid (∀ A n c W, n = (delK L s).length → W.ownsRow 0 RP.tE RP.k (.slice A n c) n (RP.enc (delK L s)) → w1.grownBy W v1.ownBlock → (∀ k, (Value.slice A n c).ownBlock = some k → v1.ownBlock = some k ∨ w1.heap.size ≤ k) → ShTo w p v1 v2 (delK L s) Q (W.setCell ⟨p, 0, none⟩ (.slice A n c))) := fun A n c W hn k1 k2 k3 => by
    subst hn
    exact ShTo.ahead (hg ▸ HB.out) (h1.pairs (by
      have h2 := h.l1
      have h3 := List.length_filter_le (fun x => !eqKv s x) L
      show (L.filter fun x => !eqKv s x).length < 1000000
      omega) k1 (Stay.of_grown k2) k3)
  have HPM : Hid (∀ W, w1.grownBy W v1.ownBlock → ∃ b, ∀ a, (W.setCell ⟨p, 0, none⟩ a).cell? ⟨p, 0, none⟩ = some a ∧ W.cell? ⟨p, 0, none⟩ = some b ∧ W.frozen? ⟨p, 0, none⟩ = false) := fun W hW => by
    have hm := (hW.block p (h1.lt (.inl rfl)) (Ne.symm h1.ne1)).trans h1.mem
    refine ⟨v1, fun a => ⟨?_, (cells2 hm).1, by simp [World.frozen?, hm]⟩⟩
    exact World.cell?_setCell_same' _ _ _ (by rw [(cells2 hm).1]; rfl)
  have HDL := Lib.hid (delK_len L s)
  have HLN : Hid ((delK L s).length ≤ 1048576) := by
    have h2 := h.l1
    have h3 := List.length_filter_le (fun x => !eqKv s x) L
    show (L.filter fun x => !eqKv s x).length ≤ 1048576
    omega
  obtain ⟨A, c1, _, _, f1, _, g1, g2, -⟩ := h1.forms
  subst f1
  obtain ⟨p0, p1⟩ := cells2 h1.mem
  obtain ⟨M, hM⟩ : ∃ M, delK L s = M := ⟨_, rfl⟩
  have HDF2 : Hid (Calls Try.prog 41 #[.slice A L.length c1, .func (.func 42) #[] #[.pointer (some ⟨g, 0, none⟩)]] w1 (RowTo15 RP 0 M (.slice A L.length c1) w1)) := hM ▸ HDF.out
  rw [hM] at HFIN HDL HLN ⊢
  have hpg : p < g := hlt p (.inl rfl)
  have hpne : ¬ p = g := by omega
  obtain ⟨R, hR⟩ : ∃ R, ShTo w p (.slice A L.length c1) v2 M Q = R := ⟨_, rfl⟩
  rw [hR] at HFIN ⊢
  have hLm : L.length ≤ 1000000 := Nat.le_of_lt h.l1
  clear HDF h h1 hM hR hlt
  generalize hasK L s = z at *
  generalize L.length = n at *
  go_enter Try.func19, Try.ntmps19
  go_wp2_with fail
  refine HDF2.out.mono ?_
  clear hg hw1
  rintro e w2 ⟨u, rfl, k1, k2, k3⟩
  obtain ⟨_, A2, c2, rfl, -⟩ := Rec.row_of_own k1 HLN.out
  obtain ⟨b, hb⟩ := HPM.out w2 k2
  obtain ⟨q0, q1, q2⟩ := hb (.slice A2 M.length c2)
  have HF := Lib.hid (HFIN.out A2 _ c2 w2 rfl k1 k2 k3)
  have hdl := HDL.out
  have HMN : Hid (M.length ≤ 1048576) := HLN.out
  clear k1 k2 k3 hb p0 p1
  generalize M.length = m at *
  go_wp2
  go_ret
  exact ⟨by first | rfl | rw [← hdl], HF.out⟩

end Go.Proofs.Ytpmgnhijiodbaaa
