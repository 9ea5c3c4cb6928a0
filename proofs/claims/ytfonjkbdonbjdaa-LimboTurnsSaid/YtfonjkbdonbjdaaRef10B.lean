/-
  Proved here: what chapter 10's own Put answers and leaves.
  Conditions: none.
-/
import Derived.Test.YtfonjkbdonbjdaaRef10A
namespace Go.Proofs.Ytfonjkbdonbjdaa
open Go Go.RowKit

/-- What a step of chapter 10's own bag leaves. -/
def RbTo (w : World) (p lo q : Nat) (L : List En) (w' : World) : Prop := ∃ q', RbP w' p lo q' L ∧ Turns p p w w' ∧ (q' = p ∨ q' = q ∨ w.heap.size ≤ q')
theorem Bg.fresh {D : TypeId} {w w1 : World} {p lo q : Nat} {L L' : List En} {v' : Value} (h : Bg D w p lo q L) (hb : Below w.heap.size w w1) (ho : w1.ownsRow w.heap.size 40 5 v' L'.length (encE L')) (hl : L'.length ≤ 258) (hlo : lo ≤ w.heap.size) :
    ∃ q', Bg D (w1.setCell ⟨p, 0, none⟩ v') p lo q' L' ∧ Turns p p w (w1.setCell ⟨p, 0, none⟩ v') ∧ (q' = p ∨ w.heap.size ≤ q') := by
  obtain ⟨v, hm, _, hne, _⟩ := h.mem
  have hp : p < w.heap.size := lt_of_heap hm
  have hm1 : w1.heap[p]? = some (.cells #[v] D (0, 0)) := (hb.block p hp).trans hm
  have hge := own_ge ho
  have hne' : v'.ownBlock ≠ some p := fun e => by have := hge p e; omega
  refine ⟨v'.ownBlock.getD p, ⟨hl, v', ?_, ?_, hne', rfl⟩, ?_, ?_⟩
  · rw [heap_setCell_same w1 p 0 _ D _ hm1]
    simp
  · refine ⟨ho.1, ho.2.imp id ?_⟩
    rintro ⟨g, cap, cur, e, h2, h3, h4⟩
    refine ⟨g, cap, cur, e, Nat.le_trans hlo h2, ?_, h4⟩
    rw [Below.heap_setCell _ _ _ _ (by intro e2; exact hne' (by rw [e]; simp only [Value.ownBlock]; rw [e2]))]
    exact h3
  · refine ⟨hb.os, hb.tape, hb.output, by simpa [World.setCell] using hb.size, fun k h1 _ h3 => ?_⟩
    rw [Below.heap_setCell _ _ _ _ (by simpa using h1)]
    exact hb.block k h3
  · cases e : v'.ownBlock with
    | none => exact .inl rfl
    | some k => exact .inr (hge k e)
/-- Entries copied, then one entry put behind them: what it leaves. -/
structure PutE (w w2 : World) (A : Option Addr) (n cap : Nat) (l : List En) : Prop where
  own : w2.ownsRow w.heap.size 40 5 (.slice A n cap) n (encE l)
  bel : Below w.heap.size w w2
theorem putE_one (w : World) (B : Option Addr) (m cb : Nat) (l : List En) (e : En) (hl : l.length = m) (hm : m ≤ 1000) (hrow : RowE w B l) (hB : B = none → m = 0 ∧ cb = 0) :
    ∃ v1 w1 A cap w2, (Builtin.append_ #[27, 27] 27 #[.slice none 0 0, .slice B m cb]).run Try.prog w.drew = .ok v1 w1 ∧
      (Builtin.append_ #[27, 27] 27 #[v1, .slice (some ⟨w1.heap.size, 0, none⟩) 1 1]).run Try.prog (w1.alloc (.cells #[.int .i64 e.line, .int .i64 e.cl, .int .u64 (e.r : Nat), .int .u64 (e.d : Nat), .int .i64 e.anti] 40)) = .ok (.slice A (m + 1) cap) w2 ∧ Below w.heap.size w w1 ∧ PutE w w2 A (m + 1) cap (l ++ [e]) := by
  obtain ⟨v1, w1, e1, o1, g1, _⟩ := run_appE w.drew w.heap.size (.slice none 0 0) [] (World.ownsRow_nil _ _ _ _) B m cb l hl (hrow.below (below_drewN (Below.refl _ _) 1)) hB (by simp; omega) (Nat.le_refl _)
  rw [List.nil_append] at o1
  have b1 : Below w.heap.size w w1 := (below_drewN (Below.refl _ _) 1).grown g1 (Nat.le_refl _) (fun k hk => by simp [Value.ownBlock] at hk)
  obtain ⟨v2, w2, e2, o2, g2, _⟩ := run_appE_one w1 w.heap.size v1 l e o1 (by omega) b1.size
  obtain ⟨hn, A, cap, rfl, _⟩ := rowE_of_own o2 (by simp; omega)
  rw [List.length_append, List.length_singleton, hl] at o2 e2
  exact ⟨v1, w1, A, cap, w2, e1, e2, b1, o2, b1.grown g2 b1.size (fun k hk => own_ge o1 k hk)⟩
theorem rowE_lit (w : World) (e : En) : RowE (w.alloc (.cells #[.int .i64 e.line, .int .i64 e.cl, .int .u64 (e.r : Nat), .int .u64 (e.d : Nat), .int .i64 e.anti] 40)) (some ⟨w.heap.size, 0, none⟩) [e] :=
  ⟨by simp, fun _ => ⟨w.heap.size, 0, rfl, by simp, fun i a hi j u hu => by
    obtain rfl : i = 0 := by have := (List.getElem?_eq_some_iff.1 hi).1; simp at this; omega
    obtain rfl : e = a := by simpa using hi
    rw [show 0 + 0 * 5 + j = j by omega]
    match j, hu with
    | 0, hu => replace hu : some (Value.int .i64 e.line) = some u := hu; rw [← hu]; simp
    | 1, hu => replace hu : some (Value.int .i64 e.cl) = some u := hu; rw [← hu]; simp
    | 2, hu => replace hu : some (Value.int .u64 (e.r : Nat)) = some u := hu; rw [← hu]; simp
    | 3, hu => replace hu : some (Value.int .u64 (e.d : Nat)) = some u := hu; rw [← hu]; simp
    | 4, hu => replace hu : some (Value.int .i64 e.anti) = some u := hu; rw [← hu]; simp
    | j + 5, hu => simp [En.cells] at hu⟩⟩
/-- And the entry laid first. -/
theorem putE_two (w : World) (B : Option Addr) (m cb : Nat) (l : List En) (e : En) (hl : l.length = m) (hm : m ≤ 1000) (hrow : RowE w B l) (hB : B = none → m = 0 ∧ cb = 0) :
    ∃ v1 w1 A cap w2, (Builtin.append_ #[27, 27] 27 #[.slice none 0 0, .slice B m cb]).run Try.prog (w.alloc (.cells #[.int .i64 e.line, .int .i64 e.cl, .int .u64 (e.r : Nat), .int .u64 (e.d : Nat), .int .i64 e.anti] 40)).drew = .ok v1 w1 ∧
      (Builtin.append_ #[27, 27] 27 #[v1, .slice (some ⟨w.heap.size, 0, none⟩) 1 1]).run Try.prog w1 = .ok (.slice A (m + 1) cap) w2 ∧ Below w.heap.size w w1 ∧ PutE w w2 A (m + 1) cap (l ++ [e]) := by
  have hlit := rowE_lit w e
  obtain ⟨wa, hwa⟩ : ∃ wa, w.alloc (.cells #[.int .i64 e.line, .int .i64 e.cl, .int .u64 (e.r : Nat), .int .u64 (e.d : Nat), .int .i64 e.anti] 40) = wa := ⟨_, rfl⟩
  have hba : Below w.heap.size w wa := by rw [← hwa]; exact (Below.refl _ _).alloc (Nat.le_refl _) _
  have hsz : wa.heap.size = w.heap.size + 1 := by rw [← hwa]; simp
  rw [hwa] at hlit ⊢
  have ba : Below w.heap.size w wa.drew := below_drewN hba 1
  have hge : w.heap.size + 1 ≤ wa.drew.heap.size := Nat.le_of_eq hsz.symm
  obtain ⟨v1, w1, e1, o1, g1, _⟩ := run_appE wa.drew (w.heap.size + 1) (.slice none 0 0) [] (World.ownsRow_nil _ _ _ _) B m cb l hl (hrow.below ba) hB (by simp; omega) hge
  rw [List.nil_append] at o1
  have b1 : Below w.heap.size w w1 := ba.grown g1 (by have : wa.drew.heap.size = wa.heap.size := rfl; omega) (fun k hk => by simp [Value.ownBlock] at hk)
  have b1' : Below (w.heap.size + 1) wa w1 := (show Below (w.heap.size + 1) wa wa.drew from below_drewN (Below.refl _ _) 1).grown g1 hge (fun k hk => by simp [Value.ownBlock] at hk)
  have hx : RowE w1 (some ⟨w.heap.size, 0, none⟩) [e] := hlit.below (b1'.mono (by omega))
  obtain ⟨v2, w2, e2, o2, g2, _⟩ := run_appE w1 (w.heap.size + 1) v1 l o1 (some ⟨w.heap.size, 0, none⟩) 1 1 [e] rfl hx (by intro h; cases h) (by omega) (by have := b1'.size; omega)
  have o3 := own_mono o2 (Nat.le_succ w.heap.size)
  obtain ⟨hn, A, cap, rfl, _⟩ := rowE_of_own o3 (by simp; omega)
  rw [List.length_append, List.length_singleton, hl] at o3 e2
  exact ⟨v1, w1, A, cap, w2, e1, e2, b1, o3, b1.grown g2 b1.size (fun k hk => by have := own_ge o1 k hk; omega)⟩
theorem rb_keep {w w' : World} {p lo q : Nat} {L : List En} (h : RbP w p lo q L) (hb : Below w.heap.size w w') : RbTo w p lo q L w' := ⟨q, h.below hb, turns_below hb, .inr (.inl rfl)⟩
set_option maxHeartbeats 1600000 in
set_option maxRecDepth 100000 in
theorem rput_any {w : World} {p lo q : Nat} {L : List En} (h : RbP w p lo q L) (hlo : lo ≤ w.heap.size) (e : En) :
    Calls Try.prog 28 #[.pointer (some ⟨p, 0, none⟩), .agg #[.int .i64 e.line, .int .i64 e.cl, .int .u64 (e.r : Nat), .int .u64 (e.d : Nat), .int .i64 e.anti]] w fun x w' => x = .returned (.int .i64 (putE L e)) ∧ RbTo w p lo q (putB L e) w' := by
  obtain ⟨w0, hw0⟩ : ∃ w0, w.alloc (.cells #[.int .i64 e.line, .int .i64 e.cl, .int .u64 (e.r : Nat), .int .u64 (e.d : Nat), .int .i64 e.anti] 40) = w0 := ⟨_, rfl⟩
  have hb0 : Below w.heap.size w w0 := by rw [← hw0]; exact (Below.refl _ _).alloc (Nat.le_refl _) _
  have hx0 : w0.heap[w.heap.size]? = some (.cells #[.int .i64 e.line, .int .i64 e.cl, .int .u64 (e.r : Nat), .int .u64 (e.d : Nat), .int .i64 e.anti] 40 (0, 0)) := by rw [← hw0]; exact heap_alloc_new w _
  have HB0 := Lib.hid hb0
  have HK := Lib.hid (rb_keep h hb0)
  obtain ⟨A, cap, _, hA, hrd⟩ := h.reads
  have h0 := h.below hb0
  have hmost := h.most
  rcases Classical.em e.bad with hbad | hbad
  · have hE : putE L e = 1 := by unfold putE; rw [if_pos hbad]
    have hB : putB L e = L := by unfold putB; rw [hE]; rfl
    rw [hE, hB]
    have hbo : (decide (e.line < 2) || decide (258 ≤ e.line) || decide (e.cl < 0) || decide (3 < e.cl) || decide (e.anti < -1) || decide (258 ≤ e.anti)) = true := by
      unfold En.bad at hbad
      simp only [Bool.or_eq_true, decide_eq_true_eq]
      omega
    generalize e.line = x0 at *
    generalize e.cl = x1 at *
    generalize e.anti = x4 at *
    generalize (e.r : Int) = x2 at *
    generalize (e.d : Int) = x3 at *
    have hcs : x0 < 2 ∨ (¬ x0 < 2 ∧ 258 ≤ x0) ∨ (¬ x0 < 2 ∧ ¬ 258 ≤ x0 ∧ x1 < 0) ∨ (¬ x0 < 2 ∧ ¬ 258 ≤ x0 ∧ ¬ x1 < 0 ∧ 3 < x1) ∨ (¬ x0 < 2 ∧ ¬ 258 ≤ x0 ∧ ¬ x1 < 0 ∧ ¬ 3 < x1 ∧ x4 < -1) ∨ (¬ x0 < 2 ∧ ¬ 258 ≤ x0 ∧ ¬ x1 < 0 ∧ ¬ 3 < x1 ∧ ¬ x4 < -1 ∧ 258 ≤ x4) := by
      simp only [Bool.or_eq_true, decide_eq_true_eq] at hbo
      omega
    obtain ⟨c0, c1, c2, c3, c4⟩ := cells5 hx0
    clear h hrd hA hE hB hbad hbo hb0 h0
    rcases hcs with h1 | ⟨h1, h2⟩ | ⟨h1, h2, h3⟩ | ⟨h1, h2, h3, h4⟩ | ⟨h1, h2, h3, h4, h5⟩ | ⟨h1, h2, h3, h4, h5, h6⟩
    all_goals
      go_enter Try.func28, Try.ntmps28
      go_wp2
      go_ret
      exact ⟨rfl, HK.out⟩
  · have hbn : ¬ e.line < 2 ∧ ¬ 258 ≤ e.line ∧ ¬ e.cl < 0 ∧ ¬ 3 < e.cl ∧ ¬ e.anti < -1 ∧ ¬ 258 ≤ e.anti := by
      unfold En.bad at hbad
      omega
    obtain ⟨n1, n2, n3, n4, n5, n6⟩ := hbn
    have hc0 := (hrd w0 hb0).1
    rcases Nat.lt_or_ge L.length 258 with hlt | hge
    · have hE : putE L e = 0 := putE_ok.2 ⟨hbad, hlt⟩
      have hB : putB L e = L ++ [e] := by unfold putB; rw [hE]; rfl
      rw [hE, hB]
      obtain ⟨v1, w1, A1, cap1, w2, e1, e2, b1, p1⟩ := putE_one w0 A L.length cap L e rfl (by omega) (hrd w0 hb0).2 hA
      obtain ⟨u1, z1, A2, cap2, z2, f1, f2, d1, p2⟩ := putE_two w0 A L.length cap L e rfl (by omega) (hrd w0 hb0).2 hA
      have hle : w.heap.size ≤ w0.heap.size := hb0.size
      have hfin : ∀ A' cap' w3, PutE w0 w3 A' (L.length + 1) cap' (L ++ [e]) → RbTo w p lo q (L ++ [e]) (w3.setCell ⟨p, 0, none⟩ (.slice A' (L.length + 1) cap')) := fun A' cap' w3 hp => by
        obtain ⟨q', b1, b2, b3⟩ := Bg.fresh (L' := L ++ [e]) h (hb0.trans (hp.bel.mono hle)) (own_mono (by rw [List.length_append, List.length_singleton]; exact hp.own) hle) (by simp; omega) hlo
        exact ⟨q', b1, b2, b3.imp id .inr⟩
      have hlp := h.lt_p
      have G1 := Lib.hid (hfin A1 cap1 w2 p1)
      have G2 := Lib.hid (hfin A2 cap2 z2 p2)
      have k1 := (hrd w1 (hb0.trans (b1.mono hle))).1
      have k2 := (hrd w2 (hb0.trans (p1.bel.mono hle))).1
      have k3 := (hrd z1 (hb0.trans (d1.mono hle))).1
      have k4 := (hrd z2 (hb0.trans (p2.bel.mono hle))).1
      have fr : ∀ wx, Below w.heap.size w wx → wx.frozen? ⟨p, 0, none⟩ = false := fun wx hb => (h.below hb).frozen
      have r2 := fr w2 (hb0.trans (p1.bel.mono hle))
      have r4 := fr z2 (hb0.trans (p2.bel.mono hle))
      have kx : ∀ j, w1.cell? ⟨w.heap.size, j, none⟩ = w0.cell? ⟨w.heap.size, j, none⟩ := fun j => b1.cell (p := ⟨w.heap.size, j, none⟩) (lt_of_heap hx0)
      have kz : ∀ j, z1.cell? ⟨w.heap.size, j, none⟩ = w0.cell? ⟨w.heap.size, j, none⟩ := fun j => d1.cell (p := ⟨w.heap.size, j, none⟩) (lt_of_heap hx0)
      have hba : Below w.heap.size w (w0.alloc (.cells #[.int .i64 e.line, .int .i64 e.cl, .int .u64 (e.r : Nat), .int .u64 (e.d : Nat), .int .i64 e.anti] 40)) := hb0.trans ((Below.refl _ _).alloc hle _)
      have ka := (hrd _ hba).1
      have ka' : (w0.alloc (.cells #[.int .i64 e.line, .int .i64 e.cl, .int .u64 (e.r : Nat), .int .u64 (e.d : Nat), .int .i64 e.anti] 40)).drew.cell? ⟨p, 0, none⟩ = some (.slice A L.length cap) := ka
      have E1 := Lib.hid e1
      have E2 := Lib.hid e2
      have F1 := Lib.hid f1
      have F2 := Lib.hid f2
      have h258 : ¬ (258 : Int) ≤ (L.length : Int) := by omega
      generalize e.line = x0 at *
      generalize e.cl = x1 at *
      generalize e.anti = x4 at *
      generalize (e.r : Int) = x2 at *
      generalize (e.d : Int) = x3 at *
      obtain ⟨c0, c1, c2, c3, c4⟩ := cells5 hx0
      have a0 := (kx 0).trans c0
      have a1 := (kx 1).trans c1
      have a2 := (kx 2).trans c2
      have a3 := (kx 3).trans c3
      have a4 := (kx 4).trans c4
      have z0 := (kz 0).trans c0
      have z1' := (kz 1).trans c1
      have z2' := (kz 2).trans c2
      have z3 := (kz 3).trans c3
      have z4 := (kz 4).trans c4
      clear h hrd hA hE hB hbad hb0 h0 hba e1 e2 f1 f2 b1 p1 d1 p2 hfin fr kx kz hx0 HK hlt
      go_enter Try.func28, Try.ntmps28
      go_wp2
      go_region_law (first
        | (refine step_app9 rfl (.const (.slice none 0 0)) (.tmp 43) 27 rfl rfl rfl E1.out ?_)
        | (refine step_app9 rfl (.tmp 44) (.tmp 46) 27 rfl rfl rfl E2.out ?_)
        | (refine step_app9 rfl (.const (.slice none 0 0)) (.tmp 43) 27 rfl rfl rfl F1.out ?_)
        | (refine step_app9 rfl (.tmp 44) (.tmp 46) 27 rfl rfl rfl F2.out ?_))
      all_goals
        clear E1 E2 F1 F2
        go_wp2
        go_ret
        first
          | exact ⟨rfl, G1.out⟩
          | exact ⟨rfl, G2.out⟩
    · have hE : putE L e = 11 := by unfold putE; rw [if_neg hbad, if_pos hge]
      have hB : putB L e = L := by unfold putB; rw [hE]; rfl
      rw [hE, hB]
      have h258 : (258 : Int) ≤ (L.length : Int) := by omega
      generalize e.line = x0 at *
      generalize e.cl = x1 at *
      generalize e.anti = x4 at *
      generalize (e.r : Int) = x2 at *
      generalize (e.d : Int) = x3 at *
      generalize L.length = n at *
      obtain ⟨c0, c1, c2, c3, c4⟩ := cells5 hx0
      clear h hrd hA hE hB hbad hb0 h0
      go_enter Try.func28, Try.ntmps28
      go_wp2
      go_ret
      exact ⟨rfl, HK.out⟩

end Go.Proofs.Ytfonjkbdonbjdaa
