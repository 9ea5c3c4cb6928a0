/-
  Proved here: what package limbo's Put answers and leaves.
  Conditions: none.
-/
import Derived.Test.YtfonjkbdonbjdaaBagA
import Derived.Deep.RegionLaw
namespace Go.Proofs.Ytfonjkbdonbjdaa
open Go Go.RowKit

/-- At a step of a region that draws its order: an append whose run is known. -/
theorem step_app9 {P : Program} {ops : Array Oper} {o : Oper} {a : Act} {K : Act → World → Prop} {Q : Exit → Act → World → Prop} {E : Prop} (hgd : o.guard = none) (s x : Operand) (t : TypeId)
    (ho : o.op = .call { callee := .builtin .append, args := #[s, x], argTypes := #[t, t] }) {w w' : World} {v V v' : Value} (hs : a.eval s = v) (hx : a.eval x = V)
    (hrun : (Builtin.append_ #[t, t] o.type #[v, V]).run P w = .ok v' w') (h : K (a.put o.dst v') w') : if Region.wanted o (yielded ops a.tmps) = true then Oper.wp P o a w K Q else E := by
  have hw : Region.wanted o (yielded ops a.tmps) = true := by simp [Region.wanted, hgd]
  rw [if_pos hw]
  unfold Oper.wp execOp
  simp only [ho, resolve, invoke, builtin, Sem.run_bind, Sem.run_pure, Result.andThen_ok, List.map_toArray, List.map_cons, List.map_nil, hs, hx, hrun]
  exact h
set_option maxHeartbeats 400000 in
theorem bgput_nil (e : En) (w : World) : Calls Try.prog 18 #[.pointer none, .agg #[.int .i64 e.line, .int .i64 e.cl, .int .u64 (e.r : Nat), .int .u64 (e.d : Nat), .int .i64 e.anti]] w fun x w' => x = .returned (.int .i64 1) ∧ Below w.heap.size w w' := by
  have HB : Hid (Below w.heap.size w (w.alloc (.cells #[.int .i64 e.line, .int .i64 e.cl, .int .u64 (e.r : Nat), .int .u64 (e.d : Nat), .int .i64 e.anti] 40))) := (Below.refl _ _).alloc (Nat.le_refl _) _
  generalize e.line = a at *
  generalize e.cl = b at *
  generalize e.anti = c at *
  generalize (e.r : Int) = d at *
  generalize (e.d : Int) = f at *
  go_enter Try.func18, Try.ntmps18
  go_wp2
  go_ret
  exact ⟨rfl, HB.out⟩
theorem turns_below {p q : Nat} {w w' : World} (h : Below w.heap.size w w') : Turns p q w w' := ⟨h.os, h.tape, h.output, h.size, fun k _ _ hk => h.block k hk⟩
/-- What a step of a bag leaves. -/
def BgTo (w : World) (p lo q : Nat) (L : List En) (w' : World) : Prop := ∃ q', BgP w' p lo q' L ∧ Turns p q w w' ∧ (q' = q ∨ w.heap.size ≤ q')
set_option maxHeartbeats 1600000 in
set_option maxRecDepth 100000 in
theorem bgput_any {w : World} {p lo q : Nat} {L : List En} (h : BgP w p lo q L) (hlo : lo ≤ w.heap.size) (e : En) :
    Calls Try.prog 18 #[.pointer (some ⟨p, 0, none⟩), .agg #[.int .i64 e.line, .int .i64 e.cl, .int .u64 (e.r : Nat), .int .u64 (e.d : Nat), .int .i64 e.anti]] w fun x w' => x = .returned (.int .i64 (putE L e)) ∧ BgTo w p lo q (putB L e) w' := by
  have HB : Hid (Below w.heap.size w (w.alloc (.cells #[.int .i64 e.line, .int .i64 e.cl, .int .u64 (e.r : Nat), .int .u64 (e.d : Nat), .int .i64 e.anti] 40))) := (Below.refl _ _).alloc (Nat.le_refl _) _
  have HI := Lib.hid (isentry_any e (w.alloc (.cells #[.int .i64 e.line, .int .i64 e.cl, .int .u64 (e.r : Nat), .int .u64 (e.d : Nat), .int .i64 e.anti] 40)))
  obtain ⟨A, cap, _, hA, hrd⟩ := h.reads
  have HRD := Lib.hid hrd
  have HQ : Hid (∀ w', Below w.heap.size w w' → BgTo w p lo q L w') := fun w' hb => ⟨q, h.below hb, turns_below hb, .inl rfl⟩
  rcases Classical.em e.bad with hbad | hbad
  · have hE : putE L e = 1 := by unfold putE; rw [if_pos hbad]
    have hB : putB L e = L := by unfold putB; rw [hE]; rfl
    rw [hE, hB]
    have hd : (!decide e.bad) = false := by simp [hbad]
    rw [hd] at HI
    generalize e.line = x0 at *
    generalize e.cl = x1 at *
    generalize e.anti = x4 at *
    generalize (e.r : Int) = x2 at *
    generalize (e.d : Int) = x3 at *
    clear h hrd hA hE hB hbad hd
    go_enter Try.func18, Try.ntmps18
    go_wp2_with fail
    refine HI.out.mono ?_
    rintro e w1 ⟨rfl, hb1⟩
    have HB1 : Hid (Below w.heap.size w w1) := HB.out.trans (hb1.mono HB.out.size)
    clear hb1
    go_wp2
    go_ret
    exact ⟨rfl, HQ.out _ HB1.out⟩
  · have hd : (!decide e.bad) = true := by simp [hbad]
    rw [hd] at HI
    rcases Nat.lt_or_ge L.length 258 with hlt | hge
    · have hE : putE L e = 0 := putE_ok.2 ⟨hbad, hlt⟩
      have hB : putB L e = L ++ [e] := by unfold putB; rw [hE]; rfl
      rw [hE, hB]
      obtain ⟨v, hm, hown, hne, hq⟩ := h.mem
      have HPUT : Hid (∀ wk, Below w.heap.size w wk → ∃ A2 cap2 w2, (Builtin.append_ #[27, 27] 27 #[.slice A L.length cap, .slice (some ⟨wk.heap.size, 0, none⟩) 1 1]).run Try.prog (wk.alloc (.cells #[.int .i64 e.line, .int .i64 e.cl, .int .u64 (e.r : Nat), .int .u64 (e.d : Nat), .int .i64 e.anti] 40)).drew = .ok (.slice A2 (L.length + 1) cap2) w2 ∧ w2.cell? ⟨p, 0, none⟩ = some (.slice A L.length cap) ∧ w2.frozen? ⟨p, 0, none⟩ = false ∧ BgTo w p lo q (L ++ [e]) (w2.setCell ⟨p, 0, none⟩ (.slice A2 (L.length + 1) cap2))) := fun wk hb => by
        have hk := h.below hb
        have hcell := (hrd w (Below.refl _ _)).1
        have hv : v = .slice A L.length cap := by
          have : w.cell? ⟨p, 0, none⟩ = some v := by simp [World.cell?, hm]
          rw [hcell] at this
          exact (Option.some.inj this).symm
        have hon : wk.drew.ownsRow lo 40 5 v L.length (encE L) := own_keep hown (below_drewN hb 1)
        obtain ⟨v', w', h1, h2, h3, h4⟩ := run_appE_one wk.drew lo v L e hon (by omega) (Nat.le_trans hlo hb.size)
        obtain ⟨_, A2, cap2, rfl, _⟩ := rowE_of_own h2 (by simp; omega)
        rw [List.length_append, List.length_singleton] at h1
        have h3w : w.grownBy w' v.ownBlock := World.grownBy.trans (grown_below (below_drewN hb 1)) h3
        obtain ⟨q', b1, b2, b3⟩ := Bg.step (w1 := w') (L' := L ++ [e]) hm hne h3w h2 (by
          rcases h4 with h4 | h4
          · exact .inl h4
          · exact .inr ⟨_, h4, by have := hb.size; show w.heap.size ≤ wk.heap.size + 1; omega⟩) (by simp; omega)
        rw [List.length_append, List.length_singleton] at b1 b2
        have hp' : w'.heap[p]? = w.heap[p]? := h3w.block p (lt_of_heap hm) (fun e => hne e.symm)
        refine ⟨A2, cap2, w', ?_, ?_, ?_, q', b1, ?_, ?_⟩
        · rw [← hv]; exact h1
        · rw [← hv]; simp [World.cell?, hp', hm]
        · simp [World.frozen?, hp', hm]
        · rw [← hq]; exact b2
        · rw [← hq]; exact b3
      have h258 : ¬ (258 : Int) ≤ (L.length : Int) := by omega
      generalize e.line = x0 at *
      generalize e.cl = x1 at *
      generalize e.anti = x4 at *
      generalize (e.r : Int) = x2 at *
      generalize (e.d : Int) = x3 at *
      generalize L.length = n at *
      clear h hrd hA hE hB hbad hd hm hown hne hq hlt HQ
      go_enter Try.func18, Try.ntmps18
      go_wp2_with fail
      refine HI.out.mono ?_
      rintro y w1 ⟨rfl, hb1⟩
      have hbx := hb1.block w.heap.size (by simp)
      have HB1 : Hid (Below w.heap.size w w1) := HB.out.trans (hb1.mono HB.out.size)
      rw [heap_alloc_new w _] at hbx
      have c0 : w1.cell? ⟨w.heap.size, 0, none⟩ = some (.int .i64 x0) := by simp [World.cell?, hbx]
      have c1 : w1.cell? ⟨w.heap.size, 1, none⟩ = some (.int .i64 x1) := by simp [World.cell?, hbx]
      have c2 : w1.cell? ⟨w.heap.size, 2, none⟩ = some (.int .u64 x2) := by simp [World.cell?, hbx]
      have c3 : w1.cell? ⟨w.heap.size, 3, none⟩ = some (.int .u64 x3) := by simp [World.cell?, hbx]
      have c4 : w1.cell? ⟨w.heap.size, 4, none⟩ = some (.int .i64 x4) := by simp [World.cell?, hbx]
      have hc := (HRD.out w1 HB1.out).1
      obtain ⟨A2, cap2, w2, e1, e2, e3, e4⟩ := HPUT.out w1 HB1.out
      have E1 := Lib.hid e1
      have E4 := Lib.hid e4
      have hb2 : Below w.heap.size w (w1.alloc (.cells #[.int .i64 x0, .int .i64 x1, .int .u64 x2, .int .u64 x3, .int .i64 x4] 40)) := HB1.out.trans ((Below.refl _ _).alloc HB1.out.size _)
      have hc2 := (HRD.out _ hb2).1
      clear e1 e4 hb1 hbx hb2
      go_wp2
      go_region_law (first
        | (refine step_app9 rfl (.tmp 22) (.tmp 24) 27 rfl rfl rfl E1.out ?_))
      all_goals
        go_wp2
        go_ret
        exact ⟨rfl, E4.out⟩
    · have hE : putE L e = 11 := by unfold putE; rw [if_neg hbad, if_pos hge]
      have hB : putB L e = L := by unfold putB; rw [hE]; rfl
      rw [hE, hB]
      have h258 : (258 : Int) ≤ (L.length : Int) := by omega
      generalize e.line = x0 at *
      generalize e.cl = x1 at *
      generalize e.anti = x4 at *
      generalize (e.r : Int) = x2 at *
      generalize (e.d : Int) = x3 at *
      generalize L.length = n at *
      clear h hrd hA hE hB hbad hd
      go_enter Try.func18, Try.ntmps18
      go_wp2_with fail
      refine HI.out.mono ?_
      rintro y w1 ⟨rfl, hb1⟩
      have HB1 : Hid (Below w.heap.size w w1) := HB.out.trans (hb1.mono HB.out.size)
      have hc := (HRD.out w1 HB1.out).1
      clear hb1
      go_wp2
      go_ret
      exact ⟨rfl, HQ.out _ HB1.out⟩

end Go.Proofs.Ytfonjkbdonbjdaa
