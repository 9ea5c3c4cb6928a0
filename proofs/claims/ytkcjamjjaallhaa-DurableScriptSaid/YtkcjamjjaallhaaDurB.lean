/-
  Proved here: what package durable's Note answers and leaves; stores whose run is known.
  Conditions: none.
-/
import Derived.Test.YtkcjamjjaallhaaDurA
namespace Go.Proofs.Ytkcjamjjaallhaa
open Go Go.RowKit

/-! ### Stores whose run is known -/
theorem store_one {P : Program} (w : World) (b o : Nat) (v u : Value) (hc : w.cell? ⟨b, o, none⟩ = some u) (hz : w.frozen? ⟨b, o, none⟩ = false) (h1 : v.oneCell' = true) : (storeCells ⟨b, o, none⟩ [v]).run P w = .ok () (w.setCell ⟨b, o, none⟩ v) := by
  have := run_storeCells_cells (P := P) b o [v] 0 w (by intro j hj; obtain rfl : j = 0 := by simpa using hj
                                                        simp [hc]) (by intro j hj; obtain rfl : j = 0 := by simpa using hj
                                                                       simpa using hz) (by intro x hx; simp at hx; subst hx; exact h1)
  simpa [World.setCells] using this
theorem wpList_store_run {P : Program} {ops : Array Oper} {rest : List Oper} {o : Oper} {a : Act} {Q : Exit → Act → World → Prop} (hgd : o.guard = none) (ty : TypeId) (x y : Operand) (ho : o.op = .store ty x y) (hd : o.dst = none)
    {w w1 : World} {ad : Addr} {v : Value} {xs : List Value} (hx : a.eval x = .pointer (some ad)) (hy : a.eval y = v) (hv : v.cells.toList = xs) (hsz : (P.info? ty).map (·.size) = some xs.length) (hst : (storeCells ad xs).run P w = .ok () w1)
    (k : wpList P ops Q rest a w1) : wpList P ops Q (o :: rest) a w := by
  have hrun : (storeVar ty ad v).run P w = .ok () w1 := by
    cases hq : P.info? ty with
    | none => simp [hq] at hsz
    | some inf =>
      have hs : inf.size = xs.length := by simpa [hq] using hsz
      have hs2 : v.cells.size = inf.size := by rw [hs, ← hv]; simp
      simp [storeVar, sizeOf, typeInfo, hq, hs2, hv, hst]
  refine wpList_plain hgd fun _ hK => ?_
  unfold Oper.wp execOp
  simp only [ho, hx, hy, Instr.storeAt, Instr.sureAddr, Sem.run_bind, Sem.run_pure, Result.andThen_ok, hrun]
  refine hK _ _ ?_
  rw [hd]
  exact k
theorem size_action : (Try.prog.info? 79).map (·.size) = some 1 := by kernel_rfl
theorem size_ints : (Try.prog.info? 68).map (·.size) = some 1 := by kernel_rfl
theorem size_int : (Try.prog.info? 3).map (·.size) = some 1 := by kernel_rfl
theorem size_lineSet : (Try.prog.info? 77).map (·.size) = some 258 := by kernel_rfl
theorem up_wrap (x : Int) : IntKind.i64.wrap (x + 1) = up x := rfl
set_option maxHeartbeats 800000 in
set_option maxRecDepth 100000 in
theorem cknote_any {S : List Nat} {w : World} {p o : Nat} {c : Ck} (h : Cm S w p o c) (t x : Int) : Calls Try.prog 15 #[.pointer (some ⟨p, 0, none⟩), .int .i64 t, .int .i64 x] w fun e w' => e = .returned (.int .i64 (c.noteE t x)) ∧ Cm S w' p o (c.note t x) ∧ Turns p o w w' := by
  have hs := h.reads.2.2.1
  have hn4 := h.ok.four
  rcases Classical.em (inT c.owed t) with ht | ht
  · rcases Classical.em (inLine x) with hx | hx
    · obtain ⟨k, rfl⟩ := Int.eq_ofNat_of_zero_le ht.1
      obtain ⟨i, rfl⟩ := Int.eq_ofNat_of_zero_le hx.1
      have hk : k < c.owed.length := by have := ht.2; omega
      have hi : i < 258 := by have := hx.2; omega
      have he : c.noteE k i = 0 := by unfold Ck.noteE; rw [if_pos ht, if_pos hx]
      have hc' : c.note k i = { c with noted := c.noted.set i true, owed := c.owed.set k (up (c.owed.getD k 0)) } := by unfold Ck.note; rw [if_pos ⟨ht, hx⟩]; simp
      have hok := h.ok.note k i
      rw [he]
      rw [hc'] at hok ⊢
      have h1 := h.raw.setN i hi true
      have HST1 := Lib.hid (store_one (P := Try.prog) w p (3 + i) (.bool true) _ (h.raw.readN i hi) (h.raw.frozenP _) rfl)
      have ht1 := turns_p p o w (3 + i) (.bool true)
      generalize w.setCell ⟨p, 3 + i, none⟩ (.bool true) = w1 at *
      have hs1 := h1.reads.2.2.1
      have hv1 := h1.readO k hk
      have h2 := h1.setO k (up (c.owed.getD k 0))
      have HST2 := Lib.hid (store_one (P := Try.prog) w1 o k (.int .i64 (up (c.owed.getD k 0))) _ hv1 (h1.frozenO _) rfl)
      have HT := Lib.hid (ht1.trans (turns_o p o w1 k (.int .i64 (up (c.owed.getD k 0)))))
      have hu := up_wrap (c.owed.getD k 0)
      have HC : Hid (Cm S (w1.setCell ⟨o, k, none⟩ (.int .i64 (up (c.owed.getD k 0)))) p o { c with noted := c.noted.set i true, owed := c.owed.set k (up (c.owed.getD k 0)) }) := ⟨hok, h2⟩
      have hkn : (k : Int) < (c.owed.length : Int) := by omega
      have hi8 : (i : Int) < 258 := by omega
      have hnn : ¬ (c.owed.length : Int) ≤ (k : Int) := by omega
      have hin : ¬ (258 : Int) ≤ (i : Int) := by omega
      generalize c.owed.getD k 0 = y at *
      generalize w1.setCell ⟨o, k, none⟩ (.int .i64 (up y)) = w2 at *
      generalize up y = z at *
      generalize ({ c with noted := c.noted.set i true, owed := c.owed.set k z } : Ck) = c2 at *
      generalize c.owed.length = n at *
      clear h h1 h2 hok he hc' ht hx ht1
      go_enter Try.func15, Try.ntmps15
      go_wp2_with (first
        | ((with_reducible show wpList _ _ _ (⟨none, .store 4 _ _, _, _, _, _⟩ :: _) _ _); refine wpList_store_run (o := ⟨none, .store 4 _ _, _, _, _, _⟩) rfl _ _ _ rfl rfl rfl rfl rfl size_bool HST1.out ?_)
        | ((with_reducible show wpList _ _ _ (⟨none, .store 3 _ _, _, _, _, _⟩ :: _) _ _); refine wpList_store_run (o := ⟨none, .store 3 _ _, _, _, _, _⟩) rfl _ _ _ rfl rfl rfl rfl rfl size_int HST2.out ?_))
      go_ret
      exact ⟨rfl, HC.out, HT.out⟩
    · have he : c.noteE t x = 2 := by unfold Ck.noteE; rw [if_pos ht, if_neg hx]
      have hc' : c.note t x = c := by unfold Ck.note; rw [if_neg (fun e => hx e.2)]
      rw [he, hc']
      have HC := Lib.hid h
      have h0 : ¬ t < 0 := by have := ht.1; omega
      have h1 : ¬ (c.owed.length : Int) ≤ t := by have := ht.2; omega
      generalize c.owed.length = n at *
      unfold inLine at hx
      rcases Classical.em (x < 0) with h2 | h2
      · clear h hx he hc' ht
        go_enter Try.func15, Try.ntmps15
        go_wp2
        go_ret
        exact ⟨rfl, HC.out, Turns.refl _ _ _⟩
      · have h3 : (258 : Int) ≤ x := by omega
        clear h hx he hc' ht
        go_enter Try.func15, Try.ntmps15
        go_wp2
        go_ret
        exact ⟨rfl, HC.out, Turns.refl _ _ _⟩
  · have he : c.noteE t x = 1 := by unfold Ck.noteE; rw [if_neg ht]
    have hc' : c.note t x = c := by unfold Ck.note; rw [if_neg (fun e => ht e.1)]
    rw [he, hc']
    have HC := Lib.hid h
    unfold inT at ht
    generalize c.owed.length = n at *
    rcases Classical.em (t < 0) with h2 | h2
    · clear h ht he hc'
      go_enter Try.func15, Try.ntmps15
      go_wp2
      go_ret
      exact ⟨rfl, HC.out, Turns.refl _ _ _⟩
    · have h3 : (n : Int) ≤ t := by omega
      clear h ht he hc'
      go_enter Try.func15, Try.ntmps15
      go_wp2
      go_ret
      exact ⟨rfl, HC.out, Turns.refl _ _ _⟩

end Go.Proofs.Ytkcjamjjaallhaa
