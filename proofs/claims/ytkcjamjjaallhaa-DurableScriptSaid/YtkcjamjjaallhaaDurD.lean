/-
  Proved here: what package durable's Begin answers and leaves.
  Conditions: none.
-/
import Derived.Test.YtkcjamjjaallhaaDurC
namespace Go.Proofs.Ytkcjamjjaallhaa
open Go Go.RowKit

theorem wpList_clear {P : Program} {ops : Array Oper} {rest : List Oper} {o : Oper} {a : Act} {Q : Exit → Act → World → Prop} (hgd : o.guard = none) (s : Operand) (t : TypeId)
    (ho : o.op = .call { callee := .builtin .clear, args := #[s], argTypes := #[t] }) {w w' : World} {v V : Value} (hs : a.eval s = v)
    (hrun : (Builtin.clear_ #[t] o.type #[v]).run P w = .ok V w') (h : wpList P ops Q rest (a.put o.dst V) w') : wpList P ops Q (o :: rest) a w :=
  wpList_plain hgd fun _ hK => by
    unfold Oper.wp execOp
    simp only [ho, resolve, invoke, builtin, Sem.run_bind, Sem.run_pure, Result.andThen_ok, List.map_toArray, List.map_cons, List.map_nil, hs, hrun]
    exact hK _ _ h
theorem own_cap {w : World} {base n m cap : Nat} {A : Option Addr} {e : TypeId} {xs : List Value} (h : w.ownsRow base e 1 (.slice A m cap) n xs) : n ≤ cap := by
  rcases h.2 with ⟨_, h0⟩ | ⟨g, cap', cur, e, _, _, hc, _⟩
  · omega
  · have := Value.slice.inj e
    omega
theorem zero_int (w : World) : (zeroValue 3).run Try.prog w = .ok (.int .i64 0) w := by
  obtain ⟨i, hi, hz, _, _⟩ := int_info'
  simp [zeroValue, typeInfo, hi, hz]
theorem begin_tail {S : List Nat} {w : World} {p o now dur : Nat} {owed left : List Int} {noted : List Bool} {fv : Value} (h : Cr S w p o now dur owed noted left fv) (h1 : 1 ≤ owed.length) (ty : TypeId)
    (l : List Int) (A : Option Addr) (cap : Nat) (hr : RowI w A l) (hc : l.length ≤ cap) (ha : A = none → cap = 0) (hn : ∀ x, A = some x → x.block ∉ S) :
    ∃ w1 w2 w3 w4, (storeCells ⟨p, 261, none⟩ [.slice A l.length cap]).run Try.prog w = .ok () w1 ∧ (storeCells ⟨p, 3, none⟩ (encB noLines)).run Try.prog w1 = .ok () w2 ∧
      w2.cell? ⟨p, 2, none⟩ = some (.slice (some ⟨o, 0, none⟩) owed.length owed.length) ∧
      (Builtin.clear_ #[68] ty #[.slice (some ⟨o, 0, none⟩) owed.length owed.length]).run Try.prog w2 = .ok (.tuple #[]) w3 ∧
      Calls Try.prog 41 #[.pointer (some ⟨p, 0, none⟩)] w3 (fun e w' => e = .returned (fnv (nx l) p) ∧ w3 = w') ∧
      (storeCells ⟨p, 262, none⟩ [fnv (nx l) p]).run Try.prog w3 = .ok () w4 ∧ Cr S w4 p o now dur (List.replicate owed.length 0) noLines l (fnv (nx l) p) ∧ Turns p o w w4 := by
  obtain ⟨A0, c0, hs0, _⟩ := h.readL
  have e1 := store_one (P := Try.prog) w p 261 (.slice A l.length cap) _ hs0 (h.frozenP _) rfl
  have r1 := h.setL l A cap l.length rfl hr hc ha hn
  have t1 := turns_p p o w 261 (.slice A l.length cap)
  generalize w.setCell ⟨p, 261, none⟩ (.slice A l.length cap) = w1 at *
  obtain ⟨w2, e2, r2, t2⟩ := r1.setAll (P := Try.prog) noLines noLines_len
  obtain ⟨w3, e3, r3, t3⟩ := r2.setOwed (P := Try.prog) (List.replicate owed.length 0) (List.length_replicate ..)
  have hcl := Lib.run_clear_slice (P := Try.prog) w2 68 3 ty (.int .i64 0) Try.underlying68 zero_int rfl rfl o 0 owed.length owed.length (by omega) (fun j hj => by rw [Nat.zero_add, r2.readO j hj]; rfl) (fun j _ => r2.frozenO _)
  have e3' := run_storeCells_cells (P := Try.prog) o 0 (List.replicate owed.length (.int .i64 0)) 0 w2 (fun j hj => by rw [List.length_replicate] at hj; simp [r2.readO j hj]) (fun j _ => r2.frozenO _) (fun v hv => by rw [List.eq_of_mem_replicate hv]; rfl)
  have hz : encI (List.replicate owed.length 0) = List.replicate owed.length (.int .i64 0) := by rw [encI, List.map_replicate]
  rw [hz] at e3
  have hw : w2.setCells o 0 (List.replicate owed.length (.int .i64 0)) = w3 := by
    have := e3'.symm.trans e3
    simpa using this
  rw [hw] at hcl
  have hf0 := r3.reads.2.2.2
  have h1c : (fnv (nx l) p).oneCell' = true := by
    obtain ⟨f, hf⟩ := fnv_some (nx l) p (by have := nx_le l; omega)
    rw [hf]
    rfl
  have e4 := store_one (P := Try.prog) w3 p 262 (fnv (nx l) p) _ hf0 (r3.frozenP _) h1c
  exact ⟨w1, w2, w3, _, e1, e2, r2.reads.2.2.1, hcl, ckfirst_any r3, e4, r3.setF _, ((t1.trans t2).trans t3).trans (turns_p p o w3 262 _)⟩
theorem built_lines : Try.prog.built 77 [] = some (encB noLines).toArray := by kernel_rfl
theorem zero_lines : Try.zeroCells77 = (encB noLines).toArray := by kernel_rfl
set_option maxHeartbeats 800000 in
set_option maxRecDepth 100000 in
theorem ckbegin_any {S : List Nat} {w : World} {p o : Nat} {c : Ck} (h : Cm S w p o c) (hS : ∀ x ∈ S, x < w.heap.size) : Calls Try.prog 17 #[.pointer (some ⟨p, 0, none⟩)] w fun e w' => e = .returned (.int .i64 c.beginE) ∧ Cm S w' p o c.begin_ ∧ Turns p o w w' := by
  have HD := Lib.hid (ckdue_any h)
  have hw := u64_up (c.dur + 1) (by have := h.ok.lt; omega)
  rcases Nat.eq_zero_or_pos c.ph with e | e
  · have he : c.beginE = 0 := by unfold Ck.beginE; rw [if_pos e]
    have hc' : c.begin_ = c.begun := by unfold Ck.begin_; rw [if_pos e]
    have hnow : c.now = c.dur + 1 := by unfold Ck.now; rw [if_pos e]
    have hnow2 : c.begun.now = c.dur + 1 + 1 := by
      have := nx_le (lin 0 c.noted)
      unfold Ck.now
      rw [if_neg (by show nx (lin 0 c.noted) ≠ 0; omega)]
      rfl
    rw [he, hc']
    have hr := h.raw
    rw [hnow] at hr
    have HCAS := Lib.hid (ucas_hit p 0 (c.dur + 1 : Nat) (c.dur + 1 + 1 : Nat) w hr.reads.1 (hr.frozenP 0))
    have r1 := hr.setNow (c.dur + 1 + 1)
    have HT1 := Lib.hid (turns_p p o w 0 (.int .u64 (c.dur + 1 + 1 : Nat)))
    generalize w.setCell ⟨p, 0, none⟩ (.int .u64 (c.dur + 1 + 1 : Nat)) = w1 at *
    have HL := Lib.hid (cklines_any r1)
    have HR1 := Lib.hid r1
    have HNL : Hid ((lin 0 c.noted).length ≤ 134217728) := by show _ ≤ _; have := lin_len c.noted 0; have := h.ok.noted; omega
    have HONE := Lib.hid h.ok.one
    have HSS : Hid (∀ x ∈ S, x < w1.heap.size) := fun x hx => Nat.lt_of_lt_of_le (hS x hx) HT1.out.size
    have HFIN : Hid (∀ w', Cr S w' p o (c.dur + 1 + 1) c.dur (List.replicate c.owed.length 0) noLines (lin 0 c.noted) (fnv (nx (lin 0 c.noted)) p) → Cm S w' p o c.begun) := fun w' hr => ⟨h.ok.begun, by rw [hnow2]; exact hr⟩
    have HZL := Lib.hid zero_lines
    have HSZ : Hid ((Try.prog.info? 77).map (·.size) = some (encB noLines).length) := by show _ = _; rw [encB_len, noLines_len]; exact size_lineSet
    generalize c.begun = c2 at *
    generalize c.dur = d at *
    generalize c.owed = ow at *
    generalize lin 0 c.noted = l at *
    obtain ⟨F, hF⟩ := fnv_some (nx l) p (by have := nx_le l; omega)
    rw [hF] at HFIN
    have HFE := Lib.hid hF
    clear hF
    generalize ((d + 1 + 1 : Nat) : Int) = d2 at *
    generalize ((d + 1 : Nat) : Int) = d1 at *
    clear h hr r1 hnow hnow2 he hc' e hS
    go_enter Try.func17, Try.ntmps17
    go_wp2_with fail
    refine HD.out.mono ?_
    rintro e w' ⟨rfl, rfl⟩
    go_wp2_with fail
    refine HCAS.out.mono ?_
    rintro e w' ⟨rfl, rfl⟩
    go_wp2_with fail
    refine HL.out.mono ?_
    rintro e w2 ⟨V, rfl, ho, hb⟩
    obtain ⟨A, cap, rfl, hrow, ha, hbase⟩ := rowI_of_own ho HNL.out
    obtain ⟨w3, w4, w5, w6, e3, e4, hs4, e5, hf5, e6, r6, t6⟩ := begin_tail (HR1.out.below hb) HONE.out 0 l A cap hrow (own_cap ho) ha (fun x hx hm => by have := HSS.out _ hm; have := hbase x hx; omega)
    rw [HFE.out] at hf5 e6 r6
    have E3 := Lib.hid e3
    have E4 := Lib.hid e4
    have E5 := Lib.hid e5
    have E6 := Lib.hid e6
    have HF5 := Lib.hid hf5
    have HR6 := Lib.hid r6
    have HT6 := Lib.hid ((HT1.out.trans (Turns.of_below hb p o)).trans t6)
    clear e3 e4 e5 e6 hf5 r6 t6 ho hb hrow ha hbase
    go_wp2_with (first
      | ((with_reducible show wpList _ _ _ (⟨none, .store 68 _ _, _, _, _, _⟩ :: _) _ _); refine wpList_store_run (o := ⟨none, .store 68 _ _, _, _, _, _⟩) rfl _ _ _ rfl rfl rfl rfl rfl size_ints E3.out ?_)
      | ((with_reducible show wpList _ _ _ (⟨none, .store 77 _ _, _, _, _, _⟩ :: _) _ _); rw [HZL.out]; refine wpList_store_run (o := ⟨none, .store 77 _ _, _, _, _, _⟩) rfl _ _ _ rfl rfl rfl rfl rfl HSZ.out E4.out ?_)
      | ((with_reducible show wpList _ _ _ (⟨none, .call _, _, _, _, _⟩ :: _) _ _); refine wpList_clear (o := ⟨none, .call _, _, _, _, _⟩) rfl (.tmp 30) 68 rfl rfl E5.out ?_)
      | ((with_reducible show Calls _ _ _ _ _); refine HF5.out.mono ?_; rintro e w' ⟨rfl, rfl⟩)
      | ((with_reducible show wpList _ _ _ (⟨none, .store 79 _ _, _, _, _, _⟩ :: _) _ _); refine wpList_store_run (o := ⟨none, .store 79 _ _, _, _, _, _⟩) rfl _ _ _ rfl rfl rfl rfl rfl size_action E6.out ?_))
    go_ret
    exact ⟨rfl, HFIN.out _ HR6.out, HT6.out⟩
  · have he : c.beginE = 7 := by unfold Ck.beginE; rw [if_neg (by omega)]
    have hc' : c.begin_ = c := by unfold Ck.begin_; rw [if_neg (by omega)]
    have hnow : c.now = c.dur + 1 + 1 := by unfold Ck.now; rw [if_neg (by omega)]
    rw [he, hc']
    have hr := h.raw
    rw [hnow] at hr
    have HCAS := Lib.hid (ucas_miss p 0 (c.dur + 1 + 1 : Nat) (c.dur + 1 : Nat) (c.dur + 1 + 1 : Nat) w hr.reads.1 (hr.frozenP 0) (by omega))
    have HC := Lib.hid h
    generalize c.dur = d at *
    generalize ((d + 1 + 1 : Nat) : Int) = d2 at *
    generalize ((d + 1 : Nat) : Int) = d1 at *
    clear h hr hnow he hc' e hS
    go_enter Try.func17, Try.ntmps17
    go_wp2_with fail
    refine HD.out.mono ?_
    rintro e w' ⟨rfl, rfl⟩
    go_wp2_with fail
    refine HCAS.out.mono ?_
    rintro e w' ⟨rfl, rfl⟩
    go_wp2
    go_ret
    exact ⟨rfl, HC.out, Turns.refl _ _ _⟩

end Go.Proofs.Ytkcjamjjaallhaa
