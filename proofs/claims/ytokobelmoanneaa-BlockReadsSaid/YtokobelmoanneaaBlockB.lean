/-
    Proved here: how two blocks are compared; what package block's May answers.
  Conditions: texts of at most 2,000 bytes.
-/
import Derived.Test.YtokobelmoanneaaBlockA
namespace Go.Proofs.Ytokobelmoanneaa
open Go Go.RowKit

def beqB (a b : BV) : Bool := a.cl == b.cl && (a.kd == b.kd && (((a.id : Nat) : Int) == ((b.id : Nat) : Int) && (((a.ver : Nat) : Int) == ((b.ver : Nat) : Int) && (((a.ep : Nat) : Int) == ((b.ep : Nat) : Int) && (a.key.toList == b.key.toList && (a.val.toList == b.val.toList && true))))))
theorem list_inj {a b : ByteArray} (h : a.toList = b.toList) : a = b := by
  rw [ByteArray.toList_eq, ByteArray.toList_eq] at h
  rcases a with ⟨⟨a⟩⟩
  rcases b with ⟨⟨b⟩⟩
  simpa using h
theorem beqB_iff (a b : BV) : beqB a b = true ↔ a = b := by
  constructor
  · intro h
    simp only [beqB, Bool.and_eq_true, beq_iff_eq, Bool.and_true] at h
    obtain ⟨h1, h2, h3, h4, h5, h6, h7⟩ := h
    rcases a with ⟨_, _, _, _, _, _, _⟩
    rcases b with ⟨_, _, _, _, _, _, _⟩
    simp only at h1 h2 h3 h4 h5 h6 h7
    obtain rfl := list_inj h6
    obtain rfl := list_inj h7
    simp only [BV.mk.injEq, and_true]
    omega
  · rintro rfl
    simp [beqB]
theorem beqB_dec (a b : BV) [Decidable (a = b)] : beqB a b = decide (a = b) := by
  rw [Bool.eq_iff_iff, beqB_iff, decide_eq_true_iff]
theorem part_plain {T : TypeId} {d : TypeDesc} (hu : Try.prog.underlying T = some d) (hd : (∀ n e, d ≠ .array n e) ∧ (∀ fs, d ≠ .struct fs)) (xs : Array Value) (i : Nat) (v : Value) (h : xs[i]? = some v) (w : World) : (part T xs i).run Try.prog w = .ok v w := by
  have hagg : (isAgg T).run Try.prog w = .ok false w := by
    unfold isAgg
    rw [Sem.run_bind, run_underlying hu w]
    cases d <;> first | rfl | exact absurd rfl (hd.1 _ _) | exact absurd rfl (hd.2 _)
  simp [part, Sem.run_bind, hagg, h]
theorem eqf_step {d : Nat} {f : Field} {fs : List Field} {xs ys : Array Value} {w : World} {a b : Value} {r q : Bool} (hn : f.name ≠ "_") (h1 : (part f.type xs f.offset).run Try.prog w = .ok a w) (h2 : (part f.type ys f.offset).run Try.prog w = .ok b w)
    (h3 : (Op.equalIn d f.type a b).run Try.prog w = .ok r w) (h4 : (Op.eqFields d xs ys fs).run Try.prog w = .ok q w) : (Op.eqFields d xs ys (f :: fs)).run Try.prog w = .ok (r && q) w := by
  simp only [Op.eqFields, ne_eq, hn, not_false_eq_true, if_true, Sem.run_bind, h1, h2, h3, Result.andThen_ok]
  cases r
  · simp only [Bool.not_false, if_true, Sem.run_pure, Bool.false_and]
  · simp only [Bool.not_true, Bool.false_eq_true, if_false, Bool.true_and]
    exact h4
theorem block_fields : ∃ f0 f1 f2 f3 f4 f5 f6, (Try.prog.fieldsOf 24).toList = [f0, f1, f2, f3, f4, f5, f6] ∧
    (f0.name != "_" && f1.name != "_" && f2.name != "_" && f3.name != "_" && f4.name != "_" && f5.name != "_" && f6.name != "_") = true ∧
    [f0, f1, f2, f3, f4, f5, f6].map (fun f => (f.type, f.offset)) = [(3, 0), (3, 1), (22, 2), (22, 3), (22, 4), (9, 5), (9, 6)] := ⟨_, _, _, _, _, _, _, rfl, by kernel_rfl, by kernel_rfl⟩
theorem plain_int : (∀ n e, (TypeDesc.int .i64) ≠ .array n e) ∧ (∀ fs, (TypeDesc.int .i64) ≠ .struct fs) := ⟨fun _ _ h => (by cases h), fun _ h => (by cases h)⟩
theorem plain_u64 : (∀ n e, (TypeDesc.int .u64) ≠ .array n e) ∧ (∀ fs, (TypeDesc.int .u64) ≠ .struct fs) := ⟨fun _ _ h => (by cases h), fun _ h => (by cases h)⟩
theorem plain_string : (∀ n e, TypeDesc.string ≠ .array n e) ∧ (∀ fs, TypeDesc.string ≠ .struct fs) := ⟨fun _ _ h => (by cases h), fun _ h => (by cases h)⟩
theorem equal_block (a b : BV) (w : World) : (Op.equalIn 10000 24 a.agg b.agg).run Try.prog w = .ok (beqB a b) w := by
  obtain ⟨f0, f1, f2, f3, f4, f5, f6, hf, hn, hm⟩ := block_fields
  rw [BV.agg, BV.agg, run_equalIn_agg w 9999 24 _ _ (by kernel_rfl) (by kernel_rfl), hf]
  simp only [Bool.and_eq_true, bne_iff_ne, ne_eq] at hn
  obtain ⟨⟨⟨⟨⟨⟨n0, n1⟩, n2⟩, n3⟩, n4⟩, n5⟩, n6⟩ := hn
  simp only [List.map_cons, List.map_nil, List.cons.injEq, Prod.mk.injEq, and_true] at hm
  obtain ⟨⟨t0, o0⟩, ⟨t1, o1⟩, ⟨t2, o2⟩, ⟨t3, o3⟩, ⟨t4, o4⟩, ⟨t5, o5⟩, ⟨t6, o6⟩⟩ := hm
  unfold beqB
  refine eqf_step n0 (a := .int .i64 a.cl) (b := .int .i64 b.cl) (by rw [t0, o0]; exact part_plain Try.underlying3 plain_int _ _ _ rfl w) (by rw [t0, o0]; exact part_plain Try.underlying3 plain_int _ _ _ rfl w) (by rw [t0]; exact run_equalIn_int w 9998 _ .i64 .i64 _ _ Try.underlying3) ?_
  refine eqf_step n1 (a := .int .i64 a.kd) (b := .int .i64 b.kd) (by rw [t1, o1]; exact part_plain Try.underlying3 plain_int _ _ _ rfl w) (by rw [t1, o1]; exact part_plain Try.underlying3 plain_int _ _ _ rfl w) (by rw [t1]; exact run_equalIn_int w 9998 _ .i64 .i64 _ _ Try.underlying3) ?_
  refine eqf_step n2 (a := .int .u64 (a.id : Nat)) (b := .int .u64 (b.id : Nat)) (by rw [t2, o2]; exact part_plain Try.underlying22 plain_u64 _ _ _ rfl w) (by rw [t2, o2]; exact part_plain Try.underlying22 plain_u64 _ _ _ rfl w) (by rw [t2]; exact run_equalIn_int w 9998 _ .u64 .u64 _ _ Try.underlying22) ?_
  refine eqf_step n3 (a := .int .u64 (a.ver : Nat)) (b := .int .u64 (b.ver : Nat)) (by rw [t3, o3]; exact part_plain Try.underlying22 plain_u64 _ _ _ rfl w) (by rw [t3, o3]; exact part_plain Try.underlying22 plain_u64 _ _ _ rfl w) (by rw [t3]; exact run_equalIn_int w 9998 _ .u64 .u64 _ _ Try.underlying22) ?_
  refine eqf_step n4 (a := .int .u64 (a.ep : Nat)) (b := .int .u64 (b.ep : Nat)) (by rw [t4, o4]; exact part_plain Try.underlying22 plain_u64 _ _ _ rfl w) (by rw [t4, o4]; exact part_plain Try.underlying22 plain_u64 _ _ _ rfl w) (by rw [t4]; exact run_equalIn_int w 9998 _ .u64 .u64 _ _ Try.underlying22) ?_
  refine eqf_step n5 (a := .string a.key) (b := .string b.key) (by rw [t5, o5]; exact part_plain Try.underlying9 plain_string _ _ _ rfl w) (by rw [t5, o5]; exact part_plain Try.underlying9 plain_string _ _ _ rfl w) (by rw [t5]; exact run_equalIn_string w 9998 _ _ _ Try.underlying9) ?_
  refine eqf_step n6 (a := .string a.val) (b := .string b.val) (by rw [t6, o6]; exact part_plain Try.underlying9 plain_string _ _ _ rfl w) (by rw [t6, o6]; exact part_plain Try.underlying9 plain_string _ _ _ rfl w) (by rw [t6]; exact run_equalIn_string w 9998 _ _ _ Try.underlying9) ?_
  simp [Op.eqFields]
theorem eql_block (a b : BV) (w : World) : (binOp .eql 24 a.agg b.agg).run Try.prog w = .ok (.bool (beqB a b)) w := by
  have := equal_block a b w
  rw [BV.agg, BV.agg] at this ⊢
  rw [run_eql_struct, this]
  rfl
theorem empty_iff (s : ByteArray) : s.toList = [] ↔ s.size = 0 := by
  rw [ByteArray.toList_eq]
  rcases s with ⟨⟨l⟩⟩
  simp [ByteArray.size]
set_option maxHeartbeats 400000 in
theorem may_noclass (b : BV) (hc : ¬ (0 ≤ b.cl ∧ b.cl ≤ 3)) (w : World) : Calls Try.prog 12 #[b.agg] w fun e w' => e = .returned (.bool (mayB b)) ∧ Below w.heap.size w w' := by
  have HC := Lib.hid (fun W => isclass_any b.cl W)
  have h1 : clsB b.cl = false := by simp [clsB]; omega
  rw [h1] at HC
  have HM : Hid (mayB b = false) := by show _ = _; rw [mayB, if_neg hc]
  rw [BV.agg]
  generalize mayB b = r at *
  obtain ⟨cl, kd, id, ver, ep, key, val⟩ := b
  simp only at HC HM ⊢
  clear hc h1
  go_enter Try.func12, Try.ntmps12
  go_wp2_with (go_at_call 29; refine (HC.out _).mono ?_; rintro e w' ⟨rfl, rfl⟩)
  go_ret
  exact ⟨bool_eq HM.out.symm, (Below.refl _ _).alloc (Nat.le_refl _) _⟩
set_option maxHeartbeats 400000 in
theorem may_draft (b : BV) (hc : 0 ≤ b.cl ∧ b.cl ≤ 3) (hk : b.kd = 0) (w : World) : Calls Try.prog 12 #[b.agg] w fun e w' => e = .returned (.bool (mayB b)) ∧ Below w.heap.size w w' := by
  have HC := Lib.hid (fun W => isclass_any b.cl W)
  have h1 : clsB b.cl = true := by simp [clsB]; omega
  rw [h1] at HC
  have HM : Hid (mayB b = isDraftB b) := by show _ = _; rw [mayB, if_pos hc, if_pos hk]
  rw [BV.agg]
  generalize mayB b = r at *
  obtain ⟨cl, kd, id, ver, ep, key, val⟩ := b
  simp only at HC HM hk ⊢
  subst hk
  clear hc h1
  go_enter Try.func12, Try.ntmps12
  go_wp2_with (go_at_call 29; refine (HC.out _).mono ?_; rintro e w' ⟨rfl, rfl⟩)
  all_goals
    go_ret
    refine ⟨bool_eq ?_, (Below.refl _ _).alloc (Nat.le_refl _) _⟩
    rw [HM.out]
    simp only [isDraftB, ← empty_iff]
    simp [*]
/-- What is made by a block put on the heap, and behind it. -/
theorem below_box {w w' : World} {o : Obj} (h : Below (w.alloc o).heap.size (w.alloc o) w') : Below w.heap.size w w' :=
  ((Below.refl _ _).alloc (Nat.le_refl _) o).trans (h.mono (by simp))
theorem empt_yes {s : ByteArray} (h : decide (s.size = 0) = true) : s.toList = [] := (empty_iff s).2 (of_decide_eq_true h)
theorem empt_no {s : ByteArray} (h : decide (s.size = 0) = false) : ¬ s.toList = [] := fun e => of_decide_eq_false h ((empty_iff s).1 e)
theorem isE_no {s : ByteArray} (h : ¬ s.toList = []) : s.toList.isEmpty = false := by simpa using h
set_option maxHeartbeats 8000000 in
theorem may_more (b : BV) (hc : 0 ≤ b.cl ∧ b.cl ≤ 3) (hk : ¬ b.kd = 0) (h1 : b.key.size ≤ 2000) (h2 : b.val.size ≤ 2000) (w : World) : Calls Try.prog 12 #[b.agg] w fun e w' => e = .returned (.bool (mayB b)) ∧ Below w.heap.size w w' := by
  have HC := Lib.hid (fun W => isclass_any b.cl W)
  have hcl : clsB b.cl = true := by simp [clsB]; omega
  rw [hcl] at HC
  have HF := Lib.hid (fun W => fills_any b h1 h2 W)
  have HM : Hid (mayB b = if b.kd = 1 then !decide (b.key.size = 0) && decide (b.key.size ≤ 16) && fillsB b else if b.kd = 2 then decide (b.key.size = 0) && fillsB b else if b.kd = 3 then decide (b.val.size = 0) && decide (b.key.size = 0) && fillsB b else false) := by show _ = _; rw [mayB, if_pos hc, if_neg hk]; simp
  rw [BV.agg] at HF ⊢
  generalize mayB b = r at *
  generalize fillsB b = q at *
  obtain ⟨cl, kd, id, ver, ep, key, val⟩ := b
  simp only at HC HM HF hk h1 h2 ⊢
  have hk0 : (kd == 0) = false := by simpa using hk
  clear hc hk hcl
  obtain ⟨ke, hke⟩ : ∃ ke, decide (key.size = 0) = ke := ⟨_, rfl⟩
  obtain ⟨ve, hve⟩ : ∃ ke, decide (val.size = 0) = ke := ⟨_, rfl⟩
  obtain ⟨k16, hk16⟩ : ∃ ke, decide (key.size ≤ 16) = ke := ⟨_, rfl⟩
  rw [hke, hve, hk16] at HM
  have hx : (ke = true → key.toList = []) ∧ (ke = false → ¬ key.toList = []) := ⟨fun h => empt_yes (hke.trans h), fun h => empt_no (hke.trans h)⟩
  have hy : (ve = true → val.toList = []) ∧ (ve = false → ¬ val.toList = []) := ⟨fun h => empt_yes (hve.trans h), fun h => empt_no (hve.trans h)⟩
  have hz : decide ((key.size : Int) ≤ 16) = k16 := by rw [← hk16, Bool.eq_iff_iff, decide_eq_true_iff, decide_eq_true_iff]; omega
  clear hke hve hk16
  rcases Classical.em (kd = 1) with hk1 | hk1
  · subst hk1
    rw [if_pos rfl] at HM
    clear hk0 hy
    cases ke <;> cases k16
    all_goals
      first | (have hxx := hx.1 rfl) | (have hxx := hx.2 rfl; have hxe := isE_no hxx)
      clear hx
      go_enter Try.func12, Try.ntmps12
      go_wp2_with (first | (go_at_call 29; refine (HC.out _).mono ?_; rintro e w' ⟨rfl, rfl⟩) | (go_at_call 30; refine (HF.out _).mono ?_; rintro e w2 ⟨rfl, hb2⟩; have HB2 := Lib.hid hb2; clear hb2))
      go_ret
      refine ⟨bool_eq ?_, (by first | exact below_box HB2.out | exact (Below.refl _ _).alloc (Nat.le_refl _) _)⟩
      rw [HM.out]
      simp
  · rw [if_neg hk1] at HM
    have hk1' : (kd == 1) = false := by simpa using hk1
    clear hz
    rcases Classical.em (kd = 2) with hk2 | hk2
    · subst hk2
      rw [if_pos rfl] at HM
      clear hk0 hk1 hk1' hy
      cases ke
      all_goals
        first | (have hxx := hx.1 rfl) | (have hxx := hx.2 rfl; have hxe := isE_no hxx)
        clear hx
        go_enter Try.func12, Try.ntmps12
        go_wp2_with (first | (go_at_call 29; refine (HC.out _).mono ?_; rintro e w' ⟨rfl, rfl⟩) | (go_at_call 30; refine (HF.out _).mono ?_; rintro e w2 ⟨rfl, hb2⟩; have HB2 := Lib.hid hb2; clear hb2))
        go_ret
        refine ⟨bool_eq ?_, (by first | exact below_box HB2.out | exact (Below.refl _ _).alloc (Nat.le_refl _) _)⟩
        rw [HM.out]
        simp
    · rw [if_neg hk2] at HM
      have hk2' : (kd == 2) = false := by simpa using hk2
      rcases Classical.em (kd = 3) with hk3 | hk3
      · subst hk3
        rw [if_pos rfl] at HM
        clear hk0 hk1 hk1' hk2 hk2'
        cases ke <;> cases ve
        all_goals
          first | (have hxx := hx.1 rfl) | (have hxx := hx.2 rfl; have hxe := isE_no hxx)
          first | (have hyy := hy.1 rfl) | (have hyy := hy.2 rfl; have hye := isE_no hyy)
          clear hx hy
          go_enter Try.func12, Try.ntmps12
          go_wp2_with (first | (go_at_call 29; refine (HC.out _).mono ?_; rintro e w' ⟨rfl, rfl⟩) | (go_at_call 30; refine (HF.out _).mono ?_; rintro e w2 ⟨rfl, hb2⟩; have HB2 := Lib.hid hb2; clear hb2))
          go_ret
          refine ⟨bool_eq ?_, (by first | exact below_box HB2.out | exact (Below.refl _ _).alloc (Nat.le_refl _) _)⟩
          rw [HM.out]
          simp
      · rw [if_neg hk3] at HM
        have hk3' : (kd == 3) = false := by simpa using hk3
        clear hx hy hk1 hk2 hk3
        go_enter Try.func12, Try.ntmps12
        go_wp2_with (first | (go_at_call 29; refine (HC.out _).mono ?_; rintro e w' ⟨rfl, rfl⟩))
        go_ret
        exact ⟨bool_eq HM.out.symm, (Below.refl _ _).alloc (Nat.le_refl _) _⟩
theorem may_any (b : BV) (h1 : b.key.size ≤ 2000) (h2 : b.val.size ≤ 2000) (w : World) : Calls Try.prog 12 #[b.agg] w fun e w' => e = .returned (.bool (mayB b)) ∧ Below w.heap.size w w' := by
  rcases Classical.em (0 ≤ b.cl ∧ b.cl ≤ 3) with hc | hc
  · rcases Classical.em (b.kd = 0) with hk | hk
    · exact may_draft b hc hk w
    · exact may_more b hc hk h1 h2 w
  · exact may_noclass b hc w

end Go.Proofs.Ytokobelmoanneaa
