/-
  Proved here, joined: BlockA, BlockB, BlockD
  Conditions: as each part says.
-/
import Derived.Test.YtlghphccmgmomaaGreatJN7
import Derived.Test.YtlghphccmgmomaaGreatJN5
import Derived.Deep.QuietTactic
import Derived.BigQuiet
import Derived.IntWalk
import Derived.WalkSmall
import Derived.Test.YtlghphccmgmomaaGreatJN1
import Derived.Lib.BufferWrite
import Derived.StillTailTactics

/-
    Proved here: what package block's isClass, isNumber, isKind and fills answer, and chapter 6's own number.
  Conditions: texts of at most 2,000 bytes.
-/
namespace Go.Proofs.YtlghphccmgmomaaGreat
open Go Go.RowKit
set_option maxRecDepth 100000

/-- A block as a value. -/
def BV.agg (b : BV) : Value := .agg #[.int .i64 b.cl, .int .i64 b.kd, .int .u64 (b.id : Nat), .int .u64 (b.ver : Nat), .int .u64 (b.ep : Nat), .string b.key, .string b.val]
def clsB (c : Int) : Bool := decide (0 ≤ c) && decide (c ≤ 3)
theorem clsB_span (c : Int) : decide ((0 : Int) < (spanN c : Nat)) = clsB c := by
  unfold clsB spanN
  (repeat' split) <;> simp_all <;> omega
set_option maxHeartbeats 400000 in
theorem isclass_any (c : Int) (w : World) : Calls Tryz.prog 103 #[.int .i64 c] w fun e w' => e = .returned (.bool (clsB c)) ∧ w = w' := by
  have H := Lib.hid (span_any c w)
  have HC := Lib.hid (clsB_span c)
  generalize clsB c = r at *
  generalize spanN c = s at *
  go_enter Tryz.func103, Tryz.ntmps103
  go_wp2_with fail
  refine H.out.mono ?_
  rintro e w' ⟨rfl, rfl⟩
  go_wp2
  go_ret
  exact ⟨bool_eq (by rw [← HC.out]; simp), rfl⟩
theorem le_cast (v : Nat) : decide ((v : Int) ≤ 2305843009213693952) = decide (v ≤ 2305843009213693952) := by
  rw [Bool.eq_iff_iff, decide_eq_true_iff, decide_eq_true_iff]; omega
set_option maxHeartbeats 400000 in
theorem isnumber_any (v : Nat) (w : World) : Calls Tryz.prog 149 #[.int .u64 v] w fun e w' => e = .returned (.bool (numB v)) ∧ w = w' := by
  have HN : Hid (numB v = (decide (1 ≤ v) && decide (v ≤ 2305843009213693952))) := rfl
  generalize numB v = r at *
  rcases Classical.em (1 ≤ v) with h | h
  all_goals
    go_enter Tryz.func149, Tryz.ntmps149
    go_wp2
    go_ret
    refine ⟨bool_eq ?_, rfl⟩
    rw [HN.out]
    simp [h, le_cast]
def kndB (k : Int) : Bool := decide (0 ≤ k) && decide (k ≤ 3)
set_option maxHeartbeats 400000 in
theorem iskind_any (k : Int) (w : World) : Calls Tryz.prog 202 #[.int .i64 k] w fun e w' => e = .returned (.bool (kndB k)) ∧ w = w' := by
  have HN : Hid (kndB k = (decide (0 ≤ k) && decide (k ≤ 3))) := rfl
  generalize kndB k = r at *
  go_enter Tryz.func202, Tryz.ntmps202
  go_wp2
  all_goals
    go_ret
    refine ⟨bool_eq ?_, rfl⟩
    rw [HN.out]
    simp_all <;> omega
theorem quiet_same {P : Program} {f : FuncId} {args : Array Value} {w : World} {n : Nat} {v : Value}
    (h : Calls P f args (w.drewN n) fun e w' => e = .returned v ∧ w.drewN n = w') : Calls P f args (w.drewN n) fun e w'' => e = .returned v ∧ ∃ m, w'' = w.drewN m :=
  h.mono fun _ _ ⟨he, hm⟩ => ⟨he, n, hm.symm⟩
set_option maxHeartbeats 4000000 in
theorem fills_any (b : BV) (hk : b.key.size ≤ 2000) (hv : b.val.size ≤ 2000) (w : World) : Calls Tryz.prog 104 #[b.agg] w fun e w' => e = .returned (.bool (fillsB b)) ∧ Below w.heap.size w w' := by
  have H1 := Lib.hid (fun W => isnumber_any b.id W)
  have H2 := Lib.hid (fun W => isnumber_any b.ver W)
  have H3 := Lib.hid (fun W => isnumber_any b.ep W)
  have H4 := Lib.hid (fun W => need_any ((b.key.size + b.val.size : Nat) : Int) W)
  have HF : Hid (fillsB b = (numB b.id && numB b.ver && numB b.ep && decide (b.val.size ≤ 400) && decide (b.cl = needN ((b.key.size + b.val.size : Nat) : Int)))) := rfl
  rw [BV.agg]
  generalize fillsB b = r at *
  obtain ⟨cl, kd, id, ver, ep, key, val⟩ := b
  simp only at H1 H2 H3 H4 HF hk hv ⊢
  have hsum : ((key.size + val.size : Nat) : Int) = (key.size : Int) + (val.size : Int) := by omega
  rw [hsum] at H4 HF
  generalize needN ((key.size : Int) + (val.size : Int)) = q at *
  generalize numB id = r1 at *
  generalize numB ver = r2 at *
  generalize numB ep = r3 at *
  clear hsum
  have hb : ∀ o, Below w.heap.size w (w.alloc o) := fun o => (Below.refl _ _).alloc (Nat.le_refl _) _
  have HB := Lib.hid hb
  clear hb
  have hs1 : IntKind.i64.wrap ((key.size : Int) + (val.size : Int)) = (key.size : Int) + (val.size : Int) := IntWalk.i64_in _ (by omega)
  rcases Classical.em (val.size ≤ 400) with h4 | h4
  · have h4' : decide ((val.size : Int) ≤ 400) = true := by simp; omega
    have HD : Hid (decide (val.size ≤ 400) = true) := by show _ = _; simp; omega
    cases r1 <;> cases r2 <;> cases r3
    all_goals
      go_enter Tryz.func104, Tryz.ntmps104
      go_wp2
      go_quiet ((first | (go_at_call 149; first | (with_reducible exact quiet_same (H1.out _)) | (with_reducible exact quiet_same (H2.out _)) | (with_reducible exact quiet_same (H3.out _))) | (go_at_call 150; exact quiet_same (H4.out _))))
      go_wp2
      go_ret
      exact ⟨bool_eq (by rw [HF.out, HD.out]; rfl), below_drewN (HB.out _) _⟩
  · have h4' : decide ((val.size : Int) ≤ 400) = false := by simp; omega
    have HD : Hid (decide (val.size ≤ 400) = false) := by show _ = _; simp; omega
    cases r1 <;> cases r2 <;> cases r3
    all_goals
      go_enter Tryz.func104, Tryz.ntmps104
      go_wp2
      go_quiet ((first | (go_at_call 149; first | (with_reducible exact quiet_same (H1.out _)) | (with_reducible exact quiet_same (H2.out _)) | (with_reducible exact quiet_same (H3.out _))) | (go_at_call 150; exact quiet_same (H4.out _))))
      go_wp2
      go_ret
      exact ⟨bool_eq (by rw [HF.out, HD.out]; simp), below_drewN (HB.out _) _⟩

end Go.Proofs.YtlghphccmgmomaaGreat

/-
    Proved here: how two blocks are compared; what package block's May answers.
  Conditions: texts of at most 2,000 bytes.
-/
namespace Go.Proofs.YtlghphccmgmomaaGreat
open Go Go.RowKit
set_option maxRecDepth 100000

theorem empty_iff (s : ByteArray) : s.toList = [] ↔ s.size = 0 := by
  rw [ByteArray.toList_eq]
  rcases s with ⟨⟨l⟩⟩
  simp [ByteArray.size]
set_option maxHeartbeats 400000 in
theorem may_noclass (b : BV) (hc : ¬ (0 ≤ b.cl ∧ b.cl ≤ 3)) (w : World) : Calls Tryz.prog 59 #[b.agg] w fun e w' => e = .returned (.bool (mayB b)) ∧ Below w.heap.size w w' := by
  have HC := Lib.hid (fun W => isclass_any b.cl W)
  have h1 : clsB b.cl = false := by simp [clsB]; omega
  rw [h1] at HC
  have HM : Hid (mayB b = false) := by show _ = _; rw [mayB, if_neg hc]
  rw [BV.agg]
  generalize mayB b = r at *
  obtain ⟨cl, kd, id, ver, ep, key, val⟩ := b
  simp only at HC HM ⊢
  clear hc h1
  go_enter Tryz.func59, Tryz.ntmps59
  go_wp2_with (go_at_call 103; refine (HC.out _).mono ?_; rintro e w' ⟨rfl, rfl⟩)
  go_ret
  exact ⟨bool_eq HM.out.symm, (Below.refl _ _).alloc (Nat.le_refl _) _⟩
set_option maxHeartbeats 400000 in
theorem may_draft (b : BV) (hc : 0 ≤ b.cl ∧ b.cl ≤ 3) (hk : b.kd = 0) (w : World) : Calls Tryz.prog 59 #[b.agg] w fun e w' => e = .returned (.bool (mayB b)) ∧ Below w.heap.size w w' := by
  have HC := Lib.hid (fun W => isclass_any b.cl W)
  have h1 : clsB b.cl = true := by simp [clsB]; omega
  rw [h1] at HC
  have HM : Hid (mayB b = isDraftB b) := by show _ = _; rw [mayB, if_pos hc, if_pos hk]
  rw [BV.agg]
  generalize mayB b = r at *
  obtain ⟨cl, kd, id, ver, ep, key, val⟩ := b
  simp only at HC HM hk ⊢
  subst hk
  clear hc h1
  go_enter Tryz.func59, Tryz.ntmps59
  go_wp2_with (go_at_call 103; refine (HC.out _).mono ?_; rintro e w' ⟨rfl, rfl⟩)
  all_goals
    go_ret
    refine ⟨bool_eq ?_, (Below.refl _ _).alloc (Nat.le_refl _) _⟩
    rw [HM.out]
    simp only [isDraftB, ← empty_iff]
    simp [*]
/-- What is made by a block put on the heap, and behind it. -/
theorem below_box {w w' : World} {o : Obj} (h : Below (w.alloc o).heap.size (w.alloc o) w') : Below w.heap.size w w' :=
  ((Below.refl _ _).alloc (Nat.le_refl _) o).trans (h.mono (by simp))
theorem empt_yes {s : ByteArray} (h : decide (s.size = 0) = true) : s.toList = [] := (empty_iff s).2 (of_decide_eq_true h)
theorem empt_no {s : ByteArray} (h : decide (s.size = 0) = false) : ¬ s.toList = [] := fun e => of_decide_eq_false h ((empty_iff s).1 e)
theorem isE_no {s : ByteArray} (h : ¬ s.toList = []) : s.toList.isEmpty = false := by simpa using h
set_option maxHeartbeats 8000000 in
theorem may_more (b : BV) (hc : 0 ≤ b.cl ∧ b.cl ≤ 3) (hk : ¬ b.kd = 0) (h1 : b.key.size ≤ 2000) (h2 : b.val.size ≤ 2000) (w : World) : Calls Tryz.prog 59 #[b.agg] w fun e w' => e = .returned (.bool (mayB b)) ∧ Below w.heap.size w w' := by
  have HC := Lib.hid (fun W => isclass_any b.cl W)
  have hcl : clsB b.cl = true := by simp [clsB]; omega
  rw [hcl] at HC
  have HF := Lib.hid (fun W => fills_any b h1 h2 W)
  have HM : Hid (mayB b = if b.kd = 1 then !decide (b.key.size = 0) && decide (b.key.size ≤ 16) && fillsB b else if b.kd = 2 then decide (b.key.size = 0) && fillsB b else if b.kd = 3 then decide (b.val.size = 0) && decide (b.key.size = 0) && fillsB b else false) := by show _ = _; rw [mayB, if_pos hc, if_neg hk]; simp
  rw [BV.agg] at HF ⊢
  generalize mayB b = r at *
  generalize fillsB b = q at *
  obtain ⟨cl, kd, id, ver, ep, key, val⟩ := b
  simp only at HC HM HF hk h1 h2 ⊢
  have hk0 : (kd == 0) = false := by simpa using hk
  clear hc hk hcl
  obtain ⟨ke, hke⟩ : ∃ ke, decide (key.size = 0) = ke := ⟨_, rfl⟩
  obtain ⟨ve, hve⟩ : ∃ ke, decide (val.size = 0) = ke := ⟨_, rfl⟩
  obtain ⟨k16, hk16⟩ : ∃ ke, decide (key.size ≤ 16) = ke := ⟨_, rfl⟩
  rw [hke, hve, hk16] at HM
  have hx : (ke = true → key.toList = []) ∧ (ke = false → ¬ key.toList = []) := ⟨fun h => empt_yes (hke.trans h), fun h => empt_no (hke.trans h)⟩
  have hy : (ve = true → val.toList = []) ∧ (ve = false → ¬ val.toList = []) := ⟨fun h => empt_yes (hve.trans h), fun h => empt_no (hve.trans h)⟩
  have hz : decide ((key.size : Int) ≤ 16) = k16 := by rw [← hk16, Bool.eq_iff_iff, decide_eq_true_iff, decide_eq_true_iff]; omega
  clear hke hve hk16
  rcases Classical.em (kd = 1) with hk1 | hk1
  · subst hk1
    rw [if_pos rfl] at HM
    clear hk0 hy
    cases ke <;> cases k16
    all_goals
      first | (have hxx := hx.1 rfl) | (have hxx := hx.2 rfl; have hxe := isE_no hxx)
      clear hx
      go_enter Tryz.func59, Tryz.ntmps59
      go_wp2_with (first | (go_at_call 103; refine (HC.out _).mono ?_; rintro e w' ⟨rfl, rfl⟩) | (go_at_call 104; refine (HF.out _).mono ?_; rintro e w2 ⟨rfl, hb2⟩; have HB2 := Lib.hid hb2; clear hb2))
      go_ret
      refine ⟨bool_eq ?_, (by first | exact below_box HB2.out | exact (Below.refl _ _).alloc (Nat.le_refl _) _)⟩
      rw [HM.out]
      simp
  · rw [if_neg hk1] at HM
    have hk1' : (kd == 1) = false := by simpa using hk1
    clear hz
    rcases Classical.em (kd = 2) with hk2 | hk2
    · subst hk2
      rw [if_pos rfl] at HM
      clear hk0 hk1 hk1' hy
      cases ke
      all_goals
        first | (have hxx := hx.1 rfl) | (have hxx := hx.2 rfl; have hxe := isE_no hxx)
        clear hx
        go_enter Tryz.func59, Tryz.ntmps59
        go_wp2_with (first | (go_at_call 103; refine (HC.out _).mono ?_; rintro e w' ⟨rfl, rfl⟩) | (go_at_call 104; refine (HF.out _).mono ?_; rintro e w2 ⟨rfl, hb2⟩; have HB2 := Lib.hid hb2; clear hb2))
        go_ret
        refine ⟨bool_eq ?_, (by first | exact below_box HB2.out | exact (Below.refl _ _).alloc (Nat.le_refl _) _)⟩
        rw [HM.out]
        simp
    · rw [if_neg hk2] at HM
      have hk2' : (kd == 2) = false := by simpa using hk2
      rcases Classical.em (kd = 3) with hk3 | hk3
      · subst hk3
        rw [if_pos rfl] at HM
        clear hk0 hk1 hk1' hk2 hk2'
        cases ke <;> cases ve
        all_goals
          first | (have hxx := hx.1 rfl) | (have hxx := hx.2 rfl; have hxe := isE_no hxx)
          first | (have hyy := hy.1 rfl) | (have hyy := hy.2 rfl; have hye := isE_no hyy)
          clear hx hy
          go_enter Tryz.func59, Tryz.ntmps59
          go_wp2_with (first | (go_at_call 103; refine (HC.out _).mono ?_; rintro e w' ⟨rfl, rfl⟩) | (go_at_call 104; refine (HF.out _).mono ?_; rintro e w2 ⟨rfl, hb2⟩; have HB2 := Lib.hid hb2; clear hb2))
          go_ret
          refine ⟨bool_eq ?_, (by first | exact below_box HB2.out | exact (Below.refl _ _).alloc (Nat.le_refl _) _)⟩
          rw [HM.out]
          simp
      · rw [if_neg hk3] at HM
        have hk3' : (kd == 3) = false := by simpa using hk3
        clear hx hy hk1 hk2 hk3
        go_enter Tryz.func59, Tryz.ntmps59
        go_wp2_with (first | (go_at_call 103; refine (HC.out _).mono ?_; rintro e w' ⟨rfl, rfl⟩))
        go_ret
        exact ⟨bool_eq HM.out.symm, (Below.refl _ _).alloc (Nat.le_refl _) _⟩
theorem may_any (b : BV) (h1 : b.key.size ≤ 2000) (h2 : b.val.size ≤ 2000) (w : World) : Calls Tryz.prog 59 #[b.agg] w fun e w' => e = .returned (.bool (mayB b)) ∧ Below w.heap.size w w' := by
  rcases Classical.em (0 ≤ b.cl ∧ b.cl ≤ 3) with hc | hc
  · rcases Classical.em (b.kd = 0) with hk | hk
    · exact may_draft b hc hk w
    · exact may_more b hc hk h1 h2 w
  · exact may_noclass b hc w

end Go.Proofs.YtlghphccmgmomaaGreat

/-
    Proved here: what package block's put, get and paddedData answer.
  Conditions: a block that may be.
-/
namespace Go.Proofs.YtlghphccmgmomaaGreat
open Go Go.RowKit
set_option maxRecDepth 100000

/-- What put leaves: a row of its own. -/
def BlkTo (w : World) (n : Nat) (r : List UInt8) (e : Ending) (w' : World) : Prop :=
  ∃ g, e = .returned (.slice (some ⟨g, 0, none⟩) n n) ∧ w.heap.size ≤ g ∧ Blk w' g (enc r) ∧ Below w.heap.size w w'
set_option maxHeartbeats 400000 in
theorem bput_ok (A : Option Addr) (n c : Nat) (l : List UInt8) (hl : l.length = n) (a k v : Nat) (hv : v < 18446744073709551616) (h1 : 1 ≤ k) (h8 : k ≤ 8) (ha : a + k ≤ n) (hf : fit v k = true) (w : World) (hr : Row w A l) :
    Calls Tryz.prog 195 #[.slice A n c, .int .i64 a, .int .i64 k, .int .u64 v] w (BlkTo w n (splice l a (lay k v))) := by
  have H := Lib.hid (put_ok A n c l hl a k v hv h1 h8 ha hf w hr)
  generalize splice l a (lay k v) = r at *
  clear hl hv h1 h8 ha hf hr
  go_enter Tryz.func195, Tryz.ntmps195
  go_wp2_with fail
  refine H.out.mono ?_
  rintro e w' ⟨g, rfl, hg, hb, hw⟩
  have HG := Lib.hid hg
  have HB := Lib.hid hb
  have HW := Lib.hid hw
  clear hg hb hw
  go_wp2
  go_ret
  exact ⟨g, rfl, HG.out, HB.out, HW.out⟩
set_option maxHeartbeats 400000 in
theorem bget_ok (A : Option Addr) (n c : Nat) (l : List UInt8) (hl : l.length = n) (a k : Nat) (h1 : 1 ≤ k) (h8 : k ≤ 8) (ha : a + k ≤ n) (w : World) (hr : Row w A l) :
    Calls Tryz.prog 176 #[.slice A n c, .int .i64 a, .int .i64 k] w fun e w' => e = .returned (.int .u64 (le (cut l a k) : Nat)) ∧ w = w' := by
  have H := Lib.hid (get_ok A n c l hl a k h1 h8 ha w hr)
  generalize le (cut l a k) = r at *
  clear hl h1 h8 ha hr
  go_enter Tryz.func176, Tryz.ntmps176
  go_wp2_with fail
  refine H.out.mono ?_
  rintro e w' ⟨rfl, rfl⟩
  go_wp2
  go_ret
  exact ⟨rfl, rfl⟩
theorem bsplice_enc (x y : List UInt8) (o : Nat) : splice (enc x) o (enc y) = enc (splice x o y) := by simp [splice, enc]
theorem copy_str {w : World} {g o : Nat} {x : List UInt8} (h : Blk w g (enc x)) (s : ByteArray) (d c : Nat) (hd : s.size ≤ d) (hx : o + s.size ≤ x.length) :
    ∃ w', (Builtin.copy_ #[148, 9] 3 #[.slice (some ⟨g, o, none⟩) d c, .string s]).run Tryz.prog w = .ok (goInt s.size) w' ∧ Blk w' g (enc (splice x o s.data.toList)) ∧ Below g w w' := by
  have hr := Lib.run_copy_row_string (P := Tryz.prog) w 148 9 3 5 g o d c s (enc x).toArray 5 Tryz.underlying148 byte_size h hd (by simp [enc_len]; omega)
  refine ⟨_, hr, ?_, ⟨rfl, rfl, rfl, by simp, fun k hk => setRow_other _ _ k _ (by omega)⟩⟩
  unfold Blk
  rw [setRow_heap w g _ _ _ _ h, ← bsplice_enc, splice, enc_len, show s.data.toList.length = s.size from rfl, List.append_assoc]
  rfl
theorem splice_pre (p r ys : List UInt8) : splice (p ++ r) p.length ys = (p ++ ys) ++ r.drop ys.length := by
  simp [splice, List.drop_append]
theorem spliceLen (x ys : List UInt8) (o : Nat) (h : o + ys.length ≤ x.length) : (splice x o ys).length = x.length := by
  simp [splice]
  omega
set_option maxHeartbeats 800000 in
set_option maxRecDepth 100000 in
theorem padded_any (b : BV) (hm : mayB b = true) (w : World) : Calls Tryz.prog 161 #[b.agg] w (BlkTo w (28 + 63 * restN b.cl) (roomL b)) := by
  have HCAP := Lib.hid (fun W => cap_any b.cl W)
  rw [capN_rest (mayB_cl hm)] at HCAP
  obtain ⟨hks, hvs, _⟩ := mayB_sizes hm
  have hdl := data_le hm
  rw [dataL_len] at hdl
  have hlen := restN_le b.cl
  have e2 : splice (splice (List.replicate (28 + 63 * restN b.cl) 0) 0 b.K) b.key.size b.V = roomL b := by
    have h1 := splice_pre [] (List.replicate (28 + 63 * restN b.cl) 0) b.K
    simp only [List.nil_append, List.length_nil, List.drop_replicate] at h1
    have h2 := splice_pre b.K (List.replicate (28 + 63 * restN b.cl - b.K.length) 0) b.V
    rw [h1, ← K_len, h2, roomL, dataL, List.drop_replicate, List.length_append, Nat.sub_sub]
  obtain ⟨w1, hmk, hblk, hbel⟩ := made (w.alloc (.cells #[.int .i64 b.cl, .int .i64 b.kd, .int .u64 (b.id : Nat), .int .u64 (b.ver : Nat), .int .u64 (b.ep : Nat), .string b.key, .string b.val] 95)) (28 + 63 * restN b.cl) (by omega)
  obtain ⟨g, hg⟩ : ∃ g, (w.alloc (.cells #[.int .i64 b.cl, .int .i64 b.kd, .int .u64 (b.id : Nat), .int .u64 (b.ver : Nat), .int .u64 (b.ep : Nat), .string b.key, .string b.val] 95)).heap.size = g := ⟨_, rfl⟩
  have hwg : w.heap.size + 1 = g := by rw [← hg]; simp
  rw [hg] at hmk hblk hbel
  have hz : List.replicate (28 + 63 * restN b.cl) (z8 0) = enc (List.replicate (28 + 63 * restN b.cl) 0) := by simp [enc, z8]
  rw [hz] at hblk
  obtain ⟨w2, hc1, hb2, hbe2⟩ := copy_str (o := 0) hblk b.key (28 + 63 * restN b.cl) (28 + 63 * restN b.cl) (by omega) (by rw [List.length_replicate]; omega)
  obtain ⟨w3, hc2, hb3, hbe3⟩ := copy_str (w := w2.drew) (o := b.key.size) hb2 b.val (28 + 63 * restN b.cl - b.key.size) (28 + 63 * restN b.cl - b.key.size) (by omega) (by rw [spliceLen _ _ _ (by rw [List.length_replicate, show b.key.data.toList.length = b.key.size from rfl]; omega), List.length_replicate]; omega)
  have e3 : splice (splice (List.replicate (28 + 63 * restN b.cl) 0) 0 b.key.data.toList) b.key.size b.val.data.toList = roomL b := e2
  rw [e3] at hb3
  have hkey1 : w1.cell? ⟨w.heap.size, 5, none⟩ = some (.string b.key) := (hbel.cell (p := ⟨w.heap.size, 5, none⟩) (by show w.heap.size < g; omega)).trans (by simp)
  have hval2 : w2.drew.cell? ⟨w.heap.size, 6, none⟩ = some (.string b.val) := (hbe2.cell (p := ⟨w.heap.size, 6, none⟩) (by show w.heap.size < g; omega)).trans ((hbel.cell (p := ⟨w.heap.size, 6, none⟩) (by show w.heap.size < g; omega)).trans (by simp))
  have HBW : Hid (Below w.heap.size w w3) := (((Below.refl _ _).alloc (Nat.le_refl _) _).trans (hbel.mono (by omega))).trans ((hbe2.drew.mono (by omega)).trans (hbe3.mono (by omega)))
  have HB3 := Lib.hid hb3
  have HC1 := Lib.hid hc1
  have HC2 := Lib.hid hc2
  have HWG := Lib.hid hwg
  have hn0 : ¬ 28 + 63 * restN b.cl = b.key.size := by omega
  have hle : b.key.size ≤ 28 + 63 * restN b.cl := by omega
  clear hc1 hc2 hb2 hb3 hbe2 hbe3 hblk hbel e2 e3 hz hwg hg hdl hm
  rw [BV.agg]
  generalize 28 + 63 * restN b.cl = n at *
  generalize roomL b = R at *
  obtain ⟨cl, kd, id, ver, ep, key, val⟩ := b
  simp only at *
  go_enter Tryz.func161, Tryz.ntmps161
  go_wp2_with fail
  refine (HCAP.out _).mono ?_
  rintro e w' ⟨rfl, rfl⟩
  go_wp2_with (refine wpList_copy (o := ⟨some 12, _, _, _, _, _⟩) rfl (.tmp 9) (.tmp 11) 148 9 rfl rfl rfl HC1.out ?_)
  refine wp_region_still_tail 5 (by kernel_rfl) (by kernel_rfl) ?_
  change wpStill _ _ w2.drew _ _ _
  simp only [List.take_succ_cons, List.take_zero, List.drop_succ_cons, List.drop_zero]
  iterate 5 still_step
  refine wpStill_nil ?_
  go_wp2_with (refine wpList_copy (o := ⟨some 18, _, _, _, _, _⟩) rfl (.tmp 15) (.tmp 17) 148 9 rfl rfl rfl HC2.out ?_)
  go_ret
  exact ⟨g, rfl, by have := HWG.out; omega, HB3.out, HBW.out⟩

end Go.Proofs.YtlghphccmgmomaaGreat
