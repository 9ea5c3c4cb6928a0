/-
  Proved here: what package durable's Now, Durable, due, Closing, Owed and Left answer of a clock; what each call answers of none.
  Conditions: none.
-/
import Derived.Test.YtkcjamjjaallhaaDurMem
import Derived.Test.YtkcjamjjaallhaaAtom
import Derived.Deep.QuietTactic
import Derived.BigQuiet
import Derived.IntWalk
import Derived.WalkSmall
import Derived.ChangeKeysEq
import Derived.Lib.SliceRun
import Derived.Laws.EntriesVeiled
namespace Go.Proofs.Ytkcjamjjaallhaa
open Go Go.RowKit

theorem run_equalIn_func {P : Program} (w : World) (d : Nat) (t : TypeId) (a b : Array TypeId) (c : Bool) (f : Fn) (xs ys : Array Value) (h : P.underlying t = some (.func a b c)) : (Op.equalIn (d + 1) t (.func f xs ys) .nilFunc).run P w = .ok false w := by
  simp [Op.equalIn, run_underlying h]
theorem run_equalIn_nilfunc {P : Program} (w : World) (d : Nat) (t : TypeId) (a b : Array TypeId) (c : Bool) (h : P.underlying t = some (.func a b c)) : (Op.equalIn (d + 1) t .nilFunc .nilFunc).run P w = .ok true w := by
  simp [Op.equalIn, run_underlying h]
theorem eq_func (w : World) (f : Fn) (xs ys : Array Value) : (binOp .eql 79 (.func f xs ys) .nilFunc).run Try.prog w = .ok (.bool false) w := by
  simp only [binOp]
  simp [Op.equal, Op.maxDepth, run_equalIn_func w 9999 _ _ _ _ f xs ys Try.underlying79]
theorem eq_nilfunc (w : World) : (binOp .eql 79 .nilFunc .nilFunc).run Try.prog w = .ok (.bool true) w := by
  simp only [binOp]
  simp [Op.equal, Op.maxDepth, run_equalIn_nilfunc w 9999 _ _ _ _ Try.underlying79]
set_option maxHeartbeats 400000 in
theorem cknow_nil (w : World) : Calls Try.prog 32 #[.pointer none] w fun e w' => e = .returned (.int .u64 0) ∧ w = w' := by
  go_enter Try.func32, Try.ntmps32
  go_wp2
  go_ret
  exact ⟨rfl, rfl⟩
set_option maxHeartbeats 400000 in
theorem ckdur_nil (w : World) : Calls Try.prog 27 #[.pointer none] w fun e w' => e = .returned (.int .u64 0) ∧ w = w' := by
  go_enter Try.func27, Try.ntmps27
  go_wp2
  go_ret
  exact ⟨rfl, rfl⟩
set_option maxHeartbeats 400000 in
theorem cknote_nil (t x : Int) (w : World) : Calls Try.prog 15 #[.pointer none, .int .i64 t, .int .i64 x] w fun e w' => e = .returned (.int .i64 1) ∧ w = w' := by
  go_enter Try.func15, Try.ntmps15
  go_wp2
  go_ret
  exact ⟨rfl, rfl⟩
set_option maxHeartbeats 400000 in
theorem ckbegin_nil (w : World) : Calls Try.prog 17 #[.pointer none] w fun e w' => e = .returned (.int .i64 1) ∧ w = w' := by
  go_enter Try.func17, Try.ntmps17
  go_wp2
  go_ret
  exact ⟨rfl, rfl⟩
set_option maxHeartbeats 400000 in
theorem ckclosing_nil (w : World) : Calls Try.prog 33 #[.pointer none] w fun e w' => e = .returned (.tuple #[.int .u64 0, .bool false]) ∧ w = w' := by
  go_enter Try.func33, Try.ntmps33
  go_wp2
  go_ret2
  exact ⟨rfl, rfl⟩
set_option maxHeartbeats 400000 in
theorem ckstep_nil (d : Option Addr) (w : World) : Calls Try.prog 19 #[.pointer none, .pointer d] w fun e w' => e = .returned (.tuple #[.int .i64 0, .int .i64 1]) ∧ w = w' := by
  go_enter Try.func19, Try.ntmps19
  go_wp2
  go_ret2
  exact ⟨rfl, rfl⟩
set_option maxHeartbeats 400000 in
theorem ckstep_none (p : Nat) (w : World) : Calls Try.prog 19 #[.pointer (some ⟨p, 0, none⟩), .pointer none] w fun e w' => e = .returned (.tuple #[.int .i64 0, .int .i64 1]) ∧ w = w' := by
  go_enter Try.func19, Try.ntmps19
  go_wp2
  go_ret2
  exact ⟨rfl, rfl⟩
set_option maxHeartbeats 400000 in
theorem ckowed_nil (w : World) : Calls Try.prog 35 #[.pointer none] w fun e w' => e = .returned (.slice none 0 0) ∧ w = w' := by
  go_enter Try.func35, Try.ntmps35
  go_wp2
  go_ret
  exact ⟨rfl, rfl⟩
set_option maxHeartbeats 400000 in
theorem ckleft_nil (w : World) : Calls Try.prog 36 #[.pointer none] w fun e w' => e = .returned (.slice none 0 0) ∧ w = w' := by
  go_enter Try.func36, Try.ntmps36
  go_wp2
  go_ret
  exact ⟨rfl, rfl⟩
set_option maxHeartbeats 400000 in
theorem cknow_any {S : List Nat} {w : World} {p o : Nat} {c : Ck} (h : Cm S w p o c) : Calls Try.prog 32 #[.pointer (some ⟨p, 0, none⟩)] w fun e w' => e = .returned (.int .u64 (c.now : Nat)) ∧ w = w' := by
  have H := Lib.hid (uload p 0 _ w h.reads.1)
  clear h
  go_enter Try.func32, Try.ntmps32
  go_wp2_with fail
  refine H.out.mono ?_
  rintro e w' ⟨rfl, rfl⟩
  go_wp2
  go_ret
  exact ⟨rfl, rfl⟩
set_option maxHeartbeats 400000 in
theorem ckdur_any {S : List Nat} {w : World} {p o : Nat} {c : Ck} (h : Cm S w p o c) : Calls Try.prog 27 #[.pointer (some ⟨p, 0, none⟩)] w fun e w' => e = .returned (.int .u64 (c.dur : Nat)) ∧ w = w' := by
  have H := Lib.hid (uload p 1 _ w h.reads.2.1)
  clear h
  go_enter Try.func27, Try.ntmps27
  go_wp2_with fail
  refine H.out.mono ?_
  rintro e w' ⟨rfl, rfl⟩
  go_wp2
  go_ret
  exact ⟨rfl, rfl⟩
theorem u64_wrap (x : Nat) (h : x < 18446744073709551616) : IntKind.u64.wrap (x : Int) = (x : Int) := by
  simp [IntKind.wrap, IntKind.signed, IntKind.bits]
  omega
theorem u64_up (x : Nat) (h : x + 1 < 18446744073709551616) : IntKind.u64.wrap ((x : Int) + 1) = ((x + 1 : Nat) : Int) := by
  have := u64_wrap (x + 1) h
  simpa using this
set_option maxHeartbeats 400000 in
theorem ckdue_any {S : List Nat} {w : World} {p o : Nat} {c : Ck} (h : Cm S w p o c) : Calls Try.prog 38 #[.pointer (some ⟨p, 0, none⟩)] w fun e w' => e = .returned (.int .u64 (c.dur + 1 : Nat)) ∧ w = w' := by
  have H := Lib.hid (uload p 1 _ w h.reads.2.1)
  have hw := u64_up c.dur (by have := h.ok.lt; omega)
  clear h
  generalize c.dur = d at *
  generalize ((d + 1 : Nat) : Int) = d1 at *
  go_enter Try.func38, Try.ntmps38
  go_wp2_with fail
  refine H.out.mono ?_
  rintro e w' ⟨rfl, rfl⟩
  go_wp2
  go_ret
  exact ⟨rfl, rfl⟩
theorem fnv_zero (p : Nat) : fnv 0 p = .nilFunc := rfl
theorem fnv_some (ph p : Nat) (h : ph ≠ 0) : ∃ f, fnv ph p = .func (.func f) #[.pointer (some ⟨p, 0, none⟩)] #[] := by
  unfold fnv
  rw [if_neg h]
  exact ⟨_, rfl⟩
set_option maxHeartbeats 400000 in
set_option maxRecDepth 100000 in
theorem ckclosing_any {S : List Nat} {w : World} {p o : Nat} {c : Ck} (h : Cm S w p o c) : Calls Try.prog 33 #[.pointer (some ⟨p, 0, none⟩)] w fun e w' => e = .returned (.tuple #[.int .u64 ((if c.ph = 0 then 0 else c.dur + 1 : Nat) : Int), .bool (!decide (c.ph = 0))]) ∧ w = w' := by
  have H := Lib.hid (ckdue_any h)
  have hf := h.reads.2.2.2
  have hq0 := eq_nilfunc w
  generalize c.dur + 1 = d at *
  rcases Nat.eq_zero_or_pos c.ph with e | e
  · rw [e] at hf ⊢
    rw [fnv_zero] at hf
    clear h e
    go_enter Try.func33, Try.ntmps33
    go_wp2
    go_ret2
    exact ⟨rfl, rfl⟩
  · obtain ⟨f, hfv⟩ := fnv_some c.ph p (by omega)
    rw [hfv] at hf
    have hq1 := eq_func w (.func f) #[.pointer (some ⟨p, 0, none⟩)] #[]
    rw [if_neg (by omega), decide_eq_false (by omega), Bool.not_false]
    clear h e hfv
    go_enter Try.func33, Try.ntmps33
    go_wp2_with fail
    refine H.out.mono ?_
    rintro e w' ⟨rfl, rfl⟩
    go_wp2
    go_ret2
    exact ⟨rfl, rfl⟩
/-- What a list of a call's own leaves. -/
def OwnI (w : World) (l : List Int) (e : Ending) (w' : World) : Prop := ∃ V, e = .returned V ∧ w'.ownsRow w.heap.size 3 1 V l.length (encI l) ∧ Below w.heap.size w w'
set_option maxHeartbeats 400000 in
set_option maxRecDepth 100000 in
theorem cloneI_any (w : World) (A : Option Addr) (n c : Nat) (l : List Int) (hl : l.length = n) (hr : RowI w A l) (hA : A = none → c = 0) :
    Calls Try.prog 62 #[.slice A n c] w (OwnI w l) := by
  rcases A with _ | a
  · have h0 : l.length = 0 := by
      rcases Nat.eq_zero_or_pos l.length with h | h
      · exact h
      · obtain ⟨_, _, e, _⟩ := hr.2 h
        cases e
    obtain rfl : l = [] := List.eq_nil_of_length_eq_zero h0
    obtain rfl : n = 0 := by simpa using hl.symm
    obtain rfl := hA rfl
    clear hr hl hA h0
    have hnil : (binOp .eql 68 (.slice none 0 0) (.slice none 0 0)).run Try.prog w = .ok (.bool true) w := Lib.run_eql_slice_nil w 68 3 none 0 0 0 0 Try.underlying68
    go_enter Try.func62, Try.ntmps62
    go_wp2
    go_ret
    exact ⟨_, rfl, ⟨rfl, .inl ⟨rfl, rfl⟩⟩, Below.refl _ _⟩
  · have hb0 : Below w.heap.size w (w.alloc (.cells #[] 3)) := (Below.refl _ _).alloc (Nat.le_refl _) _
    obtain ⟨V, w2, hrun, hown, hg, _⟩ := run_appI (w.alloc (.cells #[] 3)) w.heap.size 0 _ [] (World.ownsRow_made (e := 3) (size := 1) w #[] 0 (Nat.le_refl _) (by simp) (by simp)) (some a) n c l hl (hr.below hb0) (by intro h; cases h) (by have := hr.1; omega) (by simp)
    have HRUN := Lib.hid hrun
    have HO : Hid (w2.ownsRow w.heap.size 3 1 V l.length (encI l)) := (by show World.ownsRow _ _ _ _ _ _ _; rw [hl]; simpa using hown)
    have HB : Hid (Below w.heap.size w w2) := hb0.grown hg (by simp) (fun k hk => by simp [Value.ownBlock] at hk; omega)
    have hnil : (binOp .eql 68 (.slice (some a) n c) (.slice none 0 0)).run Try.prog w = .ok (.bool false) w := Lib.run_eql_slice_nil w 68 3 (some a) n c 0 0 Try.underlying68
    clear hrun hown hg hl hr hb0
    go_enter Try.func62, Try.ntmps62
    go_wp2_with (at_builtin; refine wpList_app rfl (.tmp 5) (.tmp 6) 68 rfl rfl rfl HRUN.out ?_)
    go_ret
    exact ⟨V, rfl, HO.out, HB.out⟩
theorem rowI_owed {S : List Nat} {w : World} {p o : Nat} {c : Ck} (h : Cm S w p o c) : RowI w (some ⟨o, 0, none⟩) c.owed :=
  ⟨by have := h.ok.four; omega, fun _ => ⟨o, 0, rfl, h.lt_o, fun k hk => by rw [Nat.zero_add]; exact h.readO k hk⟩⟩
set_option maxHeartbeats 400000 in
theorem ckowed_any {S : List Nat} {w : World} {p o : Nat} {c : Ck} (h : Cm S w p o c) : Calls Try.prog 35 #[.pointer (some ⟨p, 0, none⟩)] w (OwnI w c.owed) := by
  have H := Lib.hid (cloneI_any w (some ⟨o, 0, none⟩) c.owed.length c.owed.length c.owed rfl (rowI_owed h) (by intro h; cases h))
  have hs := h.reads.2.2.1
  generalize c.owed.length = n at *
  clear h
  go_enter Try.func35, Try.ntmps35
  go_wp2_with fail
  refine H.out.mono ?_
  rintro e w' ⟨V, rfl, ho, hb⟩
  have HO := Lib.hid ho
  have HB := Lib.hid hb
  clear ho hb
  go_wp2
  go_ret
  exact ⟨V, rfl, HO.out, HB.out⟩
set_option maxHeartbeats 400000 in
theorem ckleft_any {S : List Nat} {w : World} {p o : Nat} {c : Ck} (h : Cm S w p o c) : Calls Try.prog 36 #[.pointer (some ⟨p, 0, none⟩)] w (OwnI w c.left) := by
  obtain ⟨A, cap, hs, hr, _, hA, _⟩ := h.readL
  have H := Lib.hid (cloneI_any w A c.left.length cap c.left rfl hr hA)
  generalize c.left.length = n at *
  clear h hr hA
  go_enter Try.func36, Try.ntmps36
  go_wp2_with fail
  refine H.out.mono ?_
  rintro e w' ⟨V, rfl, ho, hb⟩
  have HO := Lib.hid ho
  have HB := Lib.hid hb
  clear ho hb
  go_wp2
  go_ret
  exact ⟨V, rfl, HO.out, HB.out⟩

end Go.Proofs.Ytkcjamjjaallhaa
