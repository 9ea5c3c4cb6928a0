/-
  Proved here: what package limbo's New, Len, All, isEntry and isReady answer and leave.
  Conditions: none.
-/
import Derived.Test.YtfonjkbdonbjdaaBagMem
import Derived.Test.YtfonjkbdonbjdaaRdD
import Derived.Deep.QuietTactic
import Derived.BigQuiet
import Derived.IntWalk
import Derived.WalkSmall
import Derived.ChangeKeysEq
import Derived.StillTailTactics
import Derived.Lib.SliceRun
namespace Go.Proofs.Ytfonjkbdonbjdaa
open Go Go.RowKit

abbrev BgP (w : World) (p lo q : Nat) (L : List En) : Prop := Bg 64 w p lo q L
set_option maxHeartbeats 400000 in
theorem bgnew_any (w : World) : Calls Try.prog 9 #[] w fun e w' => e = .returned (.pointer (some ⟨w.heap.size, 0, none⟩)) ∧ BgP w' w.heap.size w.heap.size w.heap.size [] ∧ Below w.heap.size w w' := by
  have hA : (w.alloc (.cells #[.slice none 0 0] 64)).heap[w.heap.size]? = some (.cells #[.slice none 0 0] 64 (0, 0)) := heap_alloc_new w _
  have HR : Hid (BgP (w.alloc (.cells #[.slice none 0 0] 64)) w.heap.size w.heap.size w.heap.size []) := ⟨by simp, _, hA, World.ownsRow_nil _ _ _ _, by simp [Value.ownBlock], rfl⟩
  clear hA
  go_enter Try.func9, Try.ntmps9
  go_wp2
  go_ret
  exact ⟨rfl, HR.out, (Below.refl _ _).alloc (Nat.le_refl _) _⟩
set_option maxHeartbeats 400000 in
theorem bglen_nil (w : World) : Calls Try.prog 15 #[.pointer none] w fun e w' => e = .returned (.int .i64 0) ∧ w = w' := by
  go_enter Try.func15, Try.ntmps15
  go_wp2
  go_ret
  exact ⟨rfl, rfl⟩
set_option maxHeartbeats 400000 in
theorem bglen_any {w : World} {p lo q : Nat} {L : List En} (h : BgP w p lo q L) : Calls Try.prog 15 #[.pointer (some ⟨p, 0, none⟩)] w fun e w' => e = .returned (.int .i64 (L.length : Nat)) ∧ w = w' := by
  obtain ⟨A, cap, _, _, hrd⟩ := h.reads
  have hc := (hrd w (Below.refl _ _)).1
  generalize L.length = n at *
  clear h hrd
  go_enter Try.func15, Try.ntmps15
  go_wp2
  go_ret
  exact ⟨rfl, rfl⟩
/-- What Clone leaves. -/
def RowToE (w : World) (l : List En) (e : Ending) (w' : World) : Prop := ∃ v, e = .returned v ∧ w'.ownsRow w.heap.size 40 5 v l.length (encE l) ∧ Below w.heap.size w w'
set_option maxHeartbeats 400000 in
set_option maxRecDepth 100000 in
theorem cloneE_any {w : World} {A : Option Addr} {l : List En} (n cap : Nat) (hn : l.length = n) (hr : RowE w A l) (hA : A = none → n = 0 ∧ cap = 0) : Calls Try.prog 34 #[.slice A n cap] w (RowToE w l) := by
  have HRU : Hid (∀ v w', w'.ownsRow w.heap.size 40 5 v l.length (encE l) → Below w.heap.size w w' → RowToE w l (.returned v) w') := fun v w' a b => ⟨v, rfl, a, b⟩
  cases A with
  | none =>
    obtain ⟨rfl, rfl⟩ := hA rfl
    have h0 : l = [] := List.eq_nil_of_length_eq_zero hn
    subst h0
    have HE := Lib.hid (HRU.out (.slice none 0 0) w (World.ownsRow_nil _ _ _ _) (Below.refl _ _))
    obtain ⟨R, hR⟩ : ∃ R, RowToE w [] = R := ⟨_, rfl⟩
    rw [hR] at HE ⊢
    clear HRU hr hA hn hR
    have hnil : (binOp .eql 27 (.slice none 0 0) (.slice none 0 0)).run Try.prog w = .ok (.bool true) w := Lib.run_eql_slice_nil w 27 40 none 0 0 0 0 Try.underlying27
    go_enter Try.func34, Try.ntmps34
    go_wp2
    exact HE.out
  | some a =>
    obtain ⟨w1, hw1⟩ : ∃ w1, w.alloc (.cells #[] 40) = w1 := ⟨_, rfl⟩
    have hb1 : Below w.heap.size w w1 := by rw [← hw1]; exact (Below.refl _ _).alloc (Nat.le_refl _) _
    have ho1 : w1.ownsRow w.heap.size 40 5 (.slice (some ⟨w.heap.size, 0, none⟩) 0 0) ([] : List En).length (encE []) := by
      rw [← hw1]
      exact World.ownsRow_made w #[] 0 (Nat.le_refl _) (by simp) (by simp)
    obtain ⟨v', w', hrun, ho, hg, _⟩ := run_appE w1 w.heap.size _ [] ho1 (some a) n cap l hn (hr.below hb1) (fun h => by cases h) (by have := hr.1; simp; omega) hb1.size
    rw [List.nil_append] at ho
    have hb2 : Below w.heap.size w w' := hb1.trans (((Below.refl _ w1)).grown hg hb1.size (fun k e => by cases e; exact Nat.le_refl _))
    have HE := Lib.hid (HRU.out v' w' ho hb2)
    have HRUN := Lib.hid hrun
    obtain ⟨R, hR⟩ : ∃ R, RowToE w l = R := ⟨_, rfl⟩
    rw [hR] at HE ⊢
    obtain ⟨_, A', cap', rfl, _⟩ := rowE_of_own ho hr.1
    have hnil : (binOp .eql 27 (.slice (some a) n cap) (.slice none 0 0)).run Try.prog w = .ok (.bool false) w := Lib.run_eql_slice_nil w 27 40 (some a) n cap 0 0 Try.underlying27
    clear HRU hr hA hn hR hb1 ho1 hrun ho hg hb2
    go_enter Try.func34, Try.ntmps34
    go_wp2_with (first
      | (at_builtin; refine wpList_app rfl (.tmp 5) (.tmp 6) 27 rfl rfl rfl HRUN.out ?_))
    exact HE.out
set_option maxHeartbeats 400000 in
theorem bgall_nil (w : World) : Calls Try.prog 13 #[.pointer none] w fun e w' => e = .returned (.slice none 0 0) ∧ w = w' := by
  go_enter Try.func13, Try.ntmps13
  go_wp2
  go_ret
  exact ⟨rfl, rfl⟩
set_option maxHeartbeats 400000 in
theorem bgall_any {w : World} {p lo q : Nat} {L : List En} (h : BgP w p lo q L) : Calls Try.prog 13 #[.pointer (some ⟨p, 0, none⟩)] w (RowToE w L) := by
  obtain ⟨A, cap, _, hA, hrd⟩ := h.reads
  obtain ⟨hc, hr⟩ := hrd w (Below.refl _ _)
  have H := Lib.hid (cloneE_any L.length cap rfl hr hA)
  have HX : Hid (∀ e w', RowToE w L e w' → ∃ v, e = .returned v ∧ RowToE w L (.returned v) w') := fun e w' ⟨v, he, h1, h2⟩ => ⟨v, he, v, rfl, h1, h2⟩
  obtain ⟨R, hR⟩ : ∃ R, RowToE w L = R := ⟨_, rfl⟩
  rw [hR] at H HX ⊢
  generalize L.length = n at *
  clear h hrd hA hr hR
  go_enter Try.func13, Try.ntmps13
  go_wp2_with fail
  refine H.out.mono ?_
  rintro e w1 hh
  obtain ⟨v, rfl, hh⟩ := HX.out _ _ hh
  go_wp2
  exact hh
theorem En.ok_dec (e : En) : (!decide e.bad) = (decide (2 ≤ e.line) && decide (e.line < 258) && decide (0 ≤ e.cl) && decide (e.cl < 4) && decide (-1 ≤ e.anti) && decide (e.anti < 258)) := by
  rw [Bool.eq_iff_iff]
  simp only [Bool.not_eq_true', decide_eq_false_iff_not, Bool.and_eq_true, decide_eq_true_eq]
  unfold En.bad
  omega
set_option maxHeartbeats 800000 in
theorem isentry_any (e : En) (w : World) : Calls Try.prog 36 #[.agg #[.int .i64 e.line, .int .i64 e.cl, .int .u64 (e.r : Nat), .int .u64 (e.d : Nat), .int .i64 e.anti]] w fun x w' => x = .returned (.bool (!decide e.bad)) ∧ Below w.heap.size w w' := by
  rw [e.ok_dec]
  have HB : Hid (Below w.heap.size w (w.alloc (.cells #[.int .i64 e.line, .int .i64 e.cl, .int .u64 (e.r : Nat), .int .u64 (e.d : Nat), .int .i64 e.anti] 40))) := (Below.refl _ _).alloc (Nat.le_refl _) _
  generalize e.line = a at *
  generalize e.cl = b at *
  generalize e.anti = c at *
  generalize (e.r : Int) = d at *
  generalize (e.d : Int) = f at *
  clear e
  cases h0 : decide (2 ≤ a) with
  | false =>
    go_enter Try.func36, Try.ntmps36
    go_wp2
    go_ret
    exact ⟨by simp, HB.out⟩
  | true =>
    cases h1 : decide (a < 258) with
    | false =>
      go_enter Try.func36, Try.ntmps36
      go_wp2
      go_ret
      exact ⟨by simp, HB.out⟩
    | true =>
      cases h2 : decide (0 ≤ b) with
      | false =>
        go_enter Try.func36, Try.ntmps36
        go_wp2
        go_ret
        exact ⟨by simp, HB.out⟩
      | true =>
        cases h3 : decide (b < 4) with
        | false =>
          go_enter Try.func36, Try.ntmps36
          go_wp2
          go_ret
          exact ⟨by simp, HB.out⟩
        | true =>
          cases h4 : decide (-1 ≤ c) with
          | false =>
            go_enter Try.func36, Try.ntmps36
            go_wp2
            go_ret
            exact ⟨by simp, HB.out⟩
          | true =>
            cases h5 : decide (c < 258) with
            | false =>
              go_enter Try.func36, Try.ntmps36
              go_wp2
              go_ret
              exact ⟨by simp, HB.out⟩
            | true =>
              go_enter Try.func36, Try.ntmps36
              go_wp2
              go_ret
              exact ⟨by simp, HB.out⟩
set_option maxHeartbeats 800000 in
theorem isready_any {w : World} {p q : Nat} {L : List Nat} {now : Nat} (h : RdP w p q L now) (e : En) (D : Nat) :
    Calls Try.prog 54 #[.agg #[.int .i64 e.line, .int .i64 e.cl, .int .u64 (e.r : Nat), .int .u64 (e.d : Nat), .int .i64 e.anti], .pointer (some ⟨p, 0, none⟩), .int .u64 (D : Nat)] w fun x w' => x = .returned (.bool (readyB (quietB L) D e)) ∧ Below w.heap.size w w' := by
  have HB : Hid (Below w.heap.size w (w.alloc (.cells #[.int .i64 e.line, .int .i64 e.cl, .int .u64 (e.r : Nat), .int .u64 (e.d : Nat), .int .i64 e.anti] 40))) := (Below.refl _ _).alloc (Nat.le_refl _) _
  have HQ := Lib.hid (rdquiet_any (h.below HB.out) e.r)
  have hz : readyB (quietB L) D e = (quietB L e.r && decide ((e.d : Int) ≤ (D : Int))) := by simp [readyB]
  rw [hz]
  generalize quietB L e.r = b at *
  generalize e.line = x0 at *
  generalize e.cl = x1 at *
  generalize e.anti = x4 at *
  generalize (e.r : Int) = x2 at *
  generalize (e.d : Int) = x3 at *
  clear h hz
  cases b with
  | false =>
    go_enter Try.func54, Try.ntmps54
    go_wp2_with fail
    refine HQ.out.mono ?_
    rintro e w' ⟨rfl, rfl⟩
    go_wp2
    go_ret
    exact ⟨rfl, HB.out⟩
  | true =>
    go_enter Try.func54, Try.ntmps54
    go_wp2_with fail
    refine HQ.out.mono ?_
    rintro e w' ⟨rfl, rfl⟩
    go_wp2
    go_ret
    exact ⟨by simp, HB.out⟩

end Go.Proofs.Ytfonjkbdonbjdaa
