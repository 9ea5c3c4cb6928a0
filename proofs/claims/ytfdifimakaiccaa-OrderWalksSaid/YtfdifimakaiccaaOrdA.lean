/-
  Proved here: what the order's New, links, find, Len and All answer.
  Conditions: at most 2^20 links.
-/
import Derived.Test.YtfdifimakaiccaaCmp13
import Derived.Lib.SliceRun
namespace Go.Proofs.Ytfdifimakaiccaa
open Go Go.RowKit
set_option maxRecDepth 100000

set_option maxHeartbeats 400000 in
theorem odnew_any (w : World) : Calls Try.prog 10 #[] w fun e w' => e = .returned (.pointer (some ⟨w.heap.size, 0, none⟩)) ∧ Od w' w.heap.size (fun _ => .slice none 0 0) [] ∧ Below w.heap.size w w' := by
  have HR := Lib.hid (od_new w)
  go_enter Try.func10, Try.ntmps10
  go_wp2
  go_ret
  exact ⟨rfl, HR.out, (Below.refl _ _).alloc (Nat.le_refl _) _⟩
/-- The slice of a level (levels from 1). -/
def lvAt (v : Nat → Value) (lv : Int) : Value := if 1 ≤ lv ∧ lv ≤ 4 then v (lv - 1).toNat else .slice none 0 0
def lvL (L : List Ln) (lv : Int) : List Ln := if 1 ≤ lv ∧ lv ≤ 4 then lev (lv - 1).toNat L else []
set_option maxHeartbeats 400000 in
theorem odlinks_nil (lv : Int) (w : World) : Calls Try.prog 28 #[.pointer none, .int .i64 lv] w fun e w' => e = .returned (.slice none 0 0) ∧ w = w' := by
  go_enter Try.func28, Try.ntmps28
  go_wp2
  go_ret
  exact ⟨rfl, rfl⟩
set_option maxHeartbeats 400000 in
theorem odlinks_any {w : World} {p : Nat} {v : Nat → Value} {M : Nat → List Ln} (h : Ro w p v M) (lv : Int) : Calls Try.prog 28 #[.pointer (some ⟨p, 0, none⟩), .int .i64 lv] w fun e w' => e = .returned (lvAt v lv) ∧ w = w' := by
  by_cases h0 : lv < 1
  · have hm : lvAt v lv = .slice none 0 0 := by unfold lvAt; rw [if_neg (by omega)]
    rw [hm]
    have h0' : decide (lv < 1) = true := by simp [h0]
    clear h hm h0
    go_enter Try.func28, Try.ntmps28
    go_wp2
    go_ret
    exact ⟨rfl, rfl⟩
  · have h0' : decide (lv < 1) = false := by simp [h0]
    by_cases h8 : 4 < lv
    · have hm : lvAt v lv = .slice none 0 0 := by unfold lvAt; rw [if_neg (by omega)]
      rw [hm]
      have h8' : decide (4 < lv) = true := by simp [h8]
      clear h hm h0 h8
      go_enter Try.func28, Try.ntmps28
      go_wp2
      go_ret
      exact ⟨rfl, rfl⟩
    · obtain ⟨n, rfl⟩ : ∃ n : Nat, lv = (n : Int) + 1 := ⟨(lv - 1).toNat, by omega⟩
      have hm : lvAt v ((n : Int) + 1) = v n := by unfold lvAt; rw [if_pos (by omega)]; congr 1; omega
      rw [hm]
      have h8' : decide (4 < (n : Int) + 1) = false := by simp; omega
      have hc := h.cell (i := n) (by omega)
      have hn4 : n < 4 := by omega
      have hw : IntKind.i64.wrap ((n : Int) + 1 - 1) = (n : Int) := by rw [IntKind.wrap_i64]; omega
      have hs : (n : Int) + 1 - 1 = (n : Int) := by omega
      clear h hm h0 h8
      go_enter Try.func28, Try.ntmps28
      go_wp2
      go_ret
      exact ⟨rfl, rfl⟩
theorem lv_row {w : World} {p : Nat} {v : Nat → Value} {L : List Ln} (h : Od w p v L) (hl : L.length ≤ 1048576) (lv : Int) : ∃ A cap, lvAt v lv = .slice A (lvL L lv).length cap ∧ (A = none → (lvL L lv).length = 0 ∧ cap = 0) ∧ RowL w A (lvL L lv) := by
  unfold lvAt lvL
  split
  · obtain ⟨A, cap, e, _, h2, h3⟩ := h.ro.reads (i := (lv - 1).toNat) (by omega) (Nat.le_trans (lev_len _ _) hl)
    exact ⟨A, cap, e, h2, h3⟩
  · exact ⟨none, 0, rfl, fun _ => ⟨rfl, rfl⟩, rowL_nil _ _⟩
theorem lvL_rises {L : List Ln} (h : RisesK L) (lv : Int) : RisesK (lvL L lv) := by
  unfold lvL
  split
  · exact lev_rises h _
  · exact risesK_nil
theorem lvL_right {L : List Ln} (h : RisesK L) (lv : Int) (pos : Ky) (past : Bool) : (lvL L lv)[(lvL L lv).countP fun x => skipB pos past x.k]? = rightT L lv pos past := by
  unfold lvL
  split
  · rename_i hl
    have := right_at h (lv - 1).toNat pos past
    rwa [show (((lv - 1).toNat : Nat) : Int) + 1 = lv by omega] at this
  · rw [right_none L lv pos past (by omega)]
    rfl
theorem lvL_one (L : List Ln) : lvL L 1 = L := by
  unfold lvL
  rw [if_pos (by omega)]
  exact lev_zero L
theorem isAt_has {M : List Ln} (h : RisesK M) (s : ByteArray) : isAt (byK s) M (posT M s.data.toList) = hasT M s.data.toList := by
  cases hk : hasT M s.data.toList with
  | true =>
    obtain ⟨y, hy, e⟩ := pos_yes h hk
    unfold isAt
    rw [hy]
    show (Lib.compareBytes y.k s.data.toList == 0) = true
    rw [cmp_eq, e]
    simp
  | false =>
    unfold isAt
    split
    · rename_i y hy
      have hl := pos_no h hk hy
      show (Lib.compareBytes y.k s.data.toList == 0) = false
      rw [cmp_eq]
      have := lessK_ne hl
      simp
      exact fun e => this e.symm
    · rfl
set_option maxHeartbeats 400000 in
theorem odfind_any {w : World} {A : Option Addr} {l : List Ln} (n cap : Nat) (hn : l.length = n) (hr : RowL w A l) (hri : RisesK l) (s : ByteArray) :
    Calls Try.prog 23 #[.slice A n cap, .string s] w fun e w' => e = .returned (.tuple #[.int .i64 (posT l s.data.toList : Nat), .bool (hasT l s.data.toList)]) ∧ Below w.heap.size w w' := by
  have eg : ∀ args w, (callFunc 33 args).run Try.prog w = .ok (.enter 33 args) w := enters_of Try.func33 (by kernel_rfl) rfl
  have hlt : ∀ x : Ln, decide (byK s x < 0) = Op.bytesLess x.k s.data.toList := fun x => cmp_lt _ _
  have hm : l.Pairwise fun a b => byK s b < 0 → byK s a < 0 := hri.imp fun {a b} hab hb => by
    have h1 := hlt a
    have h2 := hlt b
    rw [decide_eq_true hb] at h2
    rw [lessK_trans hab h2.symm] at h1
    exact of_decide_eq_true h1
  have HS := search_any n cap hn hr s 33 #[] #[] (byK s) rfl eg (fun W _ x => find1_any x s W) hm
  have hcnt : (l.countP fun x => decide (byK s x < 0)) = posT l s.data.toList := by
    unfold posT
    congr 1
    funext x
    exact hlt x
  rw [hcnt, isAt_has hri] at HS
  have H := Lib.hid HS
  generalize posT l s.data.toList = c at *
  generalize hasT l s.data.toList = b at *
  clear HS hcnt hm hlt eg hr hri
  go_enter Try.func23, Try.ntmps23
  go_wp2_with (go_at_call 29; refine H.out.mono ?_; rintro e w' ⟨rfl, hb⟩)
  go_ret2
  exact ⟨rfl, hb⟩
set_option maxHeartbeats 400000 in
theorem odlen_of {w : World} {q A : Option Addr} {n cap : Nat} (hlk : Calls Try.prog 28 #[.pointer q, .int .i64 1] w fun e w2 => e = .returned (.slice A n cap) ∧ w = w2) :
    Calls Try.prog 17 #[.pointer q] w fun e w' => e = .returned (.int .i64 (n : Nat)) ∧ w = w' := by
  have H := Lib.hid hlk
  clear hlk
  go_enter Try.func17, Try.ntmps17
  go_wp2_with (go_at_call 28; refine H.out.mono ?_; rintro e w' ⟨rfl, rfl⟩)
  go_ret
  exact ⟨rfl, rfl⟩
theorem odlen_any {w : World} {p : Nat} {v : Nat → Value} {L : List Ln} (h : Od w p v L) (hl : L.length ≤ 1048576) :
    Calls Try.prog 17 #[.pointer (some ⟨p, 0, none⟩)] w fun e w' => e = .returned (.int .i64 (L.length : Nat)) ∧ w = w' := by
  obtain ⟨A, cap, e, -, -⟩ := lv_row h hl 1
  have := odlinks_any h.ro 1
  rw [e] at this
  have h2 := odlen_of this
  rwa [lvL_one] at h2
/-- What All leaves. -/
def AllTo (L : List Ln) (w : World) (e : Ending) (w' : World) : Prop := ∃ g cap, e = .returned (.slice (some ⟨g, 0, none⟩) L.length cap) ∧ w'.ownsRow w.heap.size 33 5 (.slice (some ⟨g, 0, none⟩) L.length cap) L.length (encL L) ∧ Below w.heap.size w w'
theorem own_empty (w : World) : (w.alloc (.cells #[] 33)).ownsRow w.heap.size 33 5 (.slice (some ⟨w.heap.size, 0, none⟩) 0 0) 0 [] :=
  ⟨rfl, .inr ⟨w.heap.size, 0, #[], rfl, Nat.le_refl _, heap_alloc_new w _, Nat.le_refl _, Nat.zero_le _, rfl, rfl⟩⟩
set_option maxHeartbeats 800000 in
theorem odall_of {w : World} {q A : Option Addr} {cap : Nat} {L : List Ln} (n : Nat) (hn : L.length = n) (hr : RowL w A L) (hA : A = none → n = 0 ∧ cap = 0) (hl : L.length ≤ 1048576) (hlk : ∀ w', Below w.heap.size w w' → Calls Try.prog 28 #[.pointer q, .int .i64 1] w' fun e w2 => e = .returned (.slice A n cap) ∧ w' = w2) :
    Calls Try.prog 18 #[.pointer q] w (AllTo L w) := by
  subst hn
  have hb0 : Below w.heap.size w (w.alloc (.cells #[] 33)) := (Below.refl _ _).alloc (Nat.le_refl _) _
  have H := Lib.hid (hlk _ hb0)
  obtain ⟨v', w', h1, h2, h3, h4⟩ := run_appL (w.alloc (.cells #[] 33)) w.heap.size (.slice (some ⟨w.heap.size, 0, none⟩) 0 0) [] (own_empty w) A L.length cap L rfl (hr.below hb0) hA (by simp; omega) (by simp)
  have hv : ∃ g cap', v' = .slice (some ⟨g, 0, none⟩) L.length cap' := by
    rcases h2.2 with ⟨e, _⟩ | ⟨g, c, cur, e, _⟩
    · rw [e] at h4
      rcases h4 with h4 | h4 <;> cases h4
    · exact ⟨g, c, by rw [e]; simp⟩
  obtain ⟨g, c, rfl⟩ := hv
  have E1 := Lib.hid h1
  have HFIN : Hid (AllTo L w (.returned (.slice (some ⟨g, 0, none⟩) L.length c)) w') := ⟨g, c, rfl, by simpa using h2, hb0.grown h3 (by simp) (fun j hj => by cases hj; exact Nat.le_refl _)⟩
  generalize AllTo L w = R at *
  clear h1 h2 h3 h4 hr hl hlk hb0 hA
  go_enter Try.func18, Try.ntmps18
  go_wp2_with (first
    | (go_at_call 28; refine H.out.mono ?_; rintro e w' ⟨rfl, rfl⟩)
    | (at_builtin; refine wpList_app rfl (.tmp 3) (.tmp 5) 28 rfl rfl rfl E1.out ?_))
  exact HFIN.out
theorem odall_any {w : World} {p : Nat} {v : Nat → Value} {L : List Ln} (h : Od w p v L) (hl : L.length ≤ 1048576) : Calls Try.prog 18 #[.pointer (some ⟨p, 0, none⟩)] w (AllTo L w) := by
  obtain ⟨A, cap, e, hA, hr⟩ := lv_row h hl 1
  rw [lvL_one] at e hA hr
  exact odall_of L.length rfl hr hA hl fun w' hb => by
    have := odlinks_any (h.below hb).ro 1
    rwa [e] at this

end Go.Proofs.Ytfdifimakaiccaa
