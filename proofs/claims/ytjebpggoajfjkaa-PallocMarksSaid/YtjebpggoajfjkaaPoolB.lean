/-
  Proved here: what package palloc's Of, Give and Mark answer and leave.
  Conditions: none.
-/
import Derived.Test.YtjebpggoajfjkaaPoolA
namespace Go.Proofs.Ytjebpggoajfjkaa
open Go Go.RowKit

theorem line_cases (n : Nat) (x : Int) : (slabOfN x < 0 ∨ (n : Int) ≤ slabOfN x) ∨ ∃ k j : Nat, k < n ∧ j < 8 ∧ x = 2 + 8 * (k : Int) + j := by
  rcases Classical.em (slabOfN x < 0 ∨ (n : Int) ≤ slabOfN x) with h | h
  · exact .inl h
  · right
    obtain ⟨h1, h2, h3⟩ := slabOfN_in (x := x) (by omega)
    exact ⟨((x - 2) / 8).toNat, ((x - 2) % 8).toNat, by omega, by omega, by omega⟩
theorem of_out {n : Nat} {L : List Tk} (h : Pool7 n L) {x : Int} (hx : slabOfN x < 0 ∨ (n : Int) ≤ slabOfN x) : ofL L x = none := ofL_none.2 fun t ht e => by
  have h1 := h.slab t ht
  have h2 := (home_cls (h.home t ht)).1
  rw [e] at h1 h2
  omega
theorem of_cls {n : Nat} {L : List Tk} (h : Pool7 n L) {x c : Int} (e : ofL L x = some c) : clsAt L (slabOfN x) = c := clsAt_mem h ((ofL_some h.rising).1 e)
theorem give_none {L : List Tk} {x : Int} (e : ofL L x = none) : giveL L x = L := List.filter_eq_self.2 fun t ht => by have := ofL_none.1 e t ht; simpa using this
set_option maxHeartbeats 400000 in
theorem of_nil (x : Int) (w : World) : Calls Try.prog 21 #[.pointer none, .int .i64 x] w fun e w' => e = .returned (.tuple #[.int .i64 0, .bool false]) ∧ w = w' := by
  have HF := Lib.hid (find_nil x w)
  go_enter Try.func21, Try.ntmps21
  go_wp2_with fail
  refine HF.out.mono ?_
  rintro e w' ⟨rfl, rfl⟩
  go_wp2
  go_ret2
  exact ⟨rfl, rfl⟩
set_option maxHeartbeats 400000 in
theorem of_any {w : World} {p q n : Nat} {L : List Tk} (h : PlP w p q n L) (x : Int) : Calls Try.prog 21 #[.pointer (some ⟨p, 0, none⟩), .int .i64 x] w fun e w' => e = .returned (.tuple #[.int .i64 ((ofL L x).getD 0), .bool (ofL L x).isSome]) ∧ ∃ m, w' = w.drewN m := by
  rcases line_cases n x with hx | ⟨k, j, hk, hj, hx⟩
  · have HF := Lib.hid (find_no h x hx)
    rw [of_out h.pool hx]
    show Calls _ _ _ _ fun e w' => e = .returned (.tuple #[.int .i64 0, .bool false]) ∧ ∃ m, w' = w.drewN m
    clear hx h
    go_enter Try.func21, Try.ntmps21
    go_wp2_with fail
    refine HF.out.mono ?_
    rintro e w' ⟨rfl, rfl⟩
    go_wp2
    go_ret2
    exact ⟨rfl, 0, rfl⟩
  · have HF := Lib.hid (find_yes h x k j hk hj hx)
    have ht := h.taken hk hj
    rw [← hx] at ht
    obtain ⟨z, hz, hc⟩ := h.cls hk
    have hsl : slabOfN x = k := by rw [hx]; exact line_slab (by have := h.most; omega) hj
    have hj2 : (j : Int) < 8 := by omega
    cases e : ofL L x with
    | none =>
      rw [e] at ht
      replace ht : w.cell? ⟨q, k * 9 + j, none⟩ = some (.bool false) := ht
      show Calls _ _ _ _ fun e w' => e = .returned (.tuple #[.int .i64 0, .bool false]) ∧ ∃ m, w' = w.drewN m
      clear hx h hc hz hsl e
      go_enter Try.func21, Try.ntmps21
      go_wp2_with fail
      refine HF.out.mono ?_
      rintro e w' ⟨rfl, m, rfl⟩
      go_wp2
      go_ret2
      exact ⟨rfl, m, rfl⟩
    | some c =>
      have h1 := of_cls h.pool e
      have h2 := (home_cls (h.pool.home _ ((ofL_some h.pool.rising).1 e))).2.2
      rw [e] at ht
      rw [hsl] at h1
      replace ht : w.cell? ⟨q, k * 9 + j, none⟩ = some (.bool true) := ht
      show Calls _ _ _ _ fun e w' => e = .returned (.tuple #[.int .i64 c, .bool true]) ∧ ∃ m, w' = w.drewN m
      obtain rfl : z = c := by rw [hc (by omega)]; exact h1
      clear hx h hc hsl e h1 h2
      go_enter Try.func21, Try.ntmps21
      go_wp2_with fail
      refine HF.out.mono ?_
      rintro e w' ⟨rfl, m, rfl⟩
      go_wp2
      go_ret2
      exact ⟨rfl, m, rfl⟩
set_option maxHeartbeats 400000 in
theorem give_nil (x : Int) (w : World) : Calls Try.prog 17 #[.pointer none, .int .i64 x] w fun e w' => e = .returned (.int .i64 1) ∧ w = w' := by
  have HF := Lib.hid (find_nil x w)
  go_enter Try.func17, Try.ntmps17
  go_wp2_with fail
  refine HF.out.mono ?_
  rintro e w' ⟨rfl, rfl⟩
  go_wp2
  go_ret
  exact ⟨rfl, rfl⟩
def giveE (L : List Tk) (x : Int) : Int := if (ofL L x).isSome then 0 else 1
theorem Turns.drewN {p q : Nat} {a w : World} (h : Turns p q a w) (m : Nat) : Turns p q a (w.drewN m) := ⟨h.os, h.tape, h.output, h.size, h.block⟩
theorem Turns.setCell_q {p q : Nat} {a w : World} (h : Turns p q a w) (o : Nat) (u : Value) : Turns p q a (w.setCell ⟨q, o, none⟩ u) :=
  h.trans ⟨rfl, rfl, rfl, by simp [World.setCell], fun k _ hk _ => Below.heap_setCell _ _ _ _ (by simpa using hk)⟩
set_option maxHeartbeats 400000 in
theorem give_any {w : World} {p q n : Nat} {L : List Tk} (h : PlP w p q n L) (x : Int) : Calls Try.prog 17 #[.pointer (some ⟨p, 0, none⟩), .int .i64 x] w fun e w' => e = .returned (.int .i64 (giveE L x)) ∧ PlP w' p q n (giveL L x) ∧ Turns p q w w' := by
  have HP := Lib.hid h
  rcases line_cases n x with hx | ⟨k, j, hk, hj, hx⟩
  · have HF := Lib.hid (find_no h x hx)
    have e := of_out h.pool hx
    rw [give_none e]
    unfold giveE
    rw [e]
    show Calls _ _ _ _ fun e w' => e = .returned (.int .i64 1) ∧ PlP w' p q n L ∧ Turns p q w w'
    clear hx h e
    go_enter Try.func17, Try.ntmps17
    go_wp2_with fail
    refine HF.out.mono ?_
    rintro e w' ⟨rfl, rfl⟩
    go_wp2
    go_ret
    exact ⟨rfl, HP.out, Turns.refl _ _ _⟩
  · have HF := Lib.hid (find_yes h x k j hk hj hx)
    have ht := h.taken hk hj
    rw [← hx] at ht
    have hfr := h.frozen (k * 9 + j)
    have hj2 : (j : Int) < 8 := by omega
    have HX := Lib.hid hx
    unfold giveE
    cases e : ofL L x with
    | none =>
      rw [e] at ht
      replace ht : w.cell? ⟨q, k * 9 + j, none⟩ = some (.bool false) := ht
      rw [give_none e]
      show Calls _ _ _ _ fun e w' => e = .returned (.int .i64 1) ∧ PlP w' p q n L ∧ Turns p q w w'
      clear hx h e hfr
      go_enter Try.func17, Try.ntmps17
      go_wp2_with fail
      refine HF.out.mono ?_
      rintro e w' ⟨rfl, m, rfl⟩
      go_wp2
      go_ret
      exact ⟨rfl, HP.out.drewN m, (Turns.refl _ _ _).drewN m⟩
    | some c =>
      rw [e] at ht
      replace ht : w.cell? ⟨q, k * 9 + j, none⟩ = some (.bool true) := ht
      show Calls _ _ _ _ fun e w' => e = .returned (.int .i64 0) ∧ PlP w' p q n (giveL L x) ∧ Turns p q w w'
      clear hx h e
      go_enter Try.func17, Try.ntmps17
      go_wp2_with fail
      refine HF.out.mono ?_
      rintro e w' ⟨rfl, m, rfl⟩
      go_wp2
      go_ret
      exact ⟨rfl, (HP.out.drewN m).give hk hj HX.out, ((Turns.refl _ _ _).drewN m).setCell_q _ _⟩
set_option maxHeartbeats 400000 in
theorem mark_nil (x c : Int) (w : World) : Calls Try.prog 19 #[.pointer none, .int .i64 x, .int .i64 c] w fun e w' => e = .returned (.int .i64 1) ∧ w = w' := by
  have HF := Lib.hid (find_nil x w)
  go_enter Try.func19, Try.ntmps19
  go_wp2_with fail
  refine HF.out.mono ?_
  rintro e w' ⟨rfl, rfl⟩
  go_wp2
  go_ret
  exact ⟨rfl, rfl⟩
def markL (n : Nat) (L : List Tk) (x c : Int) : List Tk := if markE n L x c = 0 then putL L x c else L
theorem markE_out {n : Nat} {L : List Tk} {x c : Int} (hx : slabOfN x < 0 ∨ (n : Int) ≤ slabOfN x) : markE n L x c = 1 := by
  unfold markE
  rw [if_pos]
  rcases hx with h | h
  · exact .inl (homeN_no (.inl h))
  · exact .inr h
/-- What is behind a mark that is not refused outright. -/
def MarkTo (w : World) (p q n : Nat) (L : List Tk) (x c : Int) (e : Ending) (w' : World) : Prop := e = .returned (.int .i64 (markE n L x c)) ∧ PlP w' p q n (markL n L x c) ∧ Turns p q w w'
set_option maxHeartbeats 800000 in
theorem mark_any {w : World} {p q n : Nat} {L : List Tk} (h : PlP w p q n L) (x c : Int) : Calls Try.prog 19 #[.pointer (some ⟨p, 0, none⟩), .int .i64 x, .int .i64 c] w (MarkTo w p q n L x c) := by
  have HP := Lib.hid h
  have HNO : Hid (∀ (v : Int) (m : Nat), v ≠ 0 → markE n L x c = v → MarkTo w p q n L x c (.returned (.int .i64 v)) (w.drewN m)) := fun v m hv e => by
    refine ⟨by rw [e], ?_, (Turns.refl _ _ _).drewN m⟩
    unfold markL
    rw [if_neg (by omega)]
    exact HP.out.drewN m
  rcases line_cases n x with hx | ⟨k, j, hk, hj, hx⟩
  · have HF := Lib.hid (find_no h x hx)
    have HE := Lib.hid (HNO.out 1 0 (by omega) (markE_out hx))
    obtain ⟨R, hR⟩ : ∃ R, MarkTo w p q n L x c = R := ⟨_, rfl⟩
    rw [hR] at HE ⊢
    clear hx h HNO hR
    go_enter Try.func19, Try.ntmps19
    go_wp2_with fail
    refine HF.out.mono ?_
    rintro e w' ⟨rfl, rfl⟩
    go_wp2
    exact HE.out
  · have HF := Lib.hid (find_yes h x k j hk hj hx)
    have HH := Lib.hid (fun w' => home_any x c w')
    have hn := h.most
    have hsl : slabOfN x = k := by rw [hx]; exact line_slab (by omega) hj
    have HEM : Hid (∀ m, Calls Try.prog 42 #[.pointer (some ⟨q, k * 9, none⟩)] (w.drewN m) fun e w' => e = .returned (.bool (clsAt L k == -1)) ∧ w.drewN m = w') := fun m => isempty_any (h.drewN m) hk
    have ht := h.taken hk hj
    rw [← hx] at ht
    have hfr := h.frozen (k * 9 + j)
    have hfc := h.frozen (k * 9 + 8)
    have hj2 : (j : Int) < 8 := by omega
    obtain ⟨z, hz, hc⟩ := h.cls hk
    have hrg := clsAt_range h.pool k
    have HM : Hid (markE n L x c = if homeN x c = false then 1 else if (ofL L x).isSome ∨ (0 ≤ clsAt L k ∧ clsAt L k ≠ c) then 7 else 0) := by
      show _ = _
      unfold markE
      rw [hsl]
      by_cases hh : homeN x c = false
      · rw [if_pos (.inl hh), if_pos hh]
      · rw [if_neg (by rintro (h1 | h1); exact hh h1; omega), if_neg hh]
    have HYES : Hid (markE n L x c = 0 → ∀ m, MarkTo w p q n L x c (.returned (.int .i64 0)) (((w.drewN m).setCell ⟨q, k * 9 + 8, none⟩ (.int .i64 c)).setCell ⟨q, k * 9 + j, none⟩ (.bool true))) := fun e m => by
      refine ⟨by rw [e], ?_, (((Turns.refl _ _ _).drewN m).setCell_q _ _).setCell_q _ _⟩
      unfold markL
      rw [if_pos e]
      exact (HP.out.drewN m).put hk hj hx e
    obtain ⟨R, hR⟩ : ∃ R, MarkTo w p q n L x c = R := ⟨_, rfl⟩
    rw [hR] at HNO HYES ⊢
    generalize homeN x c = hm at *
    generalize clsAt L k = cl at *
    generalize markE n L x c = me at *
    generalize (ofL L x).isSome = tk at *
    clear hx h hR hsl HP
    cases hm with
    | false =>
      have HE := Lib.hid (fun m => HNO.out 1 m (by omega) (by rw [HM.out]; rfl))
      clear HM HYES HNO HEM hc hz ht hfr hfc
      go_enter Try.func19, Try.ntmps19
      go_wp2_with fail
      refine HF.out.mono ?_
      rintro e w' ⟨rfl, m, rfl⟩
      go_wp2_with fail
      refine (HH.out _).mono ?_
      rintro e w' ⟨rfl, rfl⟩
      go_wp2
      exact HE.out m
    | true =>
      rcases Classical.em (cl = -1) with he | he
      · have hcl : (cl == -1) = true := by simpa using he
        cases tk with
        | true =>
          have HE := Lib.hid (fun m => HNO.out 7 m (by omega) (by rw [HM.out]; simp))
          clear HM HYES HNO hc hz hfr hfc he hrg
          go_enter Try.func19, Try.ntmps19
          go_wp2_with fail
          refine HF.out.mono ?_
          rintro e w' ⟨rfl, m, rfl⟩
          go_wp2_with fail
          refine (HH.out _).mono ?_
          rintro e w' ⟨rfl, rfl⟩
          go_wp2_with fail
          refine (HEM.out _).mono ?_
          rintro e w' ⟨rfl, rfl⟩
          go_wp2
          exact HE.out m
        | false =>
          have HE := Lib.hid (HYES.out (by rw [HM.out, he]; simp))
          clear HM HYES HNO hc he hrg
          go_enter Try.func19, Try.ntmps19
          go_wp2_with fail
          refine HF.out.mono ?_
          rintro e w' ⟨rfl, m, rfl⟩
          go_wp2_with fail
          refine (HH.out _).mono ?_
          rintro e w' ⟨rfl, rfl⟩
          go_wp2_with fail
          refine (HEM.out _).mono ?_
          rintro e w' ⟨rfl, rfl⟩
          go_wp2
          go_region
          go_wp2
          exact HE.out (m + 1)
      · have hcl : (cl == -1) = false := by simpa using he
        obtain rfl := hc he
        have h0 : 0 ≤ z := by omega
        rcases Classical.em (z = c) with hzc | hzc
        · have hne : (z != c) = false := by simpa using hzc
          cases tk with
          | true =>
            have HE := Lib.hid (fun m => HNO.out 7 m (by omega) (by rw [HM.out]; simp))
            clear HM HYES HNO hc hfr hfc he hrg hzc h0
            go_enter Try.func19, Try.ntmps19
            go_wp2_with fail
            refine HF.out.mono ?_
            rintro e w' ⟨rfl, m, rfl⟩
            go_wp2_with fail
            refine (HH.out _).mono ?_
            rintro e w' ⟨rfl, rfl⟩
            go_wp2_with fail
            refine (HEM.out _).mono ?_
            rintro e w' ⟨rfl, rfl⟩
            go_wp2
            exact HE.out m
          | false =>
            have HE := Lib.hid (HYES.out (by rw [HM.out, hzc]; simp))
            clear HM HYES HNO hc he hrg hzc h0
            go_enter Try.func19, Try.ntmps19
            go_wp2_with fail
            refine HF.out.mono ?_
            rintro e w' ⟨rfl, m, rfl⟩
            go_wp2_with fail
            refine (HH.out _).mono ?_
            rintro e w' ⟨rfl, rfl⟩
            go_wp2_with fail
            refine (HEM.out _).mono ?_
            rintro e w' ⟨rfl, rfl⟩
            go_wp2
            go_region
            go_wp2
            exact HE.out (m + 1)
        · have hne : (z != c) = true := by simpa using hzc
          have HE := Lib.hid (fun m => HNO.out 7 m (by omega) (by rw [HM.out, if_neg (by simp), if_pos (.inr ⟨h0, hzc⟩)]))
          clear HM HYES HNO hc hfr hfc he hrg hzc h0 ht
          go_enter Try.func19, Try.ntmps19
          go_wp2_with fail
          refine HF.out.mono ?_
          rintro e w' ⟨rfl, m, rfl⟩
          go_wp2_with fail
          refine (HH.out _).mono ?_
          rintro e w' ⟨rfl, rfl⟩
          go_wp2_with fail
          refine (HEM.out _).mono ?_
          rintro e w' ⟨rfl, rfl⟩
          go_wp2
          exact HE.out m

end Go.Proofs.Ytjebpggoajfjkaa
