/-
Proved here: LimboFull, for every number: there is room for 258 entries, and no more.
  Conditions: none.
-/
import Derived.Test.YtfonjkbdonbjdaaRows
import Derived.Test.YtfonjkbdonbjdaaEntry10
import Derived.Test.YtfonjkbdonbjdaaLent
import Derived.IntWalk
import Derived.WalkSmall
import Derived.Deep.QuietTactic
import Derived.BigQuiet
import Derived.WalkKit
import Derived.ProofKit
import Derived.OpenShut
import Derived.ShutString
import Derived.ChangeOld
import Derived.Below
namespace Go.Proofs.Ytfonjkbdonbjdaa.limboFull
open Go.ChangeShapes Go.WideShapes Go.ChangeAt Go.RowKit
open Go.ChangeMaps (open_string shut_string)
set_option linter.unusedVariables false

theorem own : ownKnob Try.prog.godebug = none := by kernel_rfl
theorem laidOut : laidOutB Try.prog = true := by kernel_rfl

/-- A bag behind a world w0 of g blocks. -/
structure Bo (w0 : World) (g : Nat) (w : World) (p q : Nat) (L : List En) : Prop where
  bg : BgP w p g q L
  bel : Below g w0 w
  sz : w0.heap.size = g
  gp : g ≤ p
  gq : g ≤ q
theorem Bo.gw {w0 w : World} {g p q : Nat} {L : List En} (h : Bo w0 g w p q L) : g ≤ w.heap.size := by have := h.bel.size; have := h.sz; omega
theorem Bo.below {w0 w w' : World} {g p q : Nat} {L : List En} (h : Bo w0 g w p q L) (hb : Below w.heap.size w w') : Bo w0 g w' p q L := ⟨h.bg.below hb, h.bel.trans (hb.mono h.gw), h.sz, h.gp, h.gq⟩
theorem Bo.moved {w0 w w' : World} {g p q : Nat} {L L' : List En} (h : Bo w0 g w p q L) (hb : BgTo w p g q L' w') : ∃ q', Bo w0 g w' p q' L' := by
  obtain ⟨q', h1, h2, h3⟩ := hb
  refine ⟨q', h1, h.bel.trans (h2.below h.gp h.gq h.gw), h.sz, h.gp, ?_⟩
  rcases h3 with e | e
  · rw [e]; exact h.gq
  · exact Nat.le_trans h.gw e
theorem put_len (L : List En) (i : Nat) (h : L.length = min i 258) (e : En) (he : ¬ e.bad) : putE L e = (if i < 258 then 0 else 11) ∧ (putB L e).length = min (i + 1) 258 := by
  rcases Nat.lt_or_ge i 258 with h1 | h1
  · have hE : putE L e = 0 := putE_ok.2 ⟨he, by omega⟩
    refine ⟨by rw [hE, if_pos h1], ?_⟩
    unfold putB
    rw [if_pos hE, List.length_append, List.length_singleton]
    omega
  · have hE : putE L e = 11 := by unfold putE; rw [if_neg he, if_pos (by omega)]
    refine ⟨by rw [hE, if_neg (by omega)], ?_⟩
    unfold putB
    rw [hE]
    simp
    omega
set_option maxHeartbeats 1600000 in
set_option maxRecDepth 100000 in
theorem walk (a0 : Int) (w : World) (_ : (Lit.int .i64 a0).wf = true) :
    Calls Try.prog 6 #[.int .i64 a0] w fun y w' => y = .returned (.bool true) ∧ Below w.heap.size w w' := by
  have HLW : Hid (Calls Try.prog 25 #[.int .i64 a0, .int .i64 300] w fun e w' => e = .returned (.int .i64 (low a0 300 : Nat)) ∧ w = w') := low_any a0 300 w (by omega) (by omega)
  have hlow : low a0 300 < 300 := low_lt a0 (n := 300) (by omega)
  generalize low a0 300 = n at *
  have HN := Lib.hid (bgnew_any w)
  have HAW := Lib.hid (fun w1 => awake_any w1)
  have HLN : Hid (∀ w1 p q L, BgP w1 p w.heap.size q L → Calls Try.prog 15 #[.pointer (some ⟨p, 0, none⟩)] w1 fun e w' => e = .returned (.int .i64 (L.length : Nat)) ∧ w1 = w') := fun w1 p q L h => bglen_any h
  obtain ⟨g, hg⟩ : ∃ g, w.heap.size = g := ⟨_, rfl⟩
  have HG := Lib.hid hg
  rw [hg] at HN HLN ⊢
  clear hg
  go_enter Try.func6, Try.ntmps6
  go_wp2_with fail
  refine HLW.out.mono ?_
  rintro y w' ⟨rfl, rfl⟩
  go_wp2_with fail
  refine HN.out.mono ?_
  rintro y w1 ⟨rfl, hb1, hl1⟩
  have HB1 : Hid (Bo w g w1 g g []) := ⟨hb1, hl1, HG.out, Nat.le_refl _, Nat.le_refl _⟩
  clear hb1 hl1
  go_wp2
  go_loopg [5] n (fun gk s5 wx => ∃ (i q : Nat) (L : List En), i + gk = n ∧ s5 = .int .i64 i ∧ Hid (L.length = min i 258) ∧ Hid (Bo w g wx g q L))
  case atStart => exact ⟨0, g, [], by omega, rfl, rfl, HB1⟩
  case round =>
    obtain ⟨i, q, L, hin, rfl, HL, HB⟩ := hrel
    cases gk with
    | zero =>
      obtain rfl : i = n := by omega
      have hii : ¬ (i : Int) < (i : Int) := by omega
      have HX := HLN.out _ _ _ _ HB.out.bg
      rw [HL.out] at HX
      have HXX := Lib.hid HX
      clear HX
      go_wp2_with fail
      refine HXX.out.mono ?_
      rintro y w2 ⟨rfl, rfl⟩
      have hmn : ((min i 258 : Nat) : Int) = min (i : Int) 258 := by omega
      go_wp2_with (first
        | ((with_reducible show Calls _ 8 _ _ _); refine (HAW.out _).mono ?_; rintro y w9 ⟨rfl, hb9⟩; have HB9 := Lib.hid (HB.out.below hb9); clear hb9)
        | fail)
      all_goals
        go_ret
        exact ⟨rfl, HB9.out.bel⟩
    | succ gk =>
      have hii : (i : Int) < (n : Int) := by omega
      have hu : IntKind.u64.wrap (i : Int) = (i : Int) := by
        simp [IntKind.wrap, IntKind.signed, IntKind.bits]
        omega
      have HPL : Hid (Calls Try.prog 24 #[.int .u64 (i : Nat), .int .u64 1] wr fun y w' => y = .returned (.agg #[.int .i64 2, .int .i64 0, .int .u64 (i : Nat), .int .u64 1, .int .i64 (-1)]) ∧ Below wr.heap.size wr w') := plain_any i 1 wr
      obtain ⟨hE, hLN⟩ := put_len L i HL.out (plainE i 1) (by simp [En.bad, plainE])
      have HPU : Hid (∀ wx, Bo w g wx g q L → Calls Try.prog 18 #[.pointer (some ⟨g, 0, none⟩), .agg #[.int .i64 2, .int .i64 0, .int .u64 (i : Nat), .int .u64 1, .int .i64 (-1)]] wx fun x w' => x = .returned (.int .i64 (if i < 258 then 0 else 11)) ∧ BgTo wx g g q (putB L (plainE i 1)) w') := fun wx h => by
        rw [← hE]
        exact bgput_any h.bg h.gw (plainE i 1)
      have HLN2 := Lib.hid hLN
      clear hE hLN
      generalize putB L (plainE i 1) = L' at *
      rcases Nat.lt_or_ge i 258 with h1 | h1
      · rw [if_pos h1] at HPU
        have h1' : (i : Int) < 258 := by omega
        go_wp2_with fail
        refine HPL.out.mono ?_
        rintro y w2 ⟨rfl, hb2⟩
        have HB2 := Lib.hid (HB.out.below hb2)
        clear hb2
        go_wp2_with fail
        refine (HPU.out _ HB2.out).mono ?_
        rintro y w3 ⟨rfl, hb3⟩
        obtain ⟨q3, hb3⟩ := HB2.out.moved hb3
        have HB3 := Lib.hid hb3
        clear hb3
        go_wp2
        go_roundg gk
        case measure => omega
        case rel => exact ⟨i + 1, q3, L', by omega, by go_num, HLN2, HB3⟩
      · rw [if_neg (by omega)] at HPU
        have h1' : ¬ (i : Int) < 258 := by omega
        go_wp2_with fail
        refine HPL.out.mono ?_
        rintro y w2 ⟨rfl, hb2⟩
        have HB2 := Lib.hid (HB.out.below hb2)
        clear hb2
        go_wp2_with fail
        refine (HPU.out _ HB2.out).mono ?_
        rintro y w3 ⟨rfl, hb3⟩
        obtain ⟨q3, hb3⟩ := HB2.out.moved hb3
        have HB3 := Lib.hid hb3
        clear hb3
        go_wp2
        go_roundg gk
        case measure => omega
        case rel => exact ⟨i + 1, q3, L', by omega, by go_num, HLN2, HB3⟩

set_option maxRecDepth 100000 in
theorem lifted (os : Os) (started : os.Started) (H : Type) (enc : TypeId × Value → H) :
    ReturnsInHanded {} Try.checked os 6 .any (Rows.limboFullSpec.pre6 enc Try.prog Try.f6 Rows.limboFullRow.domain false) (Rows.limboFullSpec.post enc Try.prog Try.f6 false true false false) := by
  refine returnsInHanded_of_change (C := Try.checked) own started (by kernel_rfl) Try.func6
    (ChangeSpec.witness6 (enc := enc) (C := Try.checked) false ⟨#[], #[.int .i64 0], []⟩ 8 (by kernel_rfl) (by kernel_rfl) (by kernel_rfl) (by kernel_rfl)) ?_
  intro W base args ds gs before hval0 hW hcnd _
  have hval : ∀ (j : Nat) t v, Try.f6.params[j]? = some t → args[j]? = some v → Value.okWide Try.prog W .any base t v := hval0
  have hW' := hW
  obtain ⟨p, q, hA0, hV, rfl, hfz, hnd⟩ := hW
  have hA : DataW.TrodAll enc Try.prog W 0 (fun _ => true) true Try.f6.params.toList args.toList ds p := hA0
  rw [Try.params6] at hA hval
  obtain ⟨v0, vs0, d0, ds0, p0, q0, hargs, rfl, rfl, h0, r0⟩ := trodAll_cons hA
  obtain ⟨rfl, rfl, rfl⟩ := trodAll_nil r0
  obtain rfl : args = #[v0] := by cases args; simp_all
  obtain ⟨rfl, rfl⟩ := trodVars_none hV
  obtain ⟨a0, rfl, rfl, rfl, w0⟩ := open_int Try.underlying3 (hval 0 3 v0 rfl rfl) h0
  clear hA0 hval0
  refine (walk a0 W w0).mono fun e W' ⟨he, bel⟩ => ?_
  subst he
  exact ⟨_, rfl, _, _, _, [], _, [], hW', trodAll_mk1 (shut_bool Try.underlying4 _), (trodAll_cons_mk (shut_int Try.underlying3 w0) trodAll_mk0), rfl, bel.frame _, fun h => by cases h⟩

theorem over : Rows.limboFullRow.holds Try.pinned (OpenSpec.ofChange Rows.limboFullSpec) :=
  OpenClaim.holds_of_wide 6 Try.f6 rfl rfl rfl rfl rfl rfl rfl ⟨rfl, rfl, rfl, rfl, rfl⟩ rfl rfl rfl rfl rfl (by kernel_rfl) Try.func6 (by kernel_rfl)
    (of_decide_eq_true (by kernel_rfl)) (by unfold Func.isWrapper; first | (rw [if_pos (by decide +kernel)]; kernel_rfl) | (rw [if_neg (by decide +kernel)]; exact ⟨rfl, rfl⟩))
    (fun os started H enc _ => lifted os started H enc)

theorem proved : Rows.LimboFullSaid := over
#print axioms proved
end Go.Proofs.Ytfonjkbdonbjdaa.limboFull
