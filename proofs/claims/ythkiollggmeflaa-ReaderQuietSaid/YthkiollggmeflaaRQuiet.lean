/-
Proved here: who entered ahead of a moment, and has not left, keeps it from being quiet; who enters behind an Advance of it does not, whatever acts are handed in.
  Conditions: none.
-/
import Derived.Test.YthkiollggmeflaaRows
import Derived.Test.YthkiollggmeflaaQuiet8
import Derived.IntWalk
import Derived.WalkSmall
import Derived.Deep.QuietTactic
import Derived.BigQuiet
import Derived.WalkKit
import Derived.ProofKit
import Derived.OpenShut
import Derived.ShutString
import Derived.ChangeOld
import Derived.Below
namespace Go.Proofs.Ythkiollggmeflaa.readerQuiet
open Go.ChangeShapes Go.WideShapes Go.ChangeAt Go.RowKit
open Go.ChangeMaps (open_string shut_string)
set_option linter.unusedVariables false

theorem own : ownKnob Try.prog.godebug = none := by kernel_rfl
theorem laidOut : laidOutB Try.prog = true := by kernel_rfl

set_option maxRecDepth 100000 in
set_option maxHeartbeats 1600000 in
theorem many (a0 : Int) (a1 : Option Addr) (len1 cap1 : Nat) (w : World) (hl : 200 < len1) (hlen : len1 ≤ 2 ^ 63 - 1) :
    Calls Try.prog 4 #[.int .i64 a0, .slice a1 len1 cap1] w fun e w' => e = .returned (.bool true) ∧ Below w.heap.size w w' := by
  have h1 : (200 : Int) < (len1 : Int) := by omega
  have HAW := Lib.hid (awake_any w)
  clear hl
  go_enter Try.func4, Try.ntmps4
  go_wp2_with fail
  refine HAW.out.mono ?_
  rintro e w' ⟨rfl, hb⟩
  have HB := Lib.hid hb
  clear hb
  go_wp2
  go_ret
  exact ⟨rfl, HB.out⟩
set_option maxRecDepth 100000 in
set_option maxHeartbeats 16000000 in
theorem fewer (a0 : Int) (a1 : Option Addr) (len1 cap1 : Nat) (z1 : List ActP) (w : World) (w1 : IsActs w a1 len1 z1) (hl : len1 ≤ 200) :
    Calls Try.prog 4 #[.int .i64 a0, .slice a1 len1 cap1] w fun e w' => e = .returned (.bool true) ∧ Below w.heap.size w w' := by
  have h1 : ¬ (200 : Int) < (len1 : Int) := by omega
  have HN := Lib.hid (rdnew_ok 4 (by omega) (by omega) w)
  unfold MadeRd at HN
  have HA := Lib.hid w1
  obtain ⟨g, hg⟩ : ∃ g, w.heap.size = g := ⟨_, rfl⟩
  rw [hg] at HN ⊢
  have HG := Lib.hid hg
  clear w1 hg
  go_enter Try.func4, Try.ntmps4
  go_wp2_with fail
  refine HN.out.mono ?_
  rintro e v1 ⟨p, q, rfl, hp, hq, hpl, hb⟩
  obtain ⟨a, ha⟩ : ∃ a, v1.heap.size = a := ⟨_, rfl⟩
  have HQ0 : Hid (Qt w g (v1.alloc (.cells #[.bool false, .bool false, .bool false, .bool false] 44)) p q a (List.replicate 4 0) 1) := by
    have hb2 : Below v1.heap.size v1 (v1.alloc (.cells #[.bool false, .bool false, .bool false, .bool false] 44)) := (Below.refl _ _).alloc (Nat.le_refl _) _
    have hz := hb.size
    have hg := HG.out
    have h5 := hpl.lt_p
    have h6 := hpl.lt_q
    refine ⟨hpl.below hb2, ?_, rfl, hb.trans (hb2.mono (by omega)), hg, hp, hq, by omega, by omega, by omega⟩
    rw [← ha]
    show (v1.heap.push _)[v1.heap.size]? = _
    simp [onesB]
  clear hp hq hpl hb HN
  go_wp2
  clear ha
  generalize v1.alloc (.cells #[.bool false, .bool false, .bool false, .bool false] 44) = v2 at *
  clear v1
  go_loopg [8] 4 (fun gk s8 wx => ∃ (t : Nat) (L : List Nat), t + gk = 4 ∧ s8 = .int .i64 t ∧ Hid (Qt w g wx p q a L 1) ∧ Hid (∀ j, t ≤ j → L.getD j 0 = 0))
  case atStart => exact ⟨0, _, by omega, rfl, HQ0, fun j _ => by rcases j with _ | _ | _ | _ | j <;> rfl⟩
  case round =>
    obtain ⟨t, L, htn, rfl, HQ, HZ⟩ := hrel
    clear HQ0
    cases gk with
    | zero =>
      obtain rfl : t = 4 := by omega
      have HNO := Lib.hid (rdnow_any HQ.out.rp)
      have HAD := Lib.hid (rdadv_any HQ.out.rp (by omega))
      go_wp2_with fail
      refine HNO.out.mono ?_
      rintro e w' ⟨rfl, rfl⟩
      go_wp2_with fail
      refine HAD.out.mono ?_
      rintro e v3 ⟨rfl, hp3, ht3⟩
      have HQ1 : Hid (Qt w g v3 p q a L 2) := HQ.out.step hp3 ht3 rfl rfl
      clear hp3 ht3 HNO HAD HQ HZ
      go_wp2
      go_loopg [12] len1 (fun gk s12 wx => ∃ (i now : Nat) (K : List Nat), i + gk = len1 ∧ s12 = .int .i64 i ∧ 2 ≤ now ∧ now ≤ i + 2 ∧ Hid (Qt w g wx p q a K now))
      case atStart => exact ⟨0, 2, _, by omega, rfl, by omega, by omega, HQ1⟩
      case round =>
        clear HQ1
        obtain ⟨i, now, K, hin, rfl, hn2, hnow, HQ⟩ := hrel
        have HN2 := Lib.hid hn2
        have HNW := Lib.hid hnow
        clear hn2 hnow
        cases gk with
        | zero =>
          obtain rfl : i = len1 := by omega
          have hii : ¬ (i : Int) < (i : Int) := by omega
          have HAW := Lib.hid (awake_any wr)
          go_wp2_with fail
          refine HAW.out.mono ?_
          rintro e v4 ⟨rfl, hb⟩
          have HB4 := Lib.hid hb
          clear hb
          go_wp2
          go_ret
          exact ⟨rfl, HQ.out.bel.trans (HB4.out.mono HQ.out.gw)⟩
        | succ gk =>
          have hii : (i : Int) < (len1 : Int) := by omega
          have HAr : Hid (IsActs wr a1 len1 z1) := HA.out.below (HG.out ▸ HQ.out.bel)
          obtain ⟨y, b, off, hx, rfl, hbs, c0, c1⟩ := HAr.out.at_ (i := i) (by omega)
          clear hx hbs
          have HLO : Hid (Calls Try.prog 19 #[.int .i64 y.t, .int .i64 4] wr fun e w' => e = .returned (.int .i64 (low y.t 4 : Nat)) ∧ wr = w') := low_any y.t 4 wr (by omega) (by omega)
          have hlt := low_lt y.t (n := 4) (by omega)
          generalize low y.t 4 = t at *
          rcases Classical.em (y.kd = 0) with k0 | k0
          · have m0 : (y.kd == 0) = true := by simpa using k0
            clear k0
            go_wp2_with fail
            refine HLO.out.mono ?_
            rintro e w' ⟨rfl, rfl⟩
            have H1 := Lib.hid (rdenter_any HQ.out.rp t)
            go_wp2_with fail
            refine H1.out.mono ?_
            rintro e v3 ⟨rfl, hp3, ht3⟩
            have HT : Hid (Qt w g v3 p q a (enterL K now t) now) := HQ.out.step hp3 ht3 (enterL_len _ _ _) (ones_enter HN2.out t)
            have HN3 := HN2
            have HNN : Hid (now ≤ i + 1 + 2) := by have := HNW.out; show now ≤ i + 1 + 2; omega
            clear hp3 ht3 H1 HLO HQ c0 c1
            generalize enterL K now t = K1 at *
            have HQU : Hid (∀ k, Calls Try.prog 20 #[.pointer (some ⟨p, 0, none⟩), .int .u64 1] (v3.drewN k) fun e w' => e = .returned (.bool (!(K1.getD 0 0 == 1) && !(K1.getD 1 0 == 1) && !(K1.getD 2 0 == 1) && !(K1.getD 3 0 == 1))) ∧ v3.drewN k = w') := fun k => by
              have := rdquiet_any (HT.out.drewN k).rp 1
              rw [quiet_four HT.out.len] at this
              exact this
            have d0 := HT.out.cell (t := 0) (by omega)
            have d1 := HT.out.cell (t := 1) (by omega)
            have d2 := HT.out.cell (t := 2) (by omega)
            have d3 := HT.out.cell (t := 3) (by omega)
            generalize (K1.getD 0 0 == 1) = b0 at *
            generalize (K1.getD 1 0 == 1) = b1 at *
            generalize (K1.getD 2 0 == 1) = b2 at *
            generalize (K1.getD 3 0 == 1) = b3 at *
            have hcs : b0 = true ∨ b0 = false ∧ b1 = true ∨ b0 = false ∧ b1 = false ∧ b2 = true ∨ b0 = false ∧ b1 = false ∧ b2 = false ∧ b3 = true ∨ b0 = false ∧ b1 = false ∧ b2 = false ∧ b3 = false := by cases b0 <;> cases b1 <;> cases b2 <;> cases b3 <;> simp
            rcases hcs with rfl | ⟨rfl, rfl⟩ | ⟨rfl, rfl, rfl⟩ | ⟨rfl, rfl, rfl, rfl⟩ | ⟨rfl, rfl, rfl, rfl⟩
            all_goals
              go_wp2
              go_quiet ((go_at_call 20; exact quiet_of (HQU.out _)))
              go_wp2
              go_roundg gk
              case measure => omega
              case rel => exact ⟨i + 1, now, K1, by omega, by go_num, HN3.out, HNN.out, HT.out.drewN _⟩
          · have m0 : (y.kd == 0) = false := by simpa using k0
            clear k0
            rcases Classical.em (y.kd = 1) with k1 | k1
            · have m1 : (y.kd == 1) = true := by simpa using k1
              clear k1
              go_wp2_with fail
              refine HLO.out.mono ?_
              rintro e w' ⟨rfl, rfl⟩
              have H1 := Lib.hid (rdleave_any HQ.out.rp t)
              rw [leaveL_yes (L := K) (t := t) (by have := HQ.out.len; omega)] at H1
              go_wp2_with fail
              refine H1.out.mono ?_
              rintro e v3 ⟨rfl, hp3, ht3⟩
              have hc3 := HQ.out.cell' ht3 hlt
              have hf3 := HQ.out.frozen' ht3 t
              have HT : Hid (Qt w g (v3.setCell ⟨a, t, none⟩ (.bool false)) p q a (K.set t 0) now) := HQ.out.put hp3 ht3 rfl
              have ht4 : (t : Int) < 4 := by omega
              have HN3 := HN2
              have HNN : Hid (now ≤ i + 1 + 2) := by have := HNW.out; show now ≤ i + 1 + 2; omega
              clear hp3 ht3 H1 HLO HQ c0 c1
              generalize (K.getD t 0 == 1) = bt at *
              generalize K.set t 0 = K1 at *
              obtain ⟨v4, hv4⟩ : ∃ v4, v3.setCell ⟨a, t, none⟩ (.bool false) = v4 := ⟨_, rfl⟩
              rw [hv4] at HT
              have HQU : Hid (∀ k, Calls Try.prog 20 #[.pointer (some ⟨p, 0, none⟩), .int .u64 1] (v4.drewN k) fun e w' => e = .returned (.bool (!(K1.getD 0 0 == 1) && !(K1.getD 1 0 == 1) && !(K1.getD 2 0 == 1) && !(K1.getD 3 0 == 1))) ∧ v4.drewN k = w') := fun k => by
                have := rdquiet_any (HT.out.drewN k).rp 1
                rw [quiet_four HT.out.len] at this
                exact this
              have d0 := HT.out.cell (t := 0) (by omega)
              have d1 := HT.out.cell (t := 1) (by omega)
              have d2 := HT.out.cell (t := 2) (by omega)
              have d3 := HT.out.cell (t := 3) (by omega)
              generalize (K1.getD 0 0 == 1) = b0 at *
              generalize (K1.getD 1 0 == 1) = b1 at *
              generalize (K1.getD 2 0 == 1) = b2 at *
              generalize (K1.getD 3 0 == 1) = b3 at *
              have hcs : b0 = true ∨ b0 = false ∧ b1 = true ∨ b0 = false ∧ b1 = false ∧ b2 = true ∨ b0 = false ∧ b1 = false ∧ b2 = false ∧ b3 = true ∨ b0 = false ∧ b1 = false ∧ b2 = false ∧ b3 = false := by cases b0 <;> cases b1 <;> cases b2 <;> cases b3 <;> simp
              rcases hcs with rfl | ⟨rfl, rfl⟩ | ⟨rfl, rfl, rfl⟩ | ⟨rfl, rfl, rfl, rfl⟩ | ⟨rfl, rfl, rfl, rfl⟩
              all_goals
                go_wp2
                go_quiet ((go_at_call 20; exact quiet_of (HQU.out _)))
                go_wp2
                go_roundg gk
                case measure => omega
                case rel => exact ⟨i + 1, now, K1, by omega, by go_num, HN3.out, HNN.out, HT.out.drewN _⟩
            · have m1 : (y.kd == 1) = false := by simpa using k1
              clear k1
              rcases Classical.em (y.kd = 2) with k2 | k2
              · have m2 : (y.kd == 2) = true := by simpa using k2
                clear k2
                go_wp2_with fail
                refine HLO.out.mono ?_
                rintro e w' ⟨rfl, rfl⟩
                have H1 := Lib.hid (rdadv_any HQ.out.rp (by have := HNW.out; omega))
                go_wp2_with fail
                refine H1.out.mono ?_
                rintro e v3 ⟨rfl, hp3, ht3⟩
                have HT : Hid (Qt w g v3 p q a K (now + 1)) := HQ.out.step hp3 ht3 rfl rfl
                have HN3 : Hid (2 ≤ now + 1) := by have := HN2.out; show 2 ≤ now + 1; omega
                have HNN : Hid (now + 1 ≤ i + 1 + 2) := by have := HNW.out; show now + 1 ≤ i + 1 + 2; omega
                clear hp3 ht3 H1 HLO HQ c0 c1
                generalize now + 1 = nx at *
                have HQU : Hid (∀ k, Calls Try.prog 20 #[.pointer (some ⟨p, 0, none⟩), .int .u64 1] (v3.drewN k) fun e w' => e = .returned (.bool (!(K.getD 0 0 == 1) && !(K.getD 1 0 == 1) && !(K.getD 2 0 == 1) && !(K.getD 3 0 == 1))) ∧ v3.drewN k = w') := fun k => by
                  have := rdquiet_any (HT.out.drewN k).rp 1
                  rw [quiet_four HT.out.len] at this
                  exact this
                have d0 := HT.out.cell (t := 0) (by omega)
                have d1 := HT.out.cell (t := 1) (by omega)
                have d2 := HT.out.cell (t := 2) (by omega)
                have d3 := HT.out.cell (t := 3) (by omega)
                generalize (K.getD 0 0 == 1) = b0 at *
                generalize (K.getD 1 0 == 1) = b1 at *
                generalize (K.getD 2 0 == 1) = b2 at *
                generalize (K.getD 3 0 == 1) = b3 at *
                have hcs : b0 = true ∨ b0 = false ∧ b1 = true ∨ b0 = false ∧ b1 = false ∧ b2 = true ∨ b0 = false ∧ b1 = false ∧ b2 = false ∧ b3 = true ∨ b0 = false ∧ b1 = false ∧ b2 = false ∧ b3 = false := by cases b0 <;> cases b1 <;> cases b2 <;> cases b3 <;> simp
                rcases hcs with rfl | ⟨rfl, rfl⟩ | ⟨rfl, rfl, rfl⟩ | ⟨rfl, rfl, rfl, rfl⟩ | ⟨rfl, rfl, rfl, rfl⟩
                all_goals
                  go_wp2
                  go_quiet ((go_at_call 20; exact quiet_of (HQU.out _)))
                  go_wp2
                  go_roundg gk
                  case measure => omega
                  case rel => exact ⟨i + 1, nx, K, by omega, by go_num, HN3.out, HNN.out, HT.out.drewN _⟩
              · have m2 : (y.kd == 2) = false := by simpa using k2
                clear k2
                go_wp2_with fail
                refine HLO.out.mono ?_
                rintro e w' ⟨rfl, rfl⟩
                have HT := HQ
                have HN3 := HN2
                have HNN : Hid (now ≤ i + 1 + 2) := by have := HNW.out; show now ≤ i + 1 + 2; omega
                clear HLO HQ c1
                have HQU : Hid (∀ k, Calls Try.prog 20 #[.pointer (some ⟨p, 0, none⟩), .int .u64 1] (wr.drewN k) fun e w' => e = .returned (.bool (!(K.getD 0 0 == 1) && !(K.getD 1 0 == 1) && !(K.getD 2 0 == 1) && !(K.getD 3 0 == 1))) ∧ wr.drewN k = w') := fun k => by
                  have := rdquiet_any (HT.out.drewN k).rp 1
                  rw [quiet_four HT.out.len] at this
                  exact this
                have d0 := HT.out.cell (t := 0) (by omega)
                have d1 := HT.out.cell (t := 1) (by omega)
                have d2 := HT.out.cell (t := 2) (by omega)
                have d3 := HT.out.cell (t := 3) (by omega)
                generalize (K.getD 0 0 == 1) = b0 at *
                generalize (K.getD 1 0 == 1) = b1 at *
                generalize (K.getD 2 0 == 1) = b2 at *
                generalize (K.getD 3 0 == 1) = b3 at *
                have hcs : b0 = true ∨ b0 = false ∧ b1 = true ∨ b0 = false ∧ b1 = false ∧ b2 = true ∨ b0 = false ∧ b1 = false ∧ b2 = false ∧ b3 = true ∨ b0 = false ∧ b1 = false ∧ b2 = false ∧ b3 = false := by cases b0 <;> cases b1 <;> cases b2 <;> cases b3 <;> simp
                rcases hcs with rfl | ⟨rfl, rfl⟩ | ⟨rfl, rfl, rfl⟩ | ⟨rfl, rfl, rfl, rfl⟩ | ⟨rfl, rfl, rfl, rfl⟩
                all_goals
                  go_wp2
                  go_quiet ((go_at_call 20; exact quiet_of (HQU.out _)))
                  go_wp2
                  go_roundg gk
                  case measure => omega
                  case rel => exact ⟨i + 1, now, K, by omega, by go_num, HN3.out, HNN.out, HT.out.drewN _⟩
    | succ gk =>
      have htt : (t : Int) < 4 := by omega
      have ht0 : (0 : Int) ≤ (t : Int) := by omega
      cases hz : (bits BinOp.and IntKind.i64 (a0 / 2 ^ t) 1 == 1)
      · go_wp2
        go_roundg gk
        case measure => omega
        case rel => exact ⟨t + 1, L, by omega, by go_num, HQ, fun j hj => HZ.out j (by omega)⟩
      · have hl4 := HQ.out.len
        obtain ⟨e1, e2⟩ := enterL_yes (L := L) (t := t) (now := 1) (by omega) (HZ.out t (Nat.le_refl _))
        have H1 := Lib.hid (rdenter_any HQ.out.rp t)
        rw [e1, e2] at H1
        have HQ2 : Hid (∀ v, RdP v p q (L.set t 1) 1 → Turns p q wr v → Qt w g (v.setCell ⟨a, t, none⟩ (.bool true)) p q a (L.set t 1) 1 ∧ v.cell? ⟨a, t, none⟩ = some (.bool (L.getD t 0 == 1)) ∧ v.frozen? ⟨a, t, none⟩ = false) := fun v h1 h2 => ⟨HQ.out.put h1 h2 rfl, HQ.out.cell' h2 (by omega), HQ.out.frozen' h2 t⟩
        have HZ2 : Hid (∀ j, t + 1 ≤ j → (L.set t 1).getD j 0 = 0) := fun j hj => by
          have := HZ.out j (by omega)
          rw [List.getD, List.getElem?_set_ne (by omega)]
          exact this
        clear HQ HZ e1 e2 hl4
        generalize L.set t 1 = L2 at *
        generalize (L.getD t 0 == 1) = bt at *
        go_wp2_with fail
        refine H1.out.mono ?_
        rintro e v3 ⟨rfl, hp3, ht3⟩
        obtain ⟨hq3, hc3, hf3⟩ := HQ2.out v3 hp3 ht3
        have HQ3 := Lib.hid hq3
        clear hp3 ht3 hq3 H1
        go_wp2
        go_roundg gk
        case measure => omega
        case rel => exact ⟨t + 1, L2, by omega, by go_num, HQ3, HZ2⟩
theorem walk (a0 : Int) (a1 : Option Addr) (len1 cap1 : Nat) (z1 : List ActP) (w : World) (w0 : (Lit.int .i64 a0).wf = true) (w1 : IsActs w a1 len1 z1) :
    Calls Try.prog 4 #[.int .i64 a0, .slice a1 len1 cap1] w fun e w' => e = .returned (.bool true) ∧ Below w.heap.size w w' := by
  rcases Nat.lt_or_ge 200 len1 with h0 | h0
  · exact many a0 a1 len1 cap1 w h0 (by have := w1.2.1; unfold maxLen at this; omega)
  · exact fewer a0 a1 len1 cap1 z1 w w1 h0

set_option maxRecDepth 100000 in
theorem lifted (os : Os) (started : os.Started) (H : Type) (enc : TypeId × Value → H) :
    ReturnsInHanded {} Try.checked os 4 .any (Rows.readerQuietSpec.pre6 enc Try.prog Try.f4 Rows.readerQuietRow.domain false) (Rows.readerQuietSpec.post enc Try.prog Try.f4 false true false false) := by
  refine returnsInHanded_of_change (C := Try.checked) own started (by kernel_rfl) Try.func4
    (ChangeSpec.witness6 (enc := enc) (C := Try.checked) false ⟨#[], #[.int .i64 0, .slice none 0 0], []⟩ 8 (by kernel_rfl) (by kernel_rfl) (by kernel_rfl) (by kernel_rfl)) ?_
  intro W base args ds gs before hval0 hW hcnd _
  have hval : ∀ (j : Nat) t v, Try.f4.params[j]? = some t → args[j]? = some v → Value.okWide Try.prog W .any base t v := hval0
  have hW' := hW
  obtain ⟨p, q, hA0, hV, rfl, hfz, hnd⟩ := hW
  have hA : DataW.TrodAll enc Try.prog W 0 (fun _ => true) true Try.f4.params.toList args.toList ds p := hA0
  rw [Try.params4] at hA hval
  obtain ⟨v0, vs0, d0, ds0, p0, q0, hargs, rfl, rfl, h0, r0⟩ := trodAll_cons hA
  obtain ⟨v1, vs1, d1, ds1, p1, q1, rfl, rfl, rfl, h1, r1⟩ := trodAll_cons r0
  obtain ⟨rfl, rfl, rfl⟩ := trodAll_nil r1
  obtain rfl : args = #[v0, v1] := by cases args; simp_all
  obtain ⟨rfl, rfl⟩ := trodVars_none hV
  obtain ⟨a0, rfl, rfl, rfl, w0⟩ := open_int Try.underlying3 (hval 0 3 v0 rfl rfl) h0
  obtain ⟨a1, len1, cap1, rfl⟩ := okWide_slice Try.underlying22 (hval 1 22 v1 rfl rfl)
  have k1 := h1
  have lt1 : ∀ x ∈ p1, x.block < W.heap.size := by obtain ⟨m, hm⟩ := k1; exact DataW.trod_lt m _ _ _ hm
  obtain ⟨z1, w1⟩ : ∃ zs, IsActs W a1 len1 zs := by
    obtain ⟨fuel, hf⟩ := h1
    exact isActs_of hf
  clear hA0 hval0
  refine (walk a0 a1 len1 cap1 z1 W w0 w1).mono fun e W' ⟨he, bel⟩ => ?_
  subst he
  exact ⟨_, rfl, _, _, _, [], _, [], hW', trodAll_mk1 (shut_bool Try.underlying4 _), (trodAll_cons_mk (shut_int Try.underlying3 w0) (trodAll_cons_mk (Below.trod laidOut (by kernel_rfl) (of_decide_eq_true (by kernel_rfl)) k1 bel lt1) trodAll_mk0)), rfl, bel.frame _, fun h => by cases h⟩

theorem over : Rows.readerQuietRow.holds Try.pinned (OpenSpec.ofChange Rows.readerQuietSpec) :=
  OpenClaim.holds_of_wide 4 Try.f4 rfl rfl rfl rfl rfl rfl rfl ⟨rfl, rfl, rfl, rfl, rfl⟩ rfl rfl rfl rfl rfl (by kernel_rfl) Try.func4 (by kernel_rfl)
    (of_decide_eq_true (by kernel_rfl)) (by unfold Func.isWrapper; first | (rw [if_pos (by decide +kernel)]; kernel_rfl) | (rw [if_neg (by decide +kernel)]; exact ⟨rfl, rfl⟩))
    (fun os started H enc _ => lifted os started H enc)

theorem proved : Rows.ReaderQuietSaid := over
#print axioms proved
end Go.Proofs.Ythkiollggmeflaa.readerQuiet
