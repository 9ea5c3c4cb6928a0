/-
Proved here: LimboTurns, for every list of steps and of pops: entries whose epochs do not fall go out in the order in which they came.
  Conditions: none.
-/
import Derived.Test.YtfonjkbdonbjdaaRows
import Derived.Test.YtfonjkbdonbjdaaTurns10
import Derived.Test.YtfonjkbdonbjdaaAwake10
import Derived.IntWalk
import Derived.WalkSmall
import Derived.Deep.QuietTactic
import Derived.BigQuiet
import Derived.WalkKit
import Derived.ProofKit
import Derived.OpenShut
import Derived.ShutString
import Derived.ChangeOld
import Derived.Below
namespace Go.Proofs.Ytfonjkbdonbjdaa.limboTurns
open Go.ChangeShapes Go.WideShapes Go.ChangeAt Go.RowKit
open Go.ChangeMaps (open_string shut_string)
set_option linter.unusedVariables false

theorem own : ownKnob Try.prog.godebug = none := by kernel_rfl
theorem laidOut : laidOutB Try.prog = true := by kernel_rfl

set_option maxRecDepth 100000 in
set_option maxHeartbeats 1600000 in
theorem many (a0 : Option Addr) (len0 cap0 : Nat) (a1 : Option Addr) (len1 cap1 : Nat) (w : World) (hl : 60 < len0 ∨ 120 < len1) (h0 : len0 ≤ 2 ^ 63 - 1) (h1 : len1 ≤ 2 ^ 63 - 1) :
    Calls Try.prog 5 #[.slice a0 len0 cap0, .slice a1 len1 cap1] w fun e w' => e = .returned (.bool true) ∧ Below w.heap.size w w' := by
  have HAW := Lib.hid (awake_any w)
  rcases Classical.em (60 < len0) with h | h
  · have h2 : (60 : Int) < (len0 : Int) := by omega
    clear hl h
    go_enter Try.func5, Try.ntmps5
    go_wp2_with fail
    refine HAW.out.mono ?_
    rintro e w' ⟨rfl, hb⟩
    have HB := Lib.hid hb
    clear hb
    go_wp2
    go_ret
    exact ⟨rfl, HB.out⟩
  · have h2 : ¬ (60 : Int) < (len0 : Int) := by omega
    have h3 : (120 : Int) < (len1 : Int) := by omega
    clear hl h
    go_enter Try.func5, Try.ntmps5
    go_wp2_with fail
    refine HAW.out.mono ?_
    rintro e w' ⟨rfl, hb⟩
    have HB := Lib.hid hb
    clear hb
    go_wp2
    go_ret
    exact ⟨rfl, HB.out⟩
set_option maxRecDepth 100000 in
set_option maxHeartbeats 8000000 in
theorem turned (a0 : Option Addr) (len0 cap0 : Nat) (z0 : List Int) (a1 : Option Addr) (len1 cap1 : Nat) (z1 : List Int) (w : World) (w0 : IsRow .i64 w a0 len0 cap0 z0) (w1 : IsRow .i64 w a1 len1 cap1 z1) (hl0 : len0 ≤ 60) (hl1 : len1 ≤ 120) :
    Calls Try.prog 5 #[.slice a0 len0 cap0, .slice a1 len1 cap1] w fun e w' => e = .returned (.bool true) ∧ Below w.heap.size w w' := by
  have h1 : ¬ (60 : Int) < (len0 : Int) := by omega
  have h2 : ¬ (120 : Int) < (len1 : Int) := by omega
  have HI0 : Hid (∀ i, i < len0 → ∃ b off z, a0 = some ⟨b, off, none⟩ ∧ ∀ wx, Below w.heap.size w wx → wx.cell? ⟨b, off + i, none⟩ = some (.int .i64 z)) := fun i hi => ints_at w0 hi
  have HI1 : Hid (∀ i, i < len1 → ∃ b off z, a1 = some ⟨b, off, none⟩ ∧ ∀ wx, Below w.heap.size w wx → wx.cell? ⟨b, off + i, none⟩ = some (.int .i64 z)) := fun i hi => ints_at w1 hi
  have HN := Lib.hid (bgnew_any w)
  have HR2 := Lib.hid (fun w1 => rdnew_ok 2 (by omega) (by omega) w1)
  unfold MadeRd at HR2
  have HZ := Lib.hid zero_entry
  have HAW := Lib.hid (fun w1 => awake_any w1)
  have HPL : Hid (∀ wx, Calls Try.prog 24 #[.int .u64 1, .int .u64 1] wx fun y w' => y = .returned (.agg #[.int .i64 2, .int .i64 0, .int .u64 1, .int .u64 1, .int .i64 (-1)]) ∧ Below wx.heap.size wx w') := fun wx => plain_any 1 1 wx
  obtain ⟨g, hg⟩ : ∃ g, w.heap.size = g := ⟨_, rfl⟩
  have HG := Lib.hid hg
  rw [hg] at HN HI0 HI1 ⊢
  clear w0 w1 hg
  go_enter Try.func5, Try.ntmps5
  go_wp2_with fail
  refine HN.out.mono ?_
  rintro e v1 ⟨rfl, hb1, hl1'⟩
  have HB1 := Lib.hid hb1
  have HL1 := Lib.hid hl1'
  clear hb1 hl1'
  go_wp2_with fail
  refine (HR2.out v1).mono ?_
  rintro e v3 ⟨a, b, rfl, ha, hb, hrd, hb3⟩
  have HBR := Lib.hid (br_new HG.out HB1.out HL1.out ha hb hrd hb3)
  clear ha hb hrd hb3
  go_wp2_with fail
  refine (HPL.out v3).mono ?_
  rintro e v4 ⟨rfl, hb4⟩
  have HB4 := Lib.hid (HBR.out.below hb4)
  obtain ⟨bx, hbx⟩ : ∃ bx, v4.heap.size = bx := ⟨_, rfl⟩
  have HBX := Lib.hid hbx
  have hxx : g < bx ∧ a < bx ∧ b < bx := hbx ▸ ⟨HB4.out.bg.lt_p, HB4.out.rd.lt_p, HB4.out.rd.lt_q⟩
  have HGX : Hid (g ≤ bx) := Nat.le_of_lt hxx.1
  have HDG : Hid (Dis g g bx bx) := ⟨by omega, by omega, by omega, by omega⟩
  have HDA : Hid (Dis a b bx bx) := ⟨by omega, by omega, by omega, by omega⟩
  clear hb4 hbx hxx
  go_wp2_with (first
    | ((with_reducible show wpList _ _ _ (⟨some 8, .alloc _, _, _, _, _⟩ :: _) _ _); refine wpList_alloc_var (o := ⟨some 8, _, _, _, _, _⟩) rfl 40 rfl bx HBX.out _ HZ.out ?_; intro w3 H3 X3)
    | ((with_reducible show wpList _ _ _ (⟨none, .store _ (.tmp 8) _, _, _, _, _⟩ :: _) _ _); refine wpList_store_whole (o := ⟨none, .store 40 (.tmp 8) (.tmp 34), _, _, _, _⟩) rfl _ _ _ rfl rfl bx #[.int .i64 2, .int .i64 0, .int .u64 1, .int .u64 1, .int .i64 (-1)] rfl rfl 40 _ H3.out size_entry rfl (ones5 _ _ _ _ _) ?_; intro w4 H4 X4; have HB5 := Lib.hid (HB4.out.below (HBX.out.symm ▸ X3.out.trans X4.out)))
    | fail)
  go_loopg [9] len0 (fun gk s9 wx => ∃ (i q R D : Nat) (L : List En) (ln : Int), i + gk = len0 ∧ s9 = .int .i64 i ∧ R ≤ 1 + i ∧ D ≤ 1 + i ∧ Hid (L.length = i ∧ TuE L 2 ∧ ∀ x ∈ L, x.r ≤ R ∧ x.d ≤ D) ∧ Hid (Br w g wx g q L a b (List.replicate 2 0) 1) ∧ Hid (wx.heap[bx]? = some (.cells #[.int .i64 ln, .int .i64 0, .int .u64 (R : Nat), .int .u64 (D : Nat), .int .i64 (-1)] 40 (0, 0))) ∧ Hid (Dis g q bx bx))
  case atStart => exact ⟨0, g, 1, 1, [], 2, by omega, rfl, by omega, by omega, ⟨rfl, tuE_nil 2, fun x hx => by simp at hx⟩, HB5, H4, HDG⟩
  case round =>
    obtain ⟨i, q, R, D, L, ln, hin, rfl, hR, hD, HT, HF, HE, HDQ⟩ := hrel
    cases gk with
    | zero =>
      obtain rfl : len0 = i := by omega
      have hii : ¬ (len0 : Int) < (len0 : Int) := by omega
      go_wp2
      go_loopg [10, 11] len1 (fun gk s10 s11 wx => ∃ (j q n nx : Nat) (L : List En) (R : List Nat), j + gk = len1 ∧ s11 = .int .i64 j ∧ s10 = .int .i64 nx ∧ Hid (n ≤ 1 + j) ∧ Hid (nx = 2 + (len0 - L.length) ∧ L.length ≤ len0 ∧ TuE L nx) ∧ Hid (Br w g wx g q L a b R n))
      case atStart => exact ⟨0, q, 1, 2, L, _, by omega, rfl, rfl, Nat.le_refl _, ⟨by have := HT.out.1; omega, by have := HT.out.1; omega, HT.out.2.1⟩, HF⟩
      case round =>
        clear HT HF HE HDQ hR hD hin hii HB5 H4 H3 X3 X4
        obtain ⟨i, q, n, nx, L, R, hjn, rfl, rfl, HNL, HT, HF⟩ := hrel
        cases gk with
        | zero =>
          obtain rfl : i = len1 := by omega
          have hii : ¬ (i : Int) < (i : Int) := by omega
          have HLN := Lib.hid (bglen_any HF.out.bg)
          go_wp2_with fail
          refine HLN.out.mono ?_
          rintro y w9 ⟨rfl, rfl⟩
          have hfin : ((L.length : Int) == (len0 : Int) - ((nx : Int) - 2)) = true := by
            obtain ⟨t1, t2, _⟩ := HT.out
            rw [t1]
            simp
            omega
          have hnx : nx ≤ 62 := by obtain ⟨t1, t2, _⟩ := HT.out; omega
          go_wp2_with fail
          refine (HAW.out _).mono ?_
          rintro y w9 ⟨rfl, hb9⟩
          have HB9 := Lib.hid (HF.out.below hb9)
          clear hb9
          go_wp2
          go_ret
          exact ⟨rfl, HB9.out.bel⟩
        | succ gk =>
          have hii : (i : Int) < (len1 : Int) := by omega
          obtain ⟨b0, off, z, rfl, hz⟩ := HI1.out i (by omega)
          have hz0 := hz wr (HG.out ▸ HF.out.bel)
          obtain ⟨v, hv, hv'⟩ := and_small z 3 (by omega)
          replace hv : bits BinOp.and IntKind.i64 z 3 = (v : Int) := hv
          obtain ⟨lw, hlw⟩ : ∃ lw, low (z / 8) 64 = lw := ⟨_, rfl⟩
          have hlt : lw < 64 := by rw [← hlw]; exact low_lt (z / 8) (n := 64) (by omega)
          have HLW : Hid (∀ wx, Calls Try.prog 25 #[.int .i64 (z / 8), .int .i64 64] wx fun e w' => e = .returned (.int .i64 (lw : Nat)) ∧ wx = w') := fun wx => by
            rw [← hlw]
            exact low_any (z / 8) 64 wx (by omega) (by omega)
          have hnx : nx ≤ 62 := by obtain ⟨t1, t2, _⟩ := HT.out; omega
          have HPOP : Hid (∀ wx R' n', Br w g wx g q L a b R' n' → Calls Try.prog 22 #[.pointer (some ⟨g, 0, none⟩), .pointer (some ⟨a, 0, none⟩), .int .u64 (lw : Nat)] wx fun y w' => ∃ (e : En) (hb : Bool) (L' : List En) (nx' : Nat), y = .returned (.tuple #[.agg #[.int .i64 e.line, .int .i64 e.cl, .int .u64 (e.r : Nat), .int .u64 (e.d : Nat), .int .i64 e.anti], .bool hb]) ∧ Br w g w' g q L' a b R' n' ∧
              ((hb = true ∧ e.line = (nx : Int) ∧ nx' = nx + 1) ∨ (hb = false ∧ nx' = nx)) ∧ (nx' = 2 + (len0 - L'.length) ∧ L'.length ≤ len0 ∧ TuE L' nx')) := fun wx R' n' h => by
            refine (bgpop_any h.bg h.rd lw).mono ?_
            rintro y w' ⟨rfl, h1, h2⟩
            obtain ⟨t1, t2, t3⟩ := HT.out
            obtain ⟨p1, p2⟩ := t3.pop R' lw
            cases hh : hasE (readyB (quietB R') lw) L with
            | true =>
              obtain ⟨q1, q2, q3⟩ := p1 hh
              exact ⟨_, true, _, nx + 1, rfl, h.popped h1 h2, .inl ⟨rfl, q1, rfl⟩, by omega, by omega, q2⟩
            | false =>
              have hp := p2 hh
              refine ⟨_, false, _, nx, rfl, h.popped h1 h2, .inr ⟨rfl, rfl⟩, ?_⟩
              rw [hp]
              exact ⟨t1, t2, t3⟩
          have hvv : v = 0 ∨ v = 1 ∨ v = 2 ∨ v = 3 := by omega
          clear hlw
          rcases hvv with rfl | rfl | rfl | rfl
          · have HNI : Hid (n + 1 ≤ 1 + (i + 1)) := by have := HNL.out; show _ ≤ _; omega
            go_wp2_with fail
            refine (rdadv_any HF.out.rd (by have := HNL.out; omega)).mono ?_
            rintro y w4 ⟨rfl, hb4, ht4⟩
            have HFa := Lib.hid (HF.out.clock hb4 ht4)
            have hz4 := hz w4 (HG.out ▸ HFa.out.bel)
            clear hb4 ht4 hz
            go_wp2_with fail
            refine (HLW.out _).mono ?_
            rintro y w' ⟨rfl, rfl⟩
            go_wp2_with fail
            refine (HPOP.out _ _ _ HFa.out).mono ?_
            rintro y w5 ⟨e, hb, L', nx', rfl, hbr, hcs, hts⟩
            have HF5 := Lib.hid hbr
            have HTS := Lib.hid hts
            obtain ⟨g5, hg5⟩ : ∃ g5, w5.heap.size = g5 := ⟨_, rfl⟩
            have HG5 := Lib.hid hg5
            clear hbr hts hg5
            generalize e.cl = y1 at *
            generalize (e.r : Int) = y2 at *
            generalize (e.d : Int) = y3 at *
            generalize e.anti = y4 at *
            rcases hcs with ⟨rfl, he, rfl⟩ | ⟨rfl, rfl⟩
            · generalize e.line = y0 at *
              subst he
              have hne : ((nx : Int) != (nx : Int)) = false := by simp
              go_wp2_with (first
                | ((with_reducible show wpList _ _ _ (⟨some 12, .alloc _, _, _, _, _⟩ :: _) _ _); refine wpList_alloc_var (o := ⟨some 12, _, _, _, _, _⟩) rfl 40 rfl g5 HG5.out _ HZ.out ?_; intro w6 H6 X6)
                | ((with_reducible show wpList _ _ _ (⟨none, .store _ (.tmp 12) _, _, _, _, _⟩ :: _) _ _); refine wpList_store_whole (o := ⟨none, .store 40 (.tmp 12) (.tmp 115), _, _, _, _⟩) rfl _ _ _ rfl rfl g5 #[.int .i64 (nx : Int), .int .i64 y1, .int .u64 y2, .int .u64 y3, .int .i64 y4] rfl rfl 40 _ H6.out size_entry rfl (ones5 _ _ _ _ _) ?_; intro w7 H7 X7; have HF7 := Lib.hid (HF5.out.below (HG5.out.symm ▸ X6.out.trans X7.out)); obtain ⟨m0, m1, m2, m3, m4⟩ := cells5 H7.out)
                | fail)
              go_roundg gk
              case measure => omega
              case rel => exact ⟨i + 1, q, (n + 1), nx + 1, L', _, by omega, by go_num, by go_num, HNI, HTS, HF7⟩
            · generalize e.line = y0 at *
              go_wp2_with (first
                | ((with_reducible show wpList _ _ _ (⟨some 12, .alloc _, _, _, _, _⟩ :: _) _ _); refine wpList_alloc_var (o := ⟨some 12, _, _, _, _, _⟩) rfl 40 rfl g5 HG5.out _ HZ.out ?_; intro w6 H6 X6)
                | ((with_reducible show wpList _ _ _ (⟨none, .store _ (.tmp 12) _, _, _, _, _⟩ :: _) _ _); refine wpList_store_whole (o := ⟨none, .store 40 (.tmp 12) (.tmp 115), _, _, _, _⟩) rfl _ _ _ rfl rfl g5 #[.int .i64 y0, .int .i64 y1, .int .u64 y2, .int .u64 y3, .int .i64 y4] rfl rfl 40 _ H6.out size_entry rfl (ones5 _ _ _ _ _) ?_; intro w7 H7 X7; have HF7 := Lib.hid (HF5.out.below (HG5.out.symm ▸ X6.out.trans X7.out)))
                | fail)
              go_roundg gk
              case measure => omega
              case rel => exact ⟨i + 1, q, (n + 1), nx', L', _, by omega, by go_num, by go_num, HNI, HTS, HF7⟩
          · have HNI : Hid (n ≤ 1 + (i + 1)) := by have := HNL.out; show _ ≤ _; omega
            go_wp2_with fail
            refine (rdenter_any HF.out.rd _).mono ?_
            rintro y w4 ⟨rfl, hb4, ht4⟩
            have HFa := Lib.hid (HF.out.clock hb4 ht4)
            have hz4 := hz w4 (HG.out ▸ HFa.out.bel)
            clear hb4 ht4 hz
            go_wp2_with fail
            refine (HLW.out _).mono ?_
            rintro y w' ⟨rfl, rfl⟩
            go_wp2_with fail
            refine (HPOP.out _ _ _ HFa.out).mono ?_
            rintro y w5 ⟨e, hb, L', nx', rfl, hbr, hcs, hts⟩
            have HF5 := Lib.hid hbr
            have HTS := Lib.hid hts
            obtain ⟨g5, hg5⟩ : ∃ g5, w5.heap.size = g5 := ⟨_, rfl⟩
            have HG5 := Lib.hid hg5
            clear hbr hts hg5
            generalize e.cl = y1 at *
            generalize (e.r : Int) = y2 at *
            generalize (e.d : Int) = y3 at *
            generalize e.anti = y4 at *
            rcases hcs with ⟨rfl, he, rfl⟩ | ⟨rfl, rfl⟩
            · generalize e.line = y0 at *
              subst he
              have hne : ((nx : Int) != (nx : Int)) = false := by simp
              go_wp2_with (first
                | ((with_reducible show wpList _ _ _ (⟨some 12, .alloc _, _, _, _, _⟩ :: _) _ _); refine wpList_alloc_var (o := ⟨some 12, _, _, _, _, _⟩) rfl 40 rfl g5 HG5.out _ HZ.out ?_; intro w6 H6 X6)
                | ((with_reducible show wpList _ _ _ (⟨none, .store _ (.tmp 12) _, _, _, _, _⟩ :: _) _ _); refine wpList_store_whole (o := ⟨none, .store 40 (.tmp 12) (.tmp 115), _, _, _, _⟩) rfl _ _ _ rfl rfl g5 #[.int .i64 (nx : Int), .int .i64 y1, .int .u64 y2, .int .u64 y3, .int .i64 y4] rfl rfl 40 _ H6.out size_entry rfl (ones5 _ _ _ _ _) ?_; intro w7 H7 X7; have HF7 := Lib.hid (HF5.out.below (HG5.out.symm ▸ X6.out.trans X7.out)); obtain ⟨m0, m1, m2, m3, m4⟩ := cells5 H7.out)
                | fail)
              go_roundg gk
              case measure => omega
              case rel => exact ⟨i + 1, q, n, nx + 1, L', _, by omega, by go_num, by go_num, HNI, HTS, HF7⟩
            · generalize e.line = y0 at *
              go_wp2_with (first
                | ((with_reducible show wpList _ _ _ (⟨some 12, .alloc _, _, _, _, _⟩ :: _) _ _); refine wpList_alloc_var (o := ⟨some 12, _, _, _, _, _⟩) rfl 40 rfl g5 HG5.out _ HZ.out ?_; intro w6 H6 X6)
                | ((with_reducible show wpList _ _ _ (⟨none, .store _ (.tmp 12) _, _, _, _, _⟩ :: _) _ _); refine wpList_store_whole (o := ⟨none, .store 40 (.tmp 12) (.tmp 115), _, _, _, _⟩) rfl _ _ _ rfl rfl g5 #[.int .i64 y0, .int .i64 y1, .int .u64 y2, .int .u64 y3, .int .i64 y4] rfl rfl 40 _ H6.out size_entry rfl (ones5 _ _ _ _ _) ?_; intro w7 H7 X7; have HF7 := Lib.hid (HF5.out.below (HG5.out.symm ▸ X6.out.trans X7.out)))
                | fail)
              go_roundg gk
              case measure => omega
              case rel => exact ⟨i + 1, q, n, nx', L', _, by omega, by go_num, by go_num, HNI, HTS, HF7⟩
          · have HNI : Hid (n ≤ 1 + (i + 1)) := by have := HNL.out; show _ ≤ _; omega
            go_wp2_with fail
            refine (rdleave_any HF.out.rd _).mono ?_
            rintro y w4 ⟨rfl, hb4, ht4⟩
            have HFa := Lib.hid (HF.out.clock hb4 ht4)
            have hz4 := hz w4 (HG.out ▸ HFa.out.bel)
            clear hb4 ht4 hz
            go_wp2_with fail
            refine (HLW.out _).mono ?_
            rintro y w' ⟨rfl, rfl⟩
            go_wp2_with fail
            refine (HPOP.out _ _ _ HFa.out).mono ?_
            rintro y w5 ⟨e, hb, L', nx', rfl, hbr, hcs, hts⟩
            have HF5 := Lib.hid hbr
            have HTS := Lib.hid hts
            obtain ⟨g5, hg5⟩ : ∃ g5, w5.heap.size = g5 := ⟨_, rfl⟩
            have HG5 := Lib.hid hg5
            clear hbr hts hg5
            generalize e.cl = y1 at *
            generalize (e.r : Int) = y2 at *
            generalize (e.d : Int) = y3 at *
            generalize e.anti = y4 at *
            rcases hcs with ⟨rfl, he, rfl⟩ | ⟨rfl, rfl⟩
            · generalize e.line = y0 at *
              subst he
              have hne : ((nx : Int) != (nx : Int)) = false := by simp
              go_wp2_with (first
                | ((with_reducible show wpList _ _ _ (⟨some 12, .alloc _, _, _, _, _⟩ :: _) _ _); refine wpList_alloc_var (o := ⟨some 12, _, _, _, _, _⟩) rfl 40 rfl g5 HG5.out _ HZ.out ?_; intro w6 H6 X6)
                | ((with_reducible show wpList _ _ _ (⟨none, .store _ (.tmp 12) _, _, _, _, _⟩ :: _) _ _); refine wpList_store_whole (o := ⟨none, .store 40 (.tmp 12) (.tmp 115), _, _, _, _⟩) rfl _ _ _ rfl rfl g5 #[.int .i64 (nx : Int), .int .i64 y1, .int .u64 y2, .int .u64 y3, .int .i64 y4] rfl rfl 40 _ H6.out size_entry rfl (ones5 _ _ _ _ _) ?_; intro w7 H7 X7; have HF7 := Lib.hid (HF5.out.below (HG5.out.symm ▸ X6.out.trans X7.out)); obtain ⟨m0, m1, m2, m3, m4⟩ := cells5 H7.out)
                | fail)
              go_roundg gk
              case measure => omega
              case rel => exact ⟨i + 1, q, n, nx + 1, L', _, by omega, by go_num, by go_num, HNI, HTS, HF7⟩
            · generalize e.line = y0 at *
              go_wp2_with (first
                | ((with_reducible show wpList _ _ _ (⟨some 12, .alloc _, _, _, _, _⟩ :: _) _ _); refine wpList_alloc_var (o := ⟨some 12, _, _, _, _, _⟩) rfl 40 rfl g5 HG5.out _ HZ.out ?_; intro w6 H6 X6)
                | ((with_reducible show wpList _ _ _ (⟨none, .store _ (.tmp 12) _, _, _, _, _⟩ :: _) _ _); refine wpList_store_whole (o := ⟨none, .store 40 (.tmp 12) (.tmp 115), _, _, _, _⟩) rfl _ _ _ rfl rfl g5 #[.int .i64 y0, .int .i64 y1, .int .u64 y2, .int .u64 y3, .int .i64 y4] rfl rfl 40 _ H6.out size_entry rfl (ones5 _ _ _ _ _) ?_; intro w7 H7 X7; have HF7 := Lib.hid (HF5.out.below (HG5.out.symm ▸ X6.out.trans X7.out)))
                | fail)
              go_roundg gk
              case measure => omega
              case rel => exact ⟨i + 1, q, n, nx', L', _, by omega, by go_num, by go_num, HNI, HTS, HF7⟩
          · have HNI : Hid (n ≤ 1 + (i + 1)) := by have := HNL.out; show _ ≤ _; omega
            have HFa := HF
            go_wp2_with fail
            refine (HLW.out _).mono ?_
            rintro y w' ⟨rfl, rfl⟩
            go_wp2_with fail
            refine (HPOP.out _ _ _ HFa.out).mono ?_
            rintro y w5 ⟨e, hb, L', nx', rfl, hbr, hcs, hts⟩
            have HF5 := Lib.hid hbr
            have HTS := Lib.hid hts
            obtain ⟨g5, hg5⟩ : ∃ g5, w5.heap.size = g5 := ⟨_, rfl⟩
            have HG5 := Lib.hid hg5
            clear hbr hts hg5
            generalize e.cl = y1 at *
            generalize (e.r : Int) = y2 at *
            generalize (e.d : Int) = y3 at *
            generalize e.anti = y4 at *
            rcases hcs with ⟨rfl, he, rfl⟩ | ⟨rfl, rfl⟩
            · generalize e.line = y0 at *
              subst he
              have hne : ((nx : Int) != (nx : Int)) = false := by simp
              go_wp2_with (first
                | ((with_reducible show wpList _ _ _ (⟨some 12, .alloc _, _, _, _, _⟩ :: _) _ _); refine wpList_alloc_var (o := ⟨some 12, _, _, _, _, _⟩) rfl 40 rfl g5 HG5.out _ HZ.out ?_; intro w6 H6 X6)
                | ((with_reducible show wpList _ _ _ (⟨none, .store _ (.tmp 12) _, _, _, _, _⟩ :: _) _ _); refine wpList_store_whole (o := ⟨none, .store 40 (.tmp 12) (.tmp 115), _, _, _, _⟩) rfl _ _ _ rfl rfl g5 #[.int .i64 (nx : Int), .int .i64 y1, .int .u64 y2, .int .u64 y3, .int .i64 y4] rfl rfl 40 _ H6.out size_entry rfl (ones5 _ _ _ _ _) ?_; intro w7 H7 X7; have HF7 := Lib.hid (HF5.out.below (HG5.out.symm ▸ X6.out.trans X7.out)); obtain ⟨m0, m1, m2, m3, m4⟩ := cells5 H7.out)
                | fail)
              go_roundg gk
              case measure => omega
              case rel => exact ⟨i + 1, q, n, nx + 1, L', _, by omega, by go_num, by go_num, HNI, HTS, HF7⟩
            · generalize e.line = y0 at *
              go_wp2_with (first
                | ((with_reducible show wpList _ _ _ (⟨some 12, .alloc _, _, _, _, _⟩ :: _) _ _); refine wpList_alloc_var (o := ⟨some 12, _, _, _, _, _⟩) rfl 40 rfl g5 HG5.out _ HZ.out ?_; intro w6 H6 X6)
                | ((with_reducible show wpList _ _ _ (⟨none, .store _ (.tmp 12) _, _, _, _, _⟩ :: _) _ _); refine wpList_store_whole (o := ⟨none, .store 40 (.tmp 12) (.tmp 115), _, _, _, _⟩) rfl _ _ _ rfl rfl g5 #[.int .i64 y0, .int .i64 y1, .int .u64 y2, .int .u64 y3, .int .i64 y4] rfl rfl 40 _ H6.out size_entry rfl (ones5 _ _ _ _ _) ?_; intro w7 H7 X7; have HF7 := Lib.hid (HF5.out.below (HG5.out.symm ▸ X6.out.trans X7.out)))
                | fail)
              go_roundg gk
              case measure => omega
              case rel => exact ⟨i + 1, q, n, nx', L', _, by omega, by go_num, by go_num, HNI, HTS, HF7⟩
    | succ gk =>
      have hii : (i : Int) < (len0 : Int) := by omega
      obtain ⟨b0, off, z, rfl, hz⟩ := HI0.out i (by omega)
      have hz0 := hz wr (HG.out ▸ HF.out.bel)
      obtain ⟨c0, c1, c2, c3, c4⟩ := cells5 HE.out
      have fz := frozen5 HE.out
      obtain ⟨u1, hu1, hu1'⟩ := and_small z 1 (by omega)
      replace hu1 : bits BinOp.and IntKind.i64 z 1 = (u1 : Int) := hu1
      obtain ⟨u2, hu2, hu2'⟩ := and_small (z / 2) 1 (by omega)
      replace hu2 : bits BinOp.and IntKind.i64 (z / 2) 1 = (u2 : Int) := hu2
      go_wp2
      go_region
      obtain ⟨x1, hx1⟩ : ∃ x1, (wr.setCell ⟨bx, 2, none⟩ (.int .u64 ((R : Int) + (u1 : Int)))).drew = x1 := ⟨_, rfl⟩
      have ht1 : Turns bx bx wr x1 := by rw [← hx1]; exact Turns.drew (turns_q bx bx wr 2 _)
      have he1 : x1.heap[bx]? = some (.cells #[.int .i64 ln, .int .i64 0, .int .u64 ((R : Int) + (u1 : Int)), .int .u64 (D : Nat), .int .i64 (-1)] 40 (0, 0)) := by
        rw [← hx1]
        exact (heap_setCell_same wr bx 2 _ _ _ HE.out).trans (by simp)
      have HF1 := Lib.hid (HF.out.boxed ht1 HGX.out HDQ.out HDA.out)
      rw [hx1]
      have HE1 := Lib.hid he1
      have hz1 := hz x1 (HG.out ▸ HF1.out.bel)
      clear c0 c1 c2 c3 c4 fz hx1 ht1 he1 hz0
      obtain ⟨c0, c1, c2, c3, c4⟩ := cells5 HE1.out
      have fz := frozen5 HE1.out
      go_wp2
      go_region
      obtain ⟨x2, hx2⟩ : ∃ x2, (x1.setCell ⟨bx, 3, none⟩ (.int .u64 ((D : Int) + (u2 : Int)))).drew = x2 := ⟨_, rfl⟩
      have ht2 : Turns bx bx x1 x2 := by rw [← hx2]; exact Turns.drew (turns_q bx bx x1 3 _)
      have he2 : x2.heap[bx]? = some (.cells #[.int .i64 ln, .int .i64 0, .int .u64 ((R : Int) + (u1 : Int)), .int .u64 ((D : Int) + (u2 : Int)), .int .i64 (-1)] 40 (0, 0)) := by
        rw [← hx2]
        exact (heap_setCell_same x1 bx 3 _ _ _ HE1.out).trans (by simp)
      have HF2 := Lib.hid (HF1.out.boxed ht2 HGX.out HDQ.out HDA.out)
      rw [hx2]
      have HE2 := Lib.hid he2
      clear c0 c1 c2 c3 c4 fz hx2 ht2 he2 hz1
      obtain ⟨x3, hx3⟩ : ∃ x3, x2.setCell ⟨bx, 0, none⟩ (.int .i64 (2 + (i : Int))) = x3 := ⟨_, rfl⟩
      have ht3 : Turns bx bx x2 x3 := by rw [← hx3]; exact turns_q bx bx x2 0 _
      have he3 : x3.heap[bx]? = some (.cells #[.int .i64 (2 + (i : Int)), .int .i64 0, .int .u64 ((R : Int) + (u1 : Int)), .int .u64 ((D : Int) + (u2 : Int)), .int .i64 (-1)] 40 (0, 0)) := by
        rw [← hx3]
        exact (heap_setCell_same x2 bx 0 _ _ _ HE2.out).trans (by simp)
      have HF3 := Lib.hid (HF2.out.boxed ht3 HGX.out HDQ.out HDA.out)
      have HE3 := Lib.hid he3
      have a0' := (cells5 HE2.out).1
      have f0' := frozen5 HE2.out 0
      clear ht3 he3
      obtain ⟨c0, c1, c2, c3, c4⟩ := cells5 HE3.out
      have hE : putE L ⟨2 + (i : Int), 0, R + u1, D + u2, -1⟩ = 0 := putE_ok.2 ⟨by simp [En.bad]; omega, by have := HT.out.1; omega⟩
      have hB : putB L ⟨2 + (i : Int), 0, R + u1, D + u2, -1⟩ = L ++ [⟨2 + (i : Int), 0, R + u1, D + u2, -1⟩] := by unfold putB; rw [hE]; rfl
      have hpu := bgput_any HF3.out.bg HF3.out.gw ⟨2 + (i : Int), 0, R + u1, D + u2, -1⟩
      rw [hE, hB] at hpu
      have HPU : Hid (Calls Try.prog 18 #[.pointer (some ⟨g, 0, none⟩), .agg #[.int .i64 (2 + (i : Int)), .int .i64 0, .int .u64 ((R : Int) + (u1 : Int)), .int .u64 ((D : Int) + (u2 : Int)), .int .i64 (-1)]] x3 fun x w' => x = .returned (.int .i64 0) ∧ BgTo x3 g g q (L ++ [⟨2 + (i : Int), 0, R + u1, D + u2, -1⟩]) w') := hpu
      have HT2 : Hid ((L ++ [(⟨2 + (i : Int), 0, R + u1, D + u2, -1⟩ : En)]).length = i + 1 ∧ TuE (L ++ [⟨2 + (i : Int), 0, R + u1, D + u2, -1⟩]) 2 ∧ ∀ x ∈ L ++ [(⟨2 + (i : Int), 0, R + u1, D + u2, -1⟩ : En)], x.r ≤ R + u1 ∧ x.d ≤ D + u2) := by
        obtain ⟨t1, t2, t3⟩ := HT.out
        refine ⟨by simp [t1], t2.put (by rw [t1]; show 2 + (i : Int) = _; omega) (fun x hx => by have := t3 x hx; exact ⟨by show x.r ≤ R + u1; omega, by show x.d ≤ D + u2; omega⟩), fun x hx => ?_⟩
        rcases List.mem_append.1 hx with h | h
        · have := t3 x h; omega
        · obtain rfl : x = _ := List.mem_singleton.1 h
          exact ⟨Nat.le_refl _, Nat.le_refl _⟩
      clear hE hB hpu hz
      go_wp2_with fail
      refine HPU.out.mono ?_
      rintro y x4 ⟨rfl, hb4⟩
      obtain ⟨q4, hb4, hq4, ht4⟩ := HF3.out.moved2 hb4
      have HF4 := Lib.hid hb4
      have HE4 := Lib.hid ((ht4.block bx HDQ.out.1.symm HDQ.out.2.2.1.symm (lt_of_heap HE3.out)).trans HE3.out)
      have HDQ4 := Lib.hid (HDQ.out.moved (.inr hq4) (lt_of_heap HE3.out) (lt_of_heap HE3.out))
      clear hb4 hq4 ht4
      go_wp2
      go_roundg gk
      case measure => omega
      case rel => exact ⟨i + 1, q4, R + u1, D + u2, _, 2 + (i : Int), by omega, by go_num, by omega, by omega, HT2, HF4, HE4, HDQ4⟩
theorem walk (a0 : Option Addr) (len0 cap0 : Nat) (z0 : List Int) (a1 : Option Addr) (len1 cap1 : Nat) (z1 : List Int) (w : World) (w0 : IsRow .i64 w a0 len0 cap0 z0) (w1 : IsRow .i64 w a1 len1 cap1 z1) :
    Calls Try.prog 5 #[.slice a0 len0 cap0, .slice a1 len1 cap1] w fun e w' => e = .returned (.bool true) ∧ Below w.heap.size w w' := by
  have hl0 : len0 ≤ 2 ^ 63 - 1 := by
    rcases w0 with ⟨_, h, _⟩ | ⟨_, _, h1, h2, _⟩
    · omega
    · unfold maxLen at h2; omega
  have hl1 : len1 ≤ 2 ^ 63 - 1 := by
    rcases w1 with ⟨_, h, _⟩ | ⟨_, _, h1, h2, _⟩
    · omega
    · unfold maxLen at h2; omega
  rcases Classical.em (60 < len0 ∨ 120 < len1) with h | h
  · exact many a0 len0 cap0 a1 len1 cap1 w h hl0 hl1
  · exact turned a0 len0 cap0 z0 a1 len1 cap1 z1 w w0 w1 (by omega) (by omega)

set_option maxRecDepth 100000 in
theorem lifted (os : Os) (started : os.Started) (H : Type) (enc : TypeId × Value → H) :
    ReturnsInHanded {} Try.checked os 5 .any (Rows.limboTurnsSpec.pre6 enc Try.prog Try.f5 Rows.limboTurnsRow.domain false) (Rows.limboTurnsSpec.post enc Try.prog Try.f5 false true false false) := by
  refine returnsInHanded_of_change (C := Try.checked) own started (by kernel_rfl) Try.func5
    (ChangeSpec.witness6 (enc := enc) (C := Try.checked) false ⟨#[], #[.slice none 0 0, .slice none 0 0], []⟩ 8 (by kernel_rfl) (by kernel_rfl) (by kernel_rfl) (by kernel_rfl)) ?_
  intro W base args ds gs before hval0 hW hcnd _
  have hval : ∀ (j : Nat) t v, Try.f5.params[j]? = some t → args[j]? = some v → Value.okWide Try.prog W .any base t v := hval0
  have hW' := hW
  obtain ⟨p, q, hA0, hV, rfl, hfz, hnd⟩ := hW
  have hA : DataW.TrodAll enc Try.prog W 0 (fun _ => true) true Try.f5.params.toList args.toList ds p := hA0
  rw [Try.params5] at hA hval
  obtain ⟨v0, vs0, d0, ds0, p0, q0, hargs, rfl, rfl, h0, r0⟩ := trodAll_cons hA
  obtain ⟨v1, vs1, d1, ds1, p1, q1, rfl, rfl, rfl, h1, r1⟩ := trodAll_cons r0
  obtain ⟨rfl, rfl, rfl⟩ := trodAll_nil r1
  obtain rfl : args = #[v0, v1] := by cases args; simp_all
  obtain ⟨rfl, rfl⟩ := trodVars_none hV
  obtain ⟨a0, len0, cap0, rfl⟩ := okWide_slice Try.underlying56 (hval 0 56 v0 rfl rfl)
  have k0 := h0
  have lt0 : ∀ x ∈ p0, x.block < W.heap.size := by obtain ⟨m, hm⟩ := k0; exact DataW.trod_lt m _ _ _ hm
  obtain ⟨z0, w0⟩ : ∃ zs, IsRow .i64 W a0 len0 cap0 zs := by
    obtain ⟨fuel, hf⟩ := h0
    rcases open_ints Try.underlying56 Try.underlying3 (by kernel_rfl) hf with ⟨hcs, _⟩ | ⟨x, l, c, zs, hcs, _, hl, hm, hz, _, hcell, hwz⟩
    · simp [Value.cells] at hcs
      obtain ⟨rfl, rfl, rfl⟩ := hcs
      exact ⟨[], .inl ⟨rfl, rfl, rfl, rfl⟩⟩
    · simp [Value.cells] at hcs
      obtain ⟨rfl, rfl, rfl⟩ := hcs
      exact ⟨zs, .inr ⟨_, rfl, hl, hm, by simpa using hz, hcell, hwz⟩⟩
  obtain ⟨a1, len1, cap1, rfl⟩ := okWide_slice Try.underlying56 (hval 1 56 v1 rfl rfl)
  have k1 := h1
  have lt1 : ∀ x ∈ p1, x.block < W.heap.size := by obtain ⟨m, hm⟩ := k1; exact DataW.trod_lt m _ _ _ hm
  obtain ⟨z1, w1⟩ : ∃ zs, IsRow .i64 W a1 len1 cap1 zs := by
    obtain ⟨fuel, hf⟩ := h1
    rcases open_ints Try.underlying56 Try.underlying3 (by kernel_rfl) hf with ⟨hcs, _⟩ | ⟨x, l, c, zs, hcs, _, hl, hm, hz, _, hcell, hwz⟩
    · simp [Value.cells] at hcs
      obtain ⟨rfl, rfl, rfl⟩ := hcs
      exact ⟨[], .inl ⟨rfl, rfl, rfl, rfl⟩⟩
    · simp [Value.cells] at hcs
      obtain ⟨rfl, rfl, rfl⟩ := hcs
      exact ⟨zs, .inr ⟨_, rfl, hl, hm, by simpa using hz, hcell, hwz⟩⟩
  clear hA0 hval0
  refine (walk a0 len0 cap0 z0 a1 len1 cap1 z1 W w0 w1).mono fun e W' ⟨he, bel⟩ => ?_
  subst he
  exact ⟨_, rfl, _, _, _, [], _, [], hW', trodAll_mk1 (shut_bool Try.underlying4 _), (trodAll_cons_mk (Below.trod laidOut (by kernel_rfl) (of_decide_eq_true (by kernel_rfl)) k0 bel lt0) (trodAll_cons_mk (Below.trod laidOut (by kernel_rfl) (of_decide_eq_true (by kernel_rfl)) k1 bel lt1) trodAll_mk0)), rfl, bel.frame _, fun h => by cases h⟩

theorem over : Rows.limboTurnsRow.holds Try.pinned (OpenSpec.ofChange Rows.limboTurnsSpec) :=
  OpenClaim.holds_of_wide 5 Try.f5 rfl rfl rfl rfl rfl rfl rfl ⟨rfl, rfl, rfl, rfl, rfl⟩ rfl rfl rfl rfl rfl (by kernel_rfl) Try.func5 (by kernel_rfl)
    (of_decide_eq_true (by kernel_rfl)) (by unfold Func.isWrapper; first | (rw [if_pos (by decide +kernel)]; kernel_rfl) | (rw [if_neg (by decide +kernel)]; exact ⟨rfl, rfl⟩))
    (fun os started H enc _ => lifted os started H enc)

theorem proved : Rows.LimboTurnsSaid := over
#print axioms proved
end Go.Proofs.Ytfonjkbdonbjdaa.limboTurns
