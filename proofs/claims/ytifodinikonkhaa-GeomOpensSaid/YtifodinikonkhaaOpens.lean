/-
Proved here: GeomOpens answers true for all arguments: what lies on a device is opened, or refused, as the document says, whatever is stored to its first lines, and behind a cut.
Conditions: none.
-/
import Derived.Test.YtifodinikonkhaaRows
import Derived.Test.YtifodinikonkhaaGeomF
import Derived.Test.YtifodinikonkhaaNum
import Derived.IntWalk
import Derived.WalkSmall
import Derived.Deep.QuietTactic
import Derived.BigQuiet
import Derived.WalkKit
import Derived.ProofKit
import Derived.OpenShut
import Derived.ShutString
import Derived.ChangeOld
import Derived.Below
namespace Go.Proofs.Ytifodinikonkhaa.geomOpens
open Go.ChangeShapes Go.WideShapes Go.ChangeAt Go.RowKit
open Go.ChangeMaps (open_string shut_string)
set_option linter.unusedVariables false

theorem own : ownKnob Try.prog.godebug = none := by kernel_rfl
theorem laidOut : laidOutB Try.prog = true := by kernel_rfl

theorem cap_ge {w : World} {a : Option Addr} {len cap : Nat} {zs : List Int} (h : IsRow .u8 w a len cap zs) : len ≤ cap := by
  rcases h with ⟨rfl, rfl, rfl, rfl⟩ | ⟨x, rfl, hlc, _⟩
  · exact Nat.le_refl _
  · exact hlc
theorem row_far {w : World} {A : Option Addr} {l : List UInt8} (h : Row w A l) {p q : Nat} (hp : w.heap.size ≤ p) (hq : w.heap.size ≤ q) : 0 < l.length → ∀ x, A = some x → x.block ≠ p ∧ x.block ≠ q := by
  intro hl x hx
  obtain ⟨b, off, e, hlt, _⟩ := h.2 hl
  rw [e] at hx
  injection hx with hx
  subst hx
  exact ⟨by show b ≠ p; omega, by show b ≠ q; omega⟩

set_option maxHeartbeats 4000000 in
set_option maxRecDepth 100000 in
theorem main (n k : Nat) (a1 : Bool) (a2 a3 : Int) (A : Option Addr) (m c : Nat) (l : List UInt8) (v : Nat) (a6 : Bool) (w : World) (h1 : 1 ≤ n) (h40 : n ≤ 40) (hm : m ≤ 64) (hl : l.length = m) (hr : Row w A l) (hc0 : A = none → c = 0) (hv : v < 18446744073709551616) (hk : low a2 3 = k) :
    Calls Try.prog 8 #[.int .i64 n, .bool a1, .int .i64 a2, .int .i64 a3, .slice A m c, .int .u64 v, .bool a6] w fun e w' => e = .returned (.bool true) ∧ Below w.heap.size w w' := by
  have HN1 := Lib.hid (new_ok n h1 (by omega) w)
  have HN2 := Lib.hid (fun W => rnew_ok n h1 (by omega) W)
  have hlow : ∀ W, Calls Try.prog 28 #[.int .i64 a2, .int .i64 3] W fun e w' => e = .returned (.int .i64 k) ∧ W = w' := fun W => hk ▸ low_any a2 3 W (by omega) (by omega)
  have HLOW := Lib.hid hlow
  have HL := Lib.hid hl
  have HR := Lib.hid hr
  have HC0 := Lib.hid hc0
  have HCK := Lib.hid (fun W => clock_ok v hv W)
  have HRK := Lib.hid (fun W => rclock_ok v hv W)
  have HLc := Lib.hid (clockL_len v)
  have HFL : Hid ((fresh n).length = n) := by show _ = _; simp [fresh]
  generalize clockL v = xc at *
  have hm' : ¬ (64 : Int) < (m : Int) := by omega
  have hn' : ¬ (40 : Int) < (n : Int) := by omega
  clear hl hr hc0 hk hlow hv
  go_enter Try.func8, Try.ntmps8
  go_wp2_with fail
  refine HN1.out.mono ?_
  rintro e v1 ⟨p, q, rfl, hp, hq, hd, hb⟩
  have P1 := Lib.hid (And.intro hp (And.intro hq (And.intro hd hb)))
  clear hp hq hd hb
  go_wp2_with fail
  refine (HN2.out v1).mono ?_
  rintro e X ⟨p', q', rfl, hp, hq, hd, hb⟩
  have BO := Lib.hid (Both.mk' P1.out.1 P1.out.2.1 P1.out.2.2.1 P1.out.2.2.2 hp hq hd hb)
  have SIM := Lib.hid (sim_fresh n)
  obtain ⟨s, hs⟩ : ∃ s : St, (fresh n, five0) = s := ⟨_, rfl⟩
  have HSL : Hid (s.1.length = n) := by rw [← hs]; exact HFL.out
  rw [hs] at BO SIM
  obtain ⟨r, hr⟩ : ∃ r : St, s = r := ⟨_, rfl⟩
  have BO0 : Hid (Both w X p q p' q' s r) := by rw [← hr]; exact BO.out
  have SIM0 : Hid (Sim s r) := by rw [← hr]; exact SIM.out
  clear hp hq hd hb hs hr P1 BO SIM
  go_wp2_with fail
  refine (num_any 0 X).mono ?_
  rintro e w' ⟨rfl, rfl⟩
  clear HN1 HN2 HFL
  cases a1 with
  | false =>
    go_wp2_with fail
    refine (HLOW.out X).mono ?_
    rintro e w' ⟨rfl, rfl⟩
    go_wp2_with fail
    refine (store_any BO0.out.d k a3 A m c l HL.out (HR.out.below BO0.out.b) HC0.out).mono ?_
    rintro e x1 ⟨rfl, hd, ht⟩
    have B1 := Lib.hid (BO0.out.turnD hd ht)
    clear hd ht
    go_wp2_with fail
    refine (HLOW.out x1).mono ?_
    rintro e w' ⟨rfl, rfl⟩
    go_wp2_with fail
    refine (rstore_any B1.out.e k a3 A m c l HL.out (HR.out.below B1.out.b) (row_far HR.out B1.out.hp' B1.out.hq')).mono ?_
    rintro e x2 ⟨rfl, hd, ht⟩
    have B2 := Lib.hid (B1.out.turnE hd ht)
    have S2 := Lib.hid (SIM0.out.store k a3 l)
    obtain ⟨s2, hs2⟩ : ∃ s2, St.store s k a3 l = s2 := ⟨_, rfl⟩
    obtain ⟨r2, hr2⟩ : ∃ r2, St.store r k a3 l = r2 := ⟨_, rfl⟩
    rw [hs2, hr2] at B2 S2
    clear hd ht B1 hs2 hr2 HLOW
    rcases Classical.em (a2 < 0) with hneg | hneg
    · go_wp2_with fail
      refine (HCK.out x2).mono ?_
      rintro e x3 ⟨g3, rfl, _, ha, hb⟩
      have B3 := Lib.hid (B2.out.below hb)
      have R3 := Lib.hid (ha.row (by have := HLc.out; omega))
      clear ha hb
      go_wp2_with fail
      refine (store_any B3.out.d 1 0 (some ⟨g3, 0, none⟩) 64 64 xc HLc.out R3.out (fun h => by cases h)).mono ?_
      rintro e x4 ⟨rfl, hd, ht⟩
      have B4 := Lib.hid (B3.out.turnD hd ht)
      clear hd ht
      go_wp2_with fail
      refine (HRK.out x4).mono ?_
      rintro e x5 ⟨g5, c5, rfl, ho, hb⟩
      obtain ⟨hr5, hg5⟩ := own_row64 ho HLc.out
      have B5 := Lib.hid (B4.out.below hb)
      have R5 := Lib.hid hr5
      have F5 : Hid (0 < xc.length → ∀ x, (some ⟨g5, 0, none⟩ : Option Addr) = some x → x.block ≠ p' ∧ x.block ≠ q') := (fun _ x h => by cases h; have := B4.out.e.lt_p; have := B4.out.e.lt_q; exact ⟨by show g5 ≠ p'; omega, by show g5 ≠ q'; omega⟩)
      rw [HLc.out]
      clear ho hb hr5
      go_wp2_with fail
      refine (rstore_any B5.out.e 1 0 (some ⟨g5, 0, none⟩) 64 c5 xc HLc.out R5.out F5.out).mono ?_
      rintro e x6 ⟨rfl, hd, ht⟩
      have B6 := Lib.hid (B5.out.turnE hd ht)
      have S6 := Lib.hid (S2.out.store 1 0 xc)
      obtain ⟨s4, hs4⟩ : ∃ s4, s2.store 1 0 xc = s4 := ⟨_, rfl⟩
      obtain ⟨r4, hr4⟩ : ∃ r4, r2.store 1 0 xc = r4 := ⟨_, rfl⟩
      rw [hs4, hr4] at B6 S6
      have B7 := Lib.hid B6.out
      have S7 := Lib.hid S6.out
      clear hd ht hs4 hr4 B2 B3 B4 B5 B6 S6 S2 R3 R5 F5
      cases a6 with
      | false =>
        obtain ⟨N, ok, hS1, hS2⟩ := both_super (lineV (s4) 0)
        obtain ⟨vv, fine, _, hC1, hC2⟩ := both_clock (lineV (s4) 1)
        obtain ⟨⟨aa, ab⟩, hans⟩ : ∃ x : Nat × Int, openAns ok N (s4).1.length fine vv = x := ⟨_, rfl⟩
        have HS1 := Lib.hid hS1
        have HC1 := Lib.hid hC1
        have HANS := Lib.hid hans
        rw [S7.out.lineV 0] at hS2
        rw [S7.out.lineV 1] at hC2
        rw [S7.out.len] at hans
        have HS2 := Lib.hid hS2
        have HC2 := Lib.hid hC2
        have HANS2 := Lib.hid hans
        have haa : ((aa : Int) == (aa : Int)) = true := by simp
        have hab : (ab == ab) = true := by simp
        clear hS1 hS2 hC1 hC2 hans
        go_wp2_with fail
        refine (open_any B7.out.d HS1.out HC1.out HANS.out).mono ?_
        rintro e y1 ⟨rfl, hb⟩
        have BE := Lib.hid (B7.out.below hb)
        clear hb
        go_wp2_with fail
        refine (ropen_any BE.out.e HS2.out HC2.out HANS2.out).mono ?_
        rintro e y2 ⟨rfl, hb⟩
        have BF := Lib.hid (BE.out.b.trans (hb.mono BE.out.b.size))
        clear hb
        go_wp2_with fail
        refine (num_any ab y2).mono ?_
        rintro e w' ⟨rfl, rfl⟩
        go_wp2_with fail
        refine (awake_any _).mono ?_
        rintro e y3 ⟨rfl, hb⟩
        go_wp2
        go_ret
        exact ⟨rfl, BF.out.trans (hb.mono BF.out.size)⟩
      | true =>
        go_wp2_with fail
        refine (cut_ok B7.out.d none 0 0 [] rfl (rowI_nil _ _) (fun h => by cases h)).mono ?_
        rintro e x5 ⟨V5, rfl, _, hd, ht⟩
        have B5 := Lib.hid (Both.turnD (s' := s4.cut []) B7.out hd ht)
        clear hd ht
        go_wp2_with fail
        refine (rcut_any B5.out.e none 0 0 [] rfl (rowI_nil _ _) (fun h => by cases h)).mono ?_
        rintro e x6 ⟨V6, rfl, _, hd, ht⟩
        have B6 := Lib.hid (B5.out.turnE hd ht)
        have S6 := Lib.hid (S7.out.cut [])
        obtain ⟨s6, hs6⟩ : ∃ s6, s4.cut [] = s6 := ⟨_, rfl⟩
        obtain ⟨r6, hr6⟩ : ∃ r6, r4.rcut [] = r6 := ⟨_, rfl⟩
        rw [hs6, hr6] at B6 S6
        clear hd ht B5 hs6 hr6
        obtain ⟨N, ok, hS1, hS2⟩ := both_super (lineV (s6) 0)
        obtain ⟨vv, fine, _, hC1, hC2⟩ := both_clock (lineV (s6) 1)
        obtain ⟨⟨aa, ab⟩, hans⟩ : ∃ x : Nat × Int, openAns ok N (s6).1.length fine vv = x := ⟨_, rfl⟩
        have HS1 := Lib.hid hS1
        have HC1 := Lib.hid hC1
        have HANS := Lib.hid hans
        rw [S6.out.lineV 0] at hS2
        rw [S6.out.lineV 1] at hC2
        rw [S6.out.len] at hans
        have HS2 := Lib.hid hS2
        have HC2 := Lib.hid hC2
        have HANS2 := Lib.hid hans
        have haa : ((aa : Int) == (aa : Int)) = true := by simp
        have hab : (ab == ab) = true := by simp
        clear hS1 hS2 hC1 hC2 hans
        go_wp2_with fail
        refine (open_any B6.out.d HS1.out HC1.out HANS.out).mono ?_
        rintro e y1 ⟨rfl, hb⟩
        have BE := Lib.hid (B6.out.below hb)
        clear hb
        go_wp2_with fail
        refine (ropen_any BE.out.e HS2.out HC2.out HANS2.out).mono ?_
        rintro e y2 ⟨rfl, hb⟩
        have BF := Lib.hid (BE.out.b.trans (hb.mono BE.out.b.size))
        clear hb
        go_wp2_with fail
        refine (num_any ab y2).mono ?_
        rintro e w' ⟨rfl, rfl⟩
        go_wp2_with fail
        refine (awake_any _).mono ?_
        rintro e y3 ⟨rfl, hb⟩
        go_wp2
        go_ret
        exact ⟨rfl, BF.out.trans (hb.mono BF.out.size)⟩
    · obtain ⟨s4, hs4⟩ : ∃ s4, s4 = s2 := ⟨_, rfl⟩
      obtain ⟨r4, hr4⟩ : ∃ r4, r4 = r2 := ⟨_, rfl⟩
      subst hs4
      subst hr4
      have B7 := Lib.hid B2.out
      have S7 := Lib.hid S2.out
      clear B2 S2
      cases a6 with
      | false =>
        obtain ⟨N, ok, hS1, hS2⟩ := both_super (lineV (s4) 0)
        obtain ⟨vv, fine, _, hC1, hC2⟩ := both_clock (lineV (s4) 1)
        obtain ⟨⟨aa, ab⟩, hans⟩ : ∃ x : Nat × Int, openAns ok N (s4).1.length fine vv = x := ⟨_, rfl⟩
        have HS1 := Lib.hid hS1
        have HC1 := Lib.hid hC1
        have HANS := Lib.hid hans
        rw [S7.out.lineV 0] at hS2
        rw [S7.out.lineV 1] at hC2
        rw [S7.out.len] at hans
        have HS2 := Lib.hid hS2
        have HC2 := Lib.hid hC2
        have HANS2 := Lib.hid hans
        have haa : ((aa : Int) == (aa : Int)) = true := by simp
        have hab : (ab == ab) = true := by simp
        clear hS1 hS2 hC1 hC2 hans
        go_wp2_with fail
        refine (open_any B7.out.d HS1.out HC1.out HANS.out).mono ?_
        rintro e y1 ⟨rfl, hb⟩
        have BE := Lib.hid (B7.out.below hb)
        clear hb
        go_wp2_with fail
        refine (ropen_any BE.out.e HS2.out HC2.out HANS2.out).mono ?_
        rintro e y2 ⟨rfl, hb⟩
        have BF := Lib.hid (BE.out.b.trans (hb.mono BE.out.b.size))
        clear hb
        go_wp2_with fail
        refine (num_any ab y2).mono ?_
        rintro e w' ⟨rfl, rfl⟩
        go_wp2_with fail
        refine (awake_any _).mono ?_
        rintro e y3 ⟨rfl, hb⟩
        go_wp2
        go_ret
        exact ⟨rfl, BF.out.trans (hb.mono BF.out.size)⟩
      | true =>
        go_wp2_with fail
        refine (cut_ok B7.out.d none 0 0 [] rfl (rowI_nil _ _) (fun h => by cases h)).mono ?_
        rintro e x5 ⟨V5, rfl, _, hd, ht⟩
        have B5 := Lib.hid (Both.turnD (s' := s4.cut []) B7.out hd ht)
        clear hd ht
        go_wp2_with fail
        refine (rcut_any B5.out.e none 0 0 [] rfl (rowI_nil _ _) (fun h => by cases h)).mono ?_
        rintro e x6 ⟨V6, rfl, _, hd, ht⟩
        have B6 := Lib.hid (B5.out.turnE hd ht)
        have S6 := Lib.hid (S7.out.cut [])
        obtain ⟨s6, hs6⟩ : ∃ s6, s4.cut [] = s6 := ⟨_, rfl⟩
        obtain ⟨r6, hr6⟩ : ∃ r6, r4.rcut [] = r6 := ⟨_, rfl⟩
        rw [hs6, hr6] at B6 S6
        clear hd ht B5 hs6 hr6
        obtain ⟨N, ok, hS1, hS2⟩ := both_super (lineV (s6) 0)
        obtain ⟨vv, fine, _, hC1, hC2⟩ := both_clock (lineV (s6) 1)
        obtain ⟨⟨aa, ab⟩, hans⟩ : ∃ x : Nat × Int, openAns ok N (s6).1.length fine vv = x := ⟨_, rfl⟩
        have HS1 := Lib.hid hS1
        have HC1 := Lib.hid hC1
        have HANS := Lib.hid hans
        rw [S6.out.lineV 0] at hS2
        rw [S6.out.lineV 1] at hC2
        rw [S6.out.len] at hans
        have HS2 := Lib.hid hS2
        have HC2 := Lib.hid hC2
        have HANS2 := Lib.hid hans
        have haa : ((aa : Int) == (aa : Int)) = true := by simp
        have hab : (ab == ab) = true := by simp
        clear hS1 hS2 hC1 hC2 hans
        go_wp2_with fail
        refine (open_any B6.out.d HS1.out HC1.out HANS.out).mono ?_
        rintro e y1 ⟨rfl, hb⟩
        have BE := Lib.hid (B6.out.below hb)
        clear hb
        go_wp2_with fail
        refine (ropen_any BE.out.e HS2.out HC2.out HANS2.out).mono ?_
        rintro e y2 ⟨rfl, hb⟩
        have BF := Lib.hid (BE.out.b.trans (hb.mono BE.out.b.size))
        clear hb
        go_wp2_with fail
        refine (num_any ab y2).mono ?_
        rintro e w' ⟨rfl, rfl⟩
        go_wp2_with fail
        refine (awake_any _).mono ?_
        rintro e y3 ⟨rfl, hb⟩
        go_wp2
        go_ret
        exact ⟨rfl, BF.out.trans (hb.mono BF.out.size)⟩
  | true =>
    rcases Nat.lt_or_ge n 10 with hten | hten
    · go_wp2_with fail
      refine (format_few BO0.out.d (by rw [HSL.out]; exact hten)).mono ?_
      rintro e w' ⟨rfl, rfl⟩
      go_wp2_with fail
      refine (num_any 2 X).mono ?_
      rintro e w' ⟨rfl, rfl⟩
      go_wp2_with fail
      refine (rformat_few BO0.out.e (by rw [← SIM0.out.len, HSL.out]; exact hten)).mono ?_
      rintro e w' ⟨rfl, rfl⟩
      go_wp2_with fail
      refine (HLOW.out X).mono ?_
      rintro e w' ⟨rfl, rfl⟩
      go_wp2_with fail
      refine (store_any BO0.out.d k a3 A m c l HL.out (HR.out.below BO0.out.b) HC0.out).mono ?_
      rintro e x1 ⟨rfl, hd, ht⟩
      have B1 := Lib.hid (BO0.out.turnD hd ht)
      clear hd ht
      go_wp2_with fail
      refine (HLOW.out x1).mono ?_
      rintro e w' ⟨rfl, rfl⟩
      go_wp2_with fail
      refine (rstore_any B1.out.e k a3 A m c l HL.out (HR.out.below B1.out.b) (row_far HR.out B1.out.hp' B1.out.hq')).mono ?_
      rintro e x2 ⟨rfl, hd, ht⟩
      have B2 := Lib.hid (B1.out.turnE hd ht)
      have S2 := Lib.hid (SIM0.out.store k a3 l)
      obtain ⟨s2, hs2⟩ : ∃ s2, St.store s k a3 l = s2 := ⟨_, rfl⟩
      obtain ⟨r2, hr2⟩ : ∃ r2, St.store r k a3 l = r2 := ⟨_, rfl⟩
      rw [hs2, hr2] at B2 S2
      clear hd ht B1 hs2 hr2 HLOW
      rcases Classical.em (a2 < 0) with hneg | hneg
      · go_wp2_with fail
        refine (HCK.out x2).mono ?_
        rintro e x3 ⟨g3, rfl, _, ha, hb⟩
        have B3 := Lib.hid (B2.out.below hb)
        have R3 := Lib.hid (ha.row (by have := HLc.out; omega))
        clear ha hb
        go_wp2_with fail
        refine (store_any B3.out.d 1 0 (some ⟨g3, 0, none⟩) 64 64 xc HLc.out R3.out (fun h => by cases h)).mono ?_
        rintro e x4 ⟨rfl, hd, ht⟩
        have B4 := Lib.hid (B3.out.turnD hd ht)
        clear hd ht
        go_wp2_with fail
        refine (HRK.out x4).mono ?_
        rintro e x5 ⟨g5, c5, rfl, ho, hb⟩
        obtain ⟨hr5, hg5⟩ := own_row64 ho HLc.out
        have B5 := Lib.hid (B4.out.below hb)
        have R5 := Lib.hid hr5
        have F5 : Hid (0 < xc.length → ∀ x, (some ⟨g5, 0, none⟩ : Option Addr) = some x → x.block ≠ p' ∧ x.block ≠ q') := (fun _ x h => by cases h; have := B4.out.e.lt_p; have := B4.out.e.lt_q; exact ⟨by show g5 ≠ p'; omega, by show g5 ≠ q'; omega⟩)
        rw [HLc.out]
        clear ho hb hr5
        go_wp2_with fail
        refine (rstore_any B5.out.e 1 0 (some ⟨g5, 0, none⟩) 64 c5 xc HLc.out R5.out F5.out).mono ?_
        rintro e x6 ⟨rfl, hd, ht⟩
        have B6 := Lib.hid (B5.out.turnE hd ht)
        have S6 := Lib.hid (S2.out.store 1 0 xc)
        obtain ⟨s4, hs4⟩ : ∃ s4, s2.store 1 0 xc = s4 := ⟨_, rfl⟩
        obtain ⟨r4, hr4⟩ : ∃ r4, r2.store 1 0 xc = r4 := ⟨_, rfl⟩
        rw [hs4, hr4] at B6 S6
        have B7 := Lib.hid B6.out
        have S7 := Lib.hid S6.out
        clear hd ht hs4 hr4 B2 B3 B4 B5 B6 S6 S2 R3 R5 F5
        cases a6 with
        | false =>
          obtain ⟨N, ok, hS1, hS2⟩ := both_super (lineV (s4) 0)
          obtain ⟨vv, fine, _, hC1, hC2⟩ := both_clock (lineV (s4) 1)
          obtain ⟨⟨aa, ab⟩, hans⟩ : ∃ x : Nat × Int, openAns ok N (s4).1.length fine vv = x := ⟨_, rfl⟩
          have HS1 := Lib.hid hS1
          have HC1 := Lib.hid hC1
          have HANS := Lib.hid hans
          rw [S7.out.lineV 0] at hS2
          rw [S7.out.lineV 1] at hC2
          rw [S7.out.len] at hans
          have HS2 := Lib.hid hS2
          have HC2 := Lib.hid hC2
          have HANS2 := Lib.hid hans
          have haa : ((aa : Int) == (aa : Int)) = true := by simp
          have hab : (ab == ab) = true := by simp
          clear hS1 hS2 hC1 hC2 hans
          go_wp2_with fail
          refine (open_any B7.out.d HS1.out HC1.out HANS.out).mono ?_
          rintro e y1 ⟨rfl, hb⟩
          have BE := Lib.hid (B7.out.below hb)
          clear hb
          go_wp2_with fail
          refine (ropen_any BE.out.e HS2.out HC2.out HANS2.out).mono ?_
          rintro e y2 ⟨rfl, hb⟩
          have BF := Lib.hid (BE.out.b.trans (hb.mono BE.out.b.size))
          clear hb
          go_wp2_with fail
          refine (num_any ab y2).mono ?_
          rintro e w' ⟨rfl, rfl⟩
          go_wp2_with fail
          refine (awake_any _).mono ?_
          rintro e y3 ⟨rfl, hb⟩
          go_wp2
          go_ret
          exact ⟨rfl, BF.out.trans (hb.mono BF.out.size)⟩
        | true =>
          go_wp2_with fail
          refine (cut_ok B7.out.d none 0 0 [] rfl (rowI_nil _ _) (fun h => by cases h)).mono ?_
          rintro e x5 ⟨V5, rfl, _, hd, ht⟩
          have B5 := Lib.hid (Both.turnD (s' := s4.cut []) B7.out hd ht)
          clear hd ht
          go_wp2_with fail
          refine (rcut_any B5.out.e none 0 0 [] rfl (rowI_nil _ _) (fun h => by cases h)).mono ?_
          rintro e x6 ⟨V6, rfl, _, hd, ht⟩
          have B6 := Lib.hid (B5.out.turnE hd ht)
          have S6 := Lib.hid (S7.out.cut [])
          obtain ⟨s6, hs6⟩ : ∃ s6, s4.cut [] = s6 := ⟨_, rfl⟩
          obtain ⟨r6, hr6⟩ : ∃ r6, r4.rcut [] = r6 := ⟨_, rfl⟩
          rw [hs6, hr6] at B6 S6
          clear hd ht B5 hs6 hr6
          obtain ⟨N, ok, hS1, hS2⟩ := both_super (lineV (s6) 0)
          obtain ⟨vv, fine, _, hC1, hC2⟩ := both_clock (lineV (s6) 1)
          obtain ⟨⟨aa, ab⟩, hans⟩ : ∃ x : Nat × Int, openAns ok N (s6).1.length fine vv = x := ⟨_, rfl⟩
          have HS1 := Lib.hid hS1
          have HC1 := Lib.hid hC1
          have HANS := Lib.hid hans
          rw [S6.out.lineV 0] at hS2
          rw [S6.out.lineV 1] at hC2
          rw [S6.out.len] at hans
          have HS2 := Lib.hid hS2
          have HC2 := Lib.hid hC2
          have HANS2 := Lib.hid hans
          have haa : ((aa : Int) == (aa : Int)) = true := by simp
          have hab : (ab == ab) = true := by simp
          clear hS1 hS2 hC1 hC2 hans
          go_wp2_with fail
          refine (open_any B6.out.d HS1.out HC1.out HANS.out).mono ?_
          rintro e y1 ⟨rfl, hb⟩
          have BE := Lib.hid (B6.out.below hb)
          clear hb
          go_wp2_with fail
          refine (ropen_any BE.out.e HS2.out HC2.out HANS2.out).mono ?_
          rintro e y2 ⟨rfl, hb⟩
          have BF := Lib.hid (BE.out.b.trans (hb.mono BE.out.b.size))
          clear hb
          go_wp2_with fail
          refine (num_any ab y2).mono ?_
          rintro e w' ⟨rfl, rfl⟩
          go_wp2_with fail
          refine (awake_any _).mono ?_
          rintro e y3 ⟨rfl, hb⟩
          go_wp2
          go_ret
          exact ⟨rfl, BF.out.trans (hb.mono BF.out.size)⟩
      · obtain ⟨s4, hs4⟩ : ∃ s4, s4 = s2 := ⟨_, rfl⟩
        obtain ⟨r4, hr4⟩ : ∃ r4, r4 = r2 := ⟨_, rfl⟩
        subst hs4
        subst hr4
        have B7 := Lib.hid B2.out
        have S7 := Lib.hid S2.out
        clear B2 S2
        cases a6 with
        | false =>
          obtain ⟨N, ok, hS1, hS2⟩ := both_super (lineV (s4) 0)
          obtain ⟨vv, fine, _, hC1, hC2⟩ := both_clock (lineV (s4) 1)
          obtain ⟨⟨aa, ab⟩, hans⟩ : ∃ x : Nat × Int, openAns ok N (s4).1.length fine vv = x := ⟨_, rfl⟩
          have HS1 := Lib.hid hS1
          have HC1 := Lib.hid hC1
          have HANS := Lib.hid hans
          rw [S7.out.lineV 0] at hS2
          rw [S7.out.lineV 1] at hC2
          rw [S7.out.len] at hans
          have HS2 := Lib.hid hS2
          have HC2 := Lib.hid hC2
          have HANS2 := Lib.hid hans
          have haa : ((aa : Int) == (aa : Int)) = true := by simp
          have hab : (ab == ab) = true := by simp
          clear hS1 hS2 hC1 hC2 hans
          go_wp2_with fail
          refine (open_any B7.out.d HS1.out HC1.out HANS.out).mono ?_
          rintro e y1 ⟨rfl, hb⟩
          have BE := Lib.hid (B7.out.below hb)
          clear hb
          go_wp2_with fail
          refine (ropen_any BE.out.e HS2.out HC2.out HANS2.out).mono ?_
          rintro e y2 ⟨rfl, hb⟩
          have BF := Lib.hid (BE.out.b.trans (hb.mono BE.out.b.size))
          clear hb
          go_wp2_with fail
          refine (num_any ab y2).mono ?_
          rintro e w' ⟨rfl, rfl⟩
          go_wp2_with fail
          refine (awake_any _).mono ?_
          rintro e y3 ⟨rfl, hb⟩
          go_wp2
          go_ret
          exact ⟨rfl, BF.out.trans (hb.mono BF.out.size)⟩
        | true =>
          go_wp2_with fail
          refine (cut_ok B7.out.d none 0 0 [] rfl (rowI_nil _ _) (fun h => by cases h)).mono ?_
          rintro e x5 ⟨V5, rfl, _, hd, ht⟩
          have B5 := Lib.hid (Both.turnD (s' := s4.cut []) B7.out hd ht)
          clear hd ht
          go_wp2_with fail
          refine (rcut_any B5.out.e none 0 0 [] rfl (rowI_nil _ _) (fun h => by cases h)).mono ?_
          rintro e x6 ⟨V6, rfl, _, hd, ht⟩
          have B6 := Lib.hid (B5.out.turnE hd ht)
          have S6 := Lib.hid (S7.out.cut [])
          obtain ⟨s6, hs6⟩ : ∃ s6, s4.cut [] = s6 := ⟨_, rfl⟩
          obtain ⟨r6, hr6⟩ : ∃ r6, r4.rcut [] = r6 := ⟨_, rfl⟩
          rw [hs6, hr6] at B6 S6
          clear hd ht B5 hs6 hr6
          obtain ⟨N, ok, hS1, hS2⟩ := both_super (lineV (s6) 0)
          obtain ⟨vv, fine, _, hC1, hC2⟩ := both_clock (lineV (s6) 1)
          obtain ⟨⟨aa, ab⟩, hans⟩ : ∃ x : Nat × Int, openAns ok N (s6).1.length fine vv = x := ⟨_, rfl⟩
          have HS1 := Lib.hid hS1
          have HC1 := Lib.hid hC1
          have HANS := Lib.hid hans
          rw [S6.out.lineV 0] at hS2
          rw [S6.out.lineV 1] at hC2
          rw [S6.out.len] at hans
          have HS2 := Lib.hid hS2
          have HC2 := Lib.hid hC2
          have HANS2 := Lib.hid hans
          have haa : ((aa : Int) == (aa : Int)) = true := by simp
          have hab : (ab == ab) = true := by simp
          clear hS1 hS2 hC1 hC2 hans
          go_wp2_with fail
          refine (open_any B6.out.d HS1.out HC1.out HANS.out).mono ?_
          rintro e y1 ⟨rfl, hb⟩
          have BE := Lib.hid (B6.out.below hb)
          clear hb
          go_wp2_with fail
          refine (ropen_any BE.out.e HS2.out HC2.out HANS2.out).mono ?_
          rintro e y2 ⟨rfl, hb⟩
          have BF := Lib.hid (BE.out.b.trans (hb.mono BE.out.b.size))
          clear hb
          go_wp2_with fail
          refine (num_any ab y2).mono ?_
          rintro e w' ⟨rfl, rfl⟩
          go_wp2_with fail
          refine (awake_any _).mono ?_
          rintro e y3 ⟨rfl, hb⟩
          go_wp2
          go_ret
          exact ⟨rfl, BF.out.trans (hb.mono BF.out.size)⟩
    · go_wp2_with fail
      refine (format_ok BO0.out.d (by rw [HSL.out]; omega)).mono ?_
      rintro e v2 ⟨rfl, hd, ht⟩
      have BO1 := Lib.hid (BO0.out.turnD hd ht)
      clear hd ht BO0
      go_wp2_with fail
      refine (num_any 0 v2).mono ?_
      rintro e w' ⟨rfl, rfl⟩
      go_wp2_with fail
      refine (rformat_ok BO1.out.e (by rw [← SIM0.out.len, HSL.out]; omega)).mono ?_
      rintro e v3 ⟨rfl, hd, ht⟩
      have BO2 := Lib.hid (BO1.out.turnE hd ht)
      have SIM1 := Lib.hid SIM0.out.format
      obtain ⟨sf, hsf⟩ : ∃ sf, s.format = sf := ⟨_, rfl⟩
      obtain ⟨rf, hrf⟩ : ∃ rf, r.rformat = rf := ⟨_, rfl⟩
      rw [hsf, hrf] at BO2 SIM1
      clear hd ht BO1 SIM0 hsf hrf
      go_wp2_with fail
      refine (HLOW.out v3).mono ?_
      rintro e w' ⟨rfl, rfl⟩
      go_wp2_with fail
      refine (store_any BO2.out.d k a3 A m c l HL.out (HR.out.below BO2.out.b) HC0.out).mono ?_
      rintro e x1 ⟨rfl, hd, ht⟩
      have B1 := Lib.hid (BO2.out.turnD hd ht)
      clear hd ht
      go_wp2_with fail
      refine (HLOW.out x1).mono ?_
      rintro e w' ⟨rfl, rfl⟩
      go_wp2_with fail
      refine (rstore_any B1.out.e k a3 A m c l HL.out (HR.out.below B1.out.b) (row_far HR.out B1.out.hp' B1.out.hq')).mono ?_
      rintro e x2 ⟨rfl, hd, ht⟩
      have B2 := Lib.hid (B1.out.turnE hd ht)
      have S2 := Lib.hid (SIM1.out.store k a3 l)
      obtain ⟨s2, hs2⟩ : ∃ s2, St.store sf k a3 l = s2 := ⟨_, rfl⟩
      obtain ⟨r2, hr2⟩ : ∃ r2, St.store rf k a3 l = r2 := ⟨_, rfl⟩
      rw [hs2, hr2] at B2 S2
      clear hd ht B1 hs2 hr2 HLOW
      rcases Classical.em (a2 < 0) with hneg | hneg
      · go_wp2_with fail
        refine (HCK.out x2).mono ?_
        rintro e x3 ⟨g3, rfl, _, ha, hb⟩
        have B3 := Lib.hid (B2.out.below hb)
        have R3 := Lib.hid (ha.row (by have := HLc.out; omega))
        clear ha hb
        go_wp2_with fail
        refine (store_any B3.out.d 1 0 (some ⟨g3, 0, none⟩) 64 64 xc HLc.out R3.out (fun h => by cases h)).mono ?_
        rintro e x4 ⟨rfl, hd, ht⟩
        have B4 := Lib.hid (B3.out.turnD hd ht)
        clear hd ht
        go_wp2_with fail
        refine (HRK.out x4).mono ?_
        rintro e x5 ⟨g5, c5, rfl, ho, hb⟩
        obtain ⟨hr5, hg5⟩ := own_row64 ho HLc.out
        have B5 := Lib.hid (B4.out.below hb)
        have R5 := Lib.hid hr5
        have F5 : Hid (0 < xc.length → ∀ x, (some ⟨g5, 0, none⟩ : Option Addr) = some x → x.block ≠ p' ∧ x.block ≠ q') := (fun _ x h => by cases h; have := B4.out.e.lt_p; have := B4.out.e.lt_q; exact ⟨by show g5 ≠ p'; omega, by show g5 ≠ q'; omega⟩)
        rw [HLc.out]
        clear ho hb hr5
        go_wp2_with fail
        refine (rstore_any B5.out.e 1 0 (some ⟨g5, 0, none⟩) 64 c5 xc HLc.out R5.out F5.out).mono ?_
        rintro e x6 ⟨rfl, hd, ht⟩
        have B6 := Lib.hid (B5.out.turnE hd ht)
        have S6 := Lib.hid (S2.out.store 1 0 xc)
        obtain ⟨s4, hs4⟩ : ∃ s4, s2.store 1 0 xc = s4 := ⟨_, rfl⟩
        obtain ⟨r4, hr4⟩ : ∃ r4, r2.store 1 0 xc = r4 := ⟨_, rfl⟩
        rw [hs4, hr4] at B6 S6
        have B7 := Lib.hid B6.out
        have S7 := Lib.hid S6.out
        clear hd ht hs4 hr4 B2 B3 B4 B5 B6 S6 S2 R3 R5 F5
        cases a6 with
        | false =>
          obtain ⟨N, ok, hS1, hS2⟩ := both_super (lineV (s4) 0)
          obtain ⟨vv, fine, _, hC1, hC2⟩ := both_clock (lineV (s4) 1)
          obtain ⟨⟨aa, ab⟩, hans⟩ : ∃ x : Nat × Int, openAns ok N (s4).1.length fine vv = x := ⟨_, rfl⟩
          have HS1 := Lib.hid hS1
          have HC1 := Lib.hid hC1
          have HANS := Lib.hid hans
          rw [S7.out.lineV 0] at hS2
          rw [S7.out.lineV 1] at hC2
          rw [S7.out.len] at hans
          have HS2 := Lib.hid hS2
          have HC2 := Lib.hid hC2
          have HANS2 := Lib.hid hans
          have haa : ((aa : Int) == (aa : Int)) = true := by simp
          have hab : (ab == ab) = true := by simp
          clear hS1 hS2 hC1 hC2 hans
          go_wp2_with fail
          refine (open_any B7.out.d HS1.out HC1.out HANS.out).mono ?_
          rintro e y1 ⟨rfl, hb⟩
          have BE := Lib.hid (B7.out.below hb)
          clear hb
          go_wp2_with fail
          refine (ropen_any BE.out.e HS2.out HC2.out HANS2.out).mono ?_
          rintro e y2 ⟨rfl, hb⟩
          have BF := Lib.hid (BE.out.b.trans (hb.mono BE.out.b.size))
          clear hb
          go_wp2_with fail
          refine (num_any ab y2).mono ?_
          rintro e w' ⟨rfl, rfl⟩
          go_wp2_with fail
          refine (awake_any _).mono ?_
          rintro e y3 ⟨rfl, hb⟩
          go_wp2
          go_ret
          exact ⟨rfl, BF.out.trans (hb.mono BF.out.size)⟩
        | true =>
          go_wp2_with fail
          refine (cut_ok B7.out.d none 0 0 [] rfl (rowI_nil _ _) (fun h => by cases h)).mono ?_
          rintro e x5 ⟨V5, rfl, _, hd, ht⟩
          have B5 := Lib.hid (Both.turnD (s' := s4.cut []) B7.out hd ht)
          clear hd ht
          go_wp2_with fail
          refine (rcut_any B5.out.e none 0 0 [] rfl (rowI_nil _ _) (fun h => by cases h)).mono ?_
          rintro e x6 ⟨V6, rfl, _, hd, ht⟩
          have B6 := Lib.hid (B5.out.turnE hd ht)
          have S6 := Lib.hid (S7.out.cut [])
          obtain ⟨s6, hs6⟩ : ∃ s6, s4.cut [] = s6 := ⟨_, rfl⟩
          obtain ⟨r6, hr6⟩ : ∃ r6, r4.rcut [] = r6 := ⟨_, rfl⟩
          rw [hs6, hr6] at B6 S6
          clear hd ht B5 hs6 hr6
          obtain ⟨N, ok, hS1, hS2⟩ := both_super (lineV (s6) 0)
          obtain ⟨vv, fine, _, hC1, hC2⟩ := both_clock (lineV (s6) 1)
          obtain ⟨⟨aa, ab⟩, hans⟩ : ∃ x : Nat × Int, openAns ok N (s6).1.length fine vv = x := ⟨_, rfl⟩
          have HS1 := Lib.hid hS1
          have HC1 := Lib.hid hC1
          have HANS := Lib.hid hans
          rw [S6.out.lineV 0] at hS2
          rw [S6.out.lineV 1] at hC2
          rw [S6.out.len] at hans
          have HS2 := Lib.hid hS2
          have HC2 := Lib.hid hC2
          have HANS2 := Lib.hid hans
          have haa : ((aa : Int) == (aa : Int)) = true := by simp
          have hab : (ab == ab) = true := by simp
          clear hS1 hS2 hC1 hC2 hans
          go_wp2_with fail
          refine (open_any B6.out.d HS1.out HC1.out HANS.out).mono ?_
          rintro e y1 ⟨rfl, hb⟩
          have BE := Lib.hid (B6.out.below hb)
          clear hb
          go_wp2_with fail
          refine (ropen_any BE.out.e HS2.out HC2.out HANS2.out).mono ?_
          rintro e y2 ⟨rfl, hb⟩
          have BF := Lib.hid (BE.out.b.trans (hb.mono BE.out.b.size))
          clear hb
          go_wp2_with fail
          refine (num_any ab y2).mono ?_
          rintro e w' ⟨rfl, rfl⟩
          go_wp2_with fail
          refine (awake_any _).mono ?_
          rintro e y3 ⟨rfl, hb⟩
          go_wp2
          go_ret
          exact ⟨rfl, BF.out.trans (hb.mono BF.out.size)⟩
      · obtain ⟨s4, hs4⟩ : ∃ s4, s4 = s2 := ⟨_, rfl⟩
        obtain ⟨r4, hr4⟩ : ∃ r4, r4 = r2 := ⟨_, rfl⟩
        subst hs4
        subst hr4
        have B7 := Lib.hid B2.out
        have S7 := Lib.hid S2.out
        clear B2 S2
        cases a6 with
        | false =>
          obtain ⟨N, ok, hS1, hS2⟩ := both_super (lineV (s4) 0)
          obtain ⟨vv, fine, _, hC1, hC2⟩ := both_clock (lineV (s4) 1)
          obtain ⟨⟨aa, ab⟩, hans⟩ : ∃ x : Nat × Int, openAns ok N (s4).1.length fine vv = x := ⟨_, rfl⟩
          have HS1 := Lib.hid hS1
          have HC1 := Lib.hid hC1
          have HANS := Lib.hid hans
          rw [S7.out.lineV 0] at hS2
          rw [S7.out.lineV 1] at hC2
          rw [S7.out.len] at hans
          have HS2 := Lib.hid hS2
          have HC2 := Lib.hid hC2
          have HANS2 := Lib.hid hans
          have haa : ((aa : Int) == (aa : Int)) = true := by simp
          have hab : (ab == ab) = true := by simp
          clear hS1 hS2 hC1 hC2 hans
          go_wp2_with fail
          refine (open_any B7.out.d HS1.out HC1.out HANS.out).mono ?_
          rintro e y1 ⟨rfl, hb⟩
          have BE := Lib.hid (B7.out.below hb)
          clear hb
          go_wp2_with fail
          refine (ropen_any BE.out.e HS2.out HC2.out HANS2.out).mono ?_
          rintro e y2 ⟨rfl, hb⟩
          have BF := Lib.hid (BE.out.b.trans (hb.mono BE.out.b.size))
          clear hb
          go_wp2_with fail
          refine (num_any ab y2).mono ?_
          rintro e w' ⟨rfl, rfl⟩
          go_wp2_with fail
          refine (awake_any _).mono ?_
          rintro e y3 ⟨rfl, hb⟩
          go_wp2
          go_ret
          exact ⟨rfl, BF.out.trans (hb.mono BF.out.size)⟩
        | true =>
          go_wp2_with fail
          refine (cut_ok B7.out.d none 0 0 [] rfl (rowI_nil _ _) (fun h => by cases h)).mono ?_
          rintro e x5 ⟨V5, rfl, _, hd, ht⟩
          have B5 := Lib.hid (Both.turnD (s' := s4.cut []) B7.out hd ht)
          clear hd ht
          go_wp2_with fail
          refine (rcut_any B5.out.e none 0 0 [] rfl (rowI_nil _ _) (fun h => by cases h)).mono ?_
          rintro e x6 ⟨V6, rfl, _, hd, ht⟩
          have B6 := Lib.hid (B5.out.turnE hd ht)
          have S6 := Lib.hid (S7.out.cut [])
          obtain ⟨s6, hs6⟩ : ∃ s6, s4.cut [] = s6 := ⟨_, rfl⟩
          obtain ⟨r6, hr6⟩ : ∃ r6, r4.rcut [] = r6 := ⟨_, rfl⟩
          rw [hs6, hr6] at B6 S6
          clear hd ht B5 hs6 hr6
          obtain ⟨N, ok, hS1, hS2⟩ := both_super (lineV (s6) 0)
          obtain ⟨vv, fine, _, hC1, hC2⟩ := both_clock (lineV (s6) 1)
          obtain ⟨⟨aa, ab⟩, hans⟩ : ∃ x : Nat × Int, openAns ok N (s6).1.length fine vv = x := ⟨_, rfl⟩
          have HS1 := Lib.hid hS1
          have HC1 := Lib.hid hC1
          have HANS := Lib.hid hans
          rw [S6.out.lineV 0] at hS2
          rw [S6.out.lineV 1] at hC2
          rw [S6.out.len] at hans
          have HS2 := Lib.hid hS2
          have HC2 := Lib.hid hC2
          have HANS2 := Lib.hid hans
          have haa : ((aa : Int) == (aa : Int)) = true := by simp
          have hab : (ab == ab) = true := by simp
          clear hS1 hS2 hC1 hC2 hans
          go_wp2_with fail
          refine (open_any B6.out.d HS1.out HC1.out HANS.out).mono ?_
          rintro e y1 ⟨rfl, hb⟩
          have BE := Lib.hid (B6.out.below hb)
          clear hb
          go_wp2_with fail
          refine (ropen_any BE.out.e HS2.out HC2.out HANS2.out).mono ?_
          rintro e y2 ⟨rfl, hb⟩
          have BF := Lib.hid (BE.out.b.trans (hb.mono BE.out.b.size))
          clear hb
          go_wp2_with fail
          refine (num_any ab y2).mono ?_
          rintro e w' ⟨rfl, rfl⟩
          go_wp2_with fail
          refine (awake_any _).mono ?_
          rintro e y3 ⟨rfl, hb⟩
          go_wp2
          go_ret
          exact ⟨rfl, BF.out.trans (hb.mono BF.out.size)⟩

set_option maxHeartbeats 800000 in
theorem walk (a0 : Int) (a1 : Bool) (a2 : Int) (a3 : Int) (a4 : Option Addr) (len4 cap4 : Nat) (z4 : List Int) (a5 : Int) (a6 : Bool) (w : World) (w0 : (Lit.int .i64 a0).wf = true) (w2 : (Lit.int .i64 a2).wf = true) (w3 : (Lit.int .i64 a3).wf = true) (w4 : IsRow .u8 w a4 len4 cap4 z4) (w5 : (Lit.int .u64 a5).wf = true) :
    Calls Try.prog 8 #[.int .i64 a0, .bool a1, .int .i64 a2, .int .i64 a3, .slice a4 len4 cap4, .int .u64 a5, .bool a6] w fun e w' => e = .returned (.bool true) ∧ Below w.heap.size w w' := by
  rcases Nat.lt_or_ge 64 len4 with h4 | h4
  · have hl : (64 : Int) < (len4 : Int) := by omega
    clear h4 w0 w2 w3 w4 w5
    go_enter Try.func8, Try.ntmps8
    go_wp2_with fail
    refine (awake_any _).mono ?_
    rintro e w' ⟨rfl, hb⟩
    go_wp2
    go_ret
    exact ⟨rfl, hb⟩
  · rcases Classical.em (40 < a0) with h40 | h40
    · have hl : ¬ (64 : Int) < (len4 : Int) := by omega
      clear h4 w0 w2 w3 w4 w5
      go_enter Try.func8, Try.ntmps8
      go_wp2_with fail
      refine (awake_any _).mono ?_
      rintro e w' ⟨rfl, hb⟩
      go_wp2
      go_ret
      exact ⟨rfl, hb⟩
    · rcases Classical.em (a0 < 1) with h1 | h1
      · have hl : ¬ (64 : Int) < (len4 : Int) := by omega
        have HB1 := Lib.hid (new_bad a0 (.inl h1) w)
        have HB2 := Lib.hid (rnew_bad a0 (.inl h1) w)
        clear h4 w0 w2 w3 w4 w5
        go_enter Try.func8, Try.ntmps8
        go_wp2_with fail
        refine HB1.out.mono ?_
        rintro e w' ⟨rfl, rfl⟩
        go_wp2_with fail
        refine HB2.out.mono ?_
        rintro e w' ⟨rfl, rfl⟩
        go_wp2_with fail
        refine (num_any 2 w).mono ?_
        rintro e w' ⟨rfl, rfl⟩
        go_wp2_with fail
        refine (format_nil w).mono ?_
        rintro e w' ⟨rfl, rfl⟩
        go_wp2_with fail
        refine (awake_any _).mono ?_
        rintro e w' ⟨rfl, hb⟩
        go_wp2
        go_ret
        exact ⟨rfl, hb⟩
      · obtain ⟨n, rfl⟩ : ∃ n : Nat, a0 = (n : Int) := ⟨a0.toNat, by omega⟩
        have hb := bounds_u64 w5
        obtain ⟨v, rfl⟩ : ∃ v : Nat, a5 = (v : Int) := ⟨a5.toNat, by omega⟩
        obtain ⟨l, e4, r4, c4⟩ := w4.row (by omega)
        exact main n _ a1 a2 a3 a4 len4 cap4 l v a6 w (by omega) (by omega) h4 e4 r4 c4 (by omega) rfl

/-! ### THE ROW's STEP: WRITTEN OUT: LEAVE IT -/
set_option maxRecDepth 100000 in
theorem lifted (os : Os) (started : os.Started) (H : Type) (enc : TypeId × Value → H) :
    ReturnsInHanded {} Try.checked os 8 .any (Rows.geomOpensSpec.pre6 enc Try.prog Try.f8 Rows.geomOpensRow.domain false) (Rows.geomOpensSpec.post enc Try.prog Try.f8 false true false false) := by
  refine returnsInHanded_of_change (C := Try.checked) own started (by kernel_rfl) Try.func8
    (ChangeSpec.witness6 (enc := enc) (C := Try.checked) false ⟨#[], #[.int .i64 0, .bool false, .int .i64 0, .int .i64 0, .slice none 0 0, .int .u64 0, .bool false], []⟩ 8 (by kernel_rfl) (by kernel_rfl) (by kernel_rfl) (by kernel_rfl)) ?_
  intro W base args ds gs before hval0 hW hcnd _
  have hval : ∀ (j : Nat) t v, Try.f8.params[j]? = some t → args[j]? = some v → Value.okWide Try.prog W .any base t v := hval0
  have hW' := hW
  obtain ⟨p, q, hA0, hV, rfl, hfz, hnd⟩ := hW
  have hA : DataW.TrodAll enc Try.prog W 0 (fun _ => true) true Try.f8.params.toList args.toList ds p := hA0
  rw [Try.params8] at hA hval
  obtain ⟨v0, vs0, d0, ds0, p0, q0, hargs, rfl, rfl, h0, r0⟩ := trodAll_cons hA
  obtain ⟨v1, vs1, d1, ds1, p1, q1, rfl, rfl, rfl, h1, r1⟩ := trodAll_cons r0
  obtain ⟨v2, vs2, d2, ds2, p2, q2, rfl, rfl, rfl, h2, r2⟩ := trodAll_cons r1
  obtain ⟨v3, vs3, d3, ds3, p3, q3, rfl, rfl, rfl, h3, r3⟩ := trodAll_cons r2
  obtain ⟨v4, vs4, d4, ds4, p4, q4, rfl, rfl, rfl, h4, r4⟩ := trodAll_cons r3
  obtain ⟨v5, vs5, d5, ds5, p5, q5, rfl, rfl, rfl, h5, r5⟩ := trodAll_cons r4
  obtain ⟨v6, vs6, d6, ds6, p6, q6, rfl, rfl, rfl, h6, r6⟩ := trodAll_cons r5
  obtain ⟨rfl, rfl, rfl⟩ := trodAll_nil r6
  obtain rfl : args = #[v0, v1, v2, v3, v4, v5, v6] := by cases args; simp_all
  obtain ⟨rfl, rfl⟩ := trodVars_none hV
  obtain ⟨a0, rfl, rfl, rfl, w0⟩ := open_int Try.underlying3 (hval 0 3 v0 rfl rfl) h0
  obtain ⟨a1, rfl, rfl, rfl⟩ := open_bool Try.underlying4 (hval 1 4 v1 rfl rfl) h1
  obtain ⟨a2, rfl, rfl, rfl, w2⟩ := open_int Try.underlying3 (hval 2 3 v2 rfl rfl) h2
  obtain ⟨a3, rfl, rfl, rfl, w3⟩ := open_int Try.underlying3 (hval 3 3 v3 rfl rfl) h3
  obtain ⟨a4, len4, cap4, rfl⟩ := okWide_slice Try.underlying23 (hval 4 23 v4 rfl rfl)
  have k4 := h4
  have lt4 : ∀ x ∈ p4, x.block < W.heap.size := by obtain ⟨m, hm⟩ := k4; exact DataW.trod_lt m _ _ _ hm
  obtain ⟨z4, w4⟩ : ∃ zs, IsRow .u8 W a4 len4 cap4 zs := by
    obtain ⟨fuel, hf⟩ := h4
    rcases open_ints Try.underlying23 Try.underlying5 (by kernel_rfl) hf with ⟨hcs, _⟩ | ⟨x, l, c, zs, hcs, _, hl, hm, hz, _, hcell, hwz⟩
    · simp [Value.cells] at hcs
      obtain ⟨rfl, rfl, rfl⟩ := hcs
      exact ⟨[], .inl ⟨rfl, rfl, rfl, rfl⟩⟩
    · simp [Value.cells] at hcs
      obtain ⟨rfl, rfl, rfl⟩ := hcs
      exact ⟨zs, .inr ⟨_, rfl, hl, hm, by simpa using hz, hcell, hwz⟩⟩
  obtain ⟨a5, rfl, rfl, rfl, w5⟩ := open_int Try.underlying22 (hval 5 22 v5 rfl rfl) h5
  obtain ⟨a6, rfl, rfl, rfl⟩ := open_bool Try.underlying4 (hval 6 4 v6 rfl rfl) h6
  clear hA0 hval0
  refine (walk a0 a1 a2 a3 a4 len4 cap4 z4 a5 a6 W w0 w2 w3 w4 w5).mono fun e W' ⟨he, bel⟩ => ?_
  subst he
  exact ⟨_, rfl, _, _, _, [], _, [], hW', trodAll_mk1 (shut_bool Try.underlying4 _), (trodAll_cons_mk (shut_int Try.underlying3 w0) (trodAll_cons_mk (shut_bool Try.underlying4 _) (trodAll_cons_mk (shut_int Try.underlying3 w2) (trodAll_cons_mk (shut_int Try.underlying3 w3) (trodAll_cons_mk (Below.trod laidOut (by kernel_rfl) (of_decide_eq_true (by kernel_rfl)) k4 bel lt4) (trodAll_cons_mk (shut_int Try.underlying22 w5) (trodAll_cons_mk (shut_bool Try.underlying4 _) trodAll_mk0))))))), rfl, bel.frame _, fun h => by cases h⟩

theorem over : Rows.geomOpensRow.holds Try.pinned (OpenSpec.ofChange Rows.geomOpensSpec) :=
  OpenClaim.holds_of_wide 8 Try.f8 rfl rfl rfl rfl rfl rfl rfl ⟨rfl, rfl, rfl, rfl, rfl⟩ rfl rfl rfl rfl rfl (by kernel_rfl) Try.func8 (by kernel_rfl)
    (of_decide_eq_true (by kernel_rfl)) (by unfold Func.isWrapper; first | (rw [if_pos (by decide +kernel)]; kernel_rfl) | (rw [if_neg (by decide +kernel)]; exact ⟨rfl, rfl⟩))
    (fun os started H enc _ => lifted os started H enc)

/-- ████ THE STATEMENT ████ -/
theorem proved : Rows.GeomOpensSaid := over
#print axioms proved
end Go.Proofs.Ytifodinikonkhaa.geomOpens
