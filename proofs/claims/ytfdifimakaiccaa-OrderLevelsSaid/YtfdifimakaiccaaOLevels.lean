/-
OrderLevels: what is right of a place on a higher level is at least as great as on a lower one, and is on that one, too. Conditions: at most 120 acts, keys and a place of at most 200 bytes (else the statements' own example alone).
-/
import Derived.Test.YtfdifimakaiccaaRows
import Derived.Test.YtfdifimakaiccaaPlays13
import Derived.Test.YtfdifimakaiccaaSame12
import Derived.Test.YtfdifimakaiccaaFind12
import Derived.IntWalk
import Derived.WalkSmall
import Derived.Deep.QuietTactic
import Derived.BigQuiet
import Derived.WalkKit
import Derived.ProofKit
import Derived.OpenShut
import Derived.ShutString
import Derived.ChangeOld
import Derived.Below
namespace Go.Proofs.Ytfdifimakaiccaa.orderLevels
open Go.ChangeShapes Go.WideShapes Go.ChangeAt Go.RowKit
open Go.ChangeMaps (open_string shut_string)
set_option linter.unusedVariables false

theorem own : ownKnob Try.prog.godebug = none := by kernel_rfl
theorem laidOut : laidOutB Try.prog = true := by kernel_rfl

theorem lev_sub {L : List Ln} {i : Nat} {x : Ln} (h : x ∈ lev (i + 1) L) : x ∈ lev i L := by
  obtain ⟨h1, h2⟩ := mem_lev.1 h
  exact mem_lev.2 ⟨h1, by omega⟩
/-- What is right of a link on its level. -/
theorem right_next {L : List Ln} (h : RisesK L) {i j : Nat} {z : Ln} (hz : (lev i L)[j]? = some z) : rightT L ((i : Int) + 1) z.k true = (lev i L)[j + 1]? := by
  have hr := lev_rises h i
  rw [right_lev, ← find_count _ _ (skip_mono hr z.k true)]
  have at_ : ∀ (a b : Nat) (x y : Ln), a < b → (lev i L)[a]? = some x → (lev i L)[b]? = some y → Op.bytesLess x.k y.k = true := fun a b x y hab hx hy => by
    obtain ⟨ha, rfl⟩ := List.getElem?_eq_some_iff.1 hx
    obtain ⟨hb, rfl⟩ := List.getElem?_eq_some_iff.1 hy
    exact List.pairwise_iff_getElem.1 hr a b ha hb hab
  have : (lev i L).countP (fun x => skipB z.k true x.k) = j + 1 := by
    have hlt := (List.getElem?_eq_some_iff.1 hz).1
    refine count_bound (by omega) (fun t x ht hx => ?_) (fun t x ht hx => ?_)
    · show (true && !Op.bytesLess z.k x.k) = true
      rcases Nat.lt_or_ge t j with h1 | h1
      · rw [lessK_asym (at_ t j x z h1 hx hz)]; rfl
      · obtain rfl : t = j := by omega
        rw [hx] at hz
        cases hz
        rw [lessK_irrefl]; rfl
    · show (true && !Op.bytesLess z.k x.k) = false
      rw [at_ j t z x (by omega) hz hx]; rfl
  rw [this]
/-- What is right of a place a level higher is on the level itself, there or behind. -/
theorem right_above {L : List Ln} (h : RisesK L) {i : Nat} {pos : Ky} {past : Bool} {y : Ln} (hy : rightT L ((i : Int) + 1 + 1) pos past = some y) : ∃ (a c : Nat) (x : Ln), a ≤ c ∧ (lev i L)[a]? = some x ∧ rightT L ((i : Int) + 1) pos past = some x ∧ (lev i L)[c]? = some y := by
  have e : ((i : Int) + 1 + 1) = ((i + 1 : Nat) : Int) + 1 := by omega
  rw [e, right_lev] at hy
  have hm := List.mem_of_find?_eq_some hy
  have hp := List.find?_some hy
  have hr := lev_rises h i
  obtain ⟨c, hc⟩ := List.getElem?_of_mem (lev_sub hm)
  have hat := right_at h i pos past
  obtain ⟨a, ha⟩ : ∃ a, (lev i L).countP (fun x => skipB pos past x.k) = a := ⟨_, rfl⟩
  rw [ha] at hat
  have hac : a ≤ c := by
    rcases Nat.lt_or_ge c a with h1 | h1
    · exfalso
      -- a link ahead of a is passed over
      have hsk : ∀ t, t < a → ∀ x, (lev i L)[t]? = some x → skipB pos past x.k = true := by
        intro t ht x hx
        cases hk : skipB pos past x.k with
        | true => rfl
        | false =>
          have hmono := skip_mono hr pos past
          have : (lev i L).countP (fun x => skipB pos past x.k) ≤ t := by
            have hsp : lev i L = (lev i L).take t ++ (lev i L).drop t := (List.take_append_drop t _).symm
            rw [hsp, List.countP_append]
            have h0 : ((lev i L).drop t).countP (fun x => skipB pos past x.k) = 0 := by
              rw [List.countP_eq_zero]
              intro z hz e
              obtain ⟨q, hq⟩ := List.getElem?_of_mem hz
              rw [List.getElem?_drop] at hq
              rcases Nat.eq_zero_or_pos q with rfl | hqp
              · rw [Nat.add_zero, hx] at hq
                cases hq
                rw [hk] at e; cases e
              · obtain ⟨h1, rfl⟩ := List.getElem?_eq_some_iff.1 hx
                obtain ⟨h2, rfl⟩ := List.getElem?_eq_some_iff.1 hq
                have := List.pairwise_iff_getElem.1 hmono t (t + q) h1 h2 (by omega) e
                rw [hk] at this; cases this
            rw [h0]
            have := List.countP_le_length (p := fun x : Ln => skipB pos past x.k) (l := (lev i L).take t)
            rw [List.length_take] at this
            omega
          omega
      have := hsk c h1 y hc
      rw [this] at hp
      cases hp
    · exact h1
  have hcl := (List.getElem?_eq_some_iff.1 hc).1
  have hal : a < (lev i L).length := by omega
  exact ⟨a, c, (lev i L)[a], hac, List.getElem?_eq_getElem hal, by rw [← hat, List.getElem?_eq_getElem hal], hc⟩
set_option maxRecDepth 100000 in
set_option maxHeartbeats 1600000 in
theorem many1 (a0 : Option Addr) (len0 cap0 : Nat) (z0 : List ActP) (s : ByteArray) (past : Bool) (w : World) (w0 : IsActs w a0 len0 z0) (hb : largeB z0 = true) :
    Calls Try.prog 4 #[.slice a0 len0 cap0, .string s, .bool past] w fun e w' => e = .returned (.bool true) ∧ Below w.heap.size w w' := by
  have HAW := Lib.hid (awake13_any w)
  have HLG := Lib.hid (large_any (cap := cap0) w0)
  rw [hb] at HLG
  clear w0 hb
  go_enter Try.func4, Try.ntmps4
  go_wp2_with fail
  refine HLG.out.mono ?_
  rintro e w' ⟨rfl, rfl⟩
  go_wp2_with fail
  refine HAW.out.mono ?_
  rintro e w' ⟨rfl, hb⟩
  have HB := Lib.hid hb
  clear hb
  go_wp2
  go_ret
  exact ⟨rfl, HB.out⟩
set_option maxRecDepth 100000 in
set_option maxHeartbeats 1600000 in
theorem many2 (a0 : Option Addr) (len0 cap0 : Nat) (z0 : List ActP) (s : ByteArray) (past : Bool) (w : World) (w0 : IsActs w a0 len0 z0) (hb : largeB z0 = false) (hs : 200 < s.size) (hm : s.size ≤ maxLen) :
    Calls Try.prog 4 #[.slice a0 len0 cap0, .string s, .bool past] w fun e w' => e = .returned (.bool true) ∧ Below w.heap.size w w' := by
  have HAW := Lib.hid (awake13_any w)
  have HLG := Lib.hid (large_any (cap := cap0) w0)
  rw [hb] at HLG
  have h2 : (200 : Int) < (s.size : Int) := by omega
  clear w0 hb hs
  go_enter Try.func4, Try.ntmps4
  go_wp2_with fail
  refine HLG.out.mono ?_
  rintro e w' ⟨rfl, rfl⟩
  go_wp2_with fail
  refine HAW.out.mono ?_
  rintro e w' ⟨rfl, hb⟩
  have HB := Lib.hid hb
  clear hb
  go_wp2
  go_ret
  exact ⟨rfl, HB.out⟩
set_option maxRecDepth 100000 in
set_option maxHeartbeats 6400000 in
theorem few (a0 : Option Addr) (len0 cap0 : Nat) (z0 : List ActP) (s : ByteArray) (past : Bool) (w : World) (w0 : IsActs w a0 len0 z0) (hb : largeB z0 = false) (hs : s.size ≤ 200) :
    Calls Try.prog 4 #[.slice a0 len0 cap0, .string s, .bool past] w fun e w' => e = .returned (.bool true) ∧ Below w.heap.size w w' := by
  have HAW := Lib.hid (fun w1 => awake13_any w1)
  have HLG := Lib.hid (large_any (cap := cap0) w0)
  rw [hb] at HLG
  have HPL := Lib.hid (played_any (cap := cap0) w0 hb)
  have h2 : ¬ (200 : Int) < (s.size : Int) := by omega
  have hlm : (playT z0).length ≤ 1048576 := by have h1 := playT_len z0; have h2 := (large_no hb).1; omega
  obtain ⟨g, hg⟩ : ∃ g, w.heap.size = g := ⟨_, rfl⟩
  rw [hg] at HPL ⊢
  have HZ := Lib.hid zero_link
  have hgu := guard_link12
  obtain ⟨L, hL⟩ : ∃ L, playT z0 = L := ⟨_, rfl⟩
  rw [hL] at HPL hlm
  have HLN : Hid (L.length ≤ 1048576) := hlm
  clear w0 hb hg hlm hL hs
  go_enter Try.func4, Try.ntmps4
  go_wp2_with fail
  refine HLG.out.mono ?_
  rintro e w' ⟨rfl, rfl⟩
  go_wp2_with fail
  refine HPL.out.mono ?_
  rintro e w1 ⟨rfl, m, ht⟩
  have HT := Lib.hid ht
  have HRS := Lib.hid ht.tb.rises
  have HRI : Hid (∀ (w2 : World) (lv : Int) (s : ByteArray) (past : Bool), Tg w g w2 g m L → Calls Try.prog 15 #[.pointer (some ⟨g, 0, none⟩), .int .i64 lv, .string s, .bool past] w2 (RightSays (rightT L lv s.data.toList past) w2)) := fun w2 lv s past h => odright_any h.tb HLN.out lv s past
  have HLE : Hid (∀ (w2 : World), Tg w g w2 g m L → Calls Try.prog 17 #[.pointer (some ⟨g, 0, none⟩)] w2 fun e w' => e = .returned (.int .i64 (L.length : Nat)) ∧ w2 = w') := fun w2 h => odlen_any h.tb HLN.out
  clear ht
  go_wp2
  go_loopg [8] 3 (fun gk s8 wx => ∃ (i : Nat), i + gk = 3 ∧ s8 = .int .i64 ((i : Int) + 1) ∧ Hid (Tg w g wx g m L))
  case atStart => exact ⟨0, by omega, rfl, HT⟩
  case round =>
    obtain ⟨i, hig, rfl, HT2⟩ := hrel
    cases gk with
    | zero =>
      obtain rfl : i = 3 := by omega
      go_wp2_with fail
      refine (HAW.out wr).mono ?_
      rintro e v6 ⟨rfl, hb6⟩
      have HB6 : Hid (Below g w v6) := HT2.out.bel.trans (hb6.mono HT2.out.gw)
      clear hb6
      go_wp2
      go_ret
      exact ⟨rfl, HB6.out⟩
    | succ go =>
      have hii : (i : Int) + 1 < 4 := by omega
      have hi3 : i < 3 := by omega
      have hw1 : IntKind.i64.wrap ((i : Int) + 1 + 1) = (i : Int) + 1 + 1 := by rw [IntKind.wrap_i64]; omega
      have HX := Lib.hid (HRI.out wr ((i : Int) + 1) s past HT2.out)
      obtain ⟨bx, hbx⟩ : ∃ bx, wr.heap.size = bx := ⟨_, rfl⟩
      cases hY : rightT L ((i : Int) + 1 + 1) s.data.toList past with
      | none =>
        obtain ⟨X, hX⟩ : ∃ X, rightT L ((i : Int) + 1) s.data.toList past = X := ⟨_, rfl⟩
        rw [hX] at HX
        obtain ⟨x, hx⟩ : ∃ x, X.getD Ln.zero = x := ⟨_, rfl⟩
        obtain ⟨is, his⟩ : ∃ is, X.isSome = is := ⟨_, rfl⟩
        have HX2 : Hid (Calls Try.prog 15 #[.pointer (some ⟨g, 0, none⟩), .int .i64 ((i : Int) + 1), .string s, .bool past] wr fun e w' => e = .returned (.tuple #[.agg #[.string x.str, .int .u64 (x.id : Nat), .int .u64 (x.ver : Nat), .int .i64 x.line, .int .i64 x.cl], .bool is]) ∧ Below wr.heap.size wr w') := by
          have := HX.out
          unfold RightSays at this
          rw [hx, his] at this
          exact this
        have HY2 : Hid (∀ w2, Tg w g w2 g m L → Calls Try.prog 15 #[.pointer (some ⟨g, 0, none⟩), .int .i64 ((i : Int) + 1 + 1), .string s, .bool past] w2 fun e w' => e = .returned (.tuple #[.agg #[.string ⟨#[]⟩, .int .u64 0, .int .u64 0, .int .i64 0, .int .i64 0], .bool false]) ∧ Below w2.heap.size w2 w') := fun w2 h => by
          have := HRI.out w2 ((i : Int) + 1 + 1) s past h
          rw [hY] at this
          exact this
        clear hX hx his HX hY hbx
        generalize x.str = x0 at *
        generalize (x.id : Int) = x1 at *
        generalize (x.ver : Int) = x2 at *
        generalize x.line = x3 at *
        generalize x.cl = x4 at *
        go_wp2_with fail
        refine HX2.out.mono ?_
        rintro e v2 ⟨rfl, hb2⟩
        have HT3 := Lib.hid (HT2.out.below hb2)
        obtain ⟨gx, hgx⟩ : ∃ gx, v2.heap.size = gx := ⟨_, rfl⟩
        have HGX := Lib.hid hgx
        clear hb2 hgx
        go_wp2_with (first
          | ((with_reducible show wpList _ _ _ (⟨some 9, .alloc _, _, _, _, _⟩ :: _) _ _); refine wpList_alloc_var (o := ⟨some 9, _, _, _, _, _⟩) rfl 33 rfl gx HGX.out _ HZ.out ?_; intro v3 H3a B3a)
          | (((with_reducible show wpList _ _ _ (⟨none, .store _ (.tmp 9) _, _, _, _, _⟩ :: _) _ _); refine wpList_store_whole (o := ⟨none, .store 33 (.tmp 9) (.tmp 36), _, _, _, _⟩) rfl _ _ _ rfl rfl gx #[.string x0, .int .u64 x1, .int .u64 x2, .int .i64 x3, .int .i64 x4] rfl rfl 33 _ H3a.out size_link rfl (onesL _ _ _ _ _) ?_; intro v4 H4a B4a); have HT4 := Lib.hid (HT3.out.below (HGX.out.symm ▸ B3a.out.trans B4a.out)))
          | fail)
        refine (HY2.out v4 HT4.out).mono ?_
        rintro e v5 ⟨rfl, hb5⟩
        have HT5 := Lib.hid (HT4.out.below hb5)
        obtain ⟨gy, hgy⟩ : ∃ gy, v5.heap.size = gy := ⟨_, rfl⟩
        have HGY := Lib.hid hgy
        clear hb5 hgy
        go_wp2_with (first
          | ((with_reducible show wpList _ _ _ (⟨some 11, .alloc _, _, _, _, _⟩ :: _) _ _); refine wpList_alloc_var (o := ⟨some 11, _, _, _, _, _⟩) rfl 33 rfl gy HGY.out _ HZ.out ?_; intro v6 H6a B6a)
          | (((with_reducible show wpList _ _ _ (⟨none, .store _ (.tmp 11) _, _, _, _, _⟩ :: _) _ _); refine wpList_store_whole (o := ⟨none, .store 33 (.tmp 11) (.tmp 45), _, _, _, _⟩) rfl _ _ _ rfl rfl gy #[.string ⟨#[]⟩, .int .u64 0, .int .u64 0, .int .i64 0, .int .i64 0] rfl rfl 33 _ H6a.out size_link rfl (onesL _ _ _ _ _) ?_; intro v7 H7a B7a); have HT7 := Lib.hid (HT5.out.below (HGY.out.symm ▸ B6a.out.trans B7a.out)))
          | fail)
        go_loopg [13, 10] 0 (fun gk s13 s10 wx => gk = 0 ∧ s13 = .int .i64 0 ∧ s10 = .bool is ∧ v7 = wx)
        case atStart => exact ⟨rfl, rfl, rfl, rfl⟩
        case round =>
          obtain ⟨rfl, rfl, rfl, rfl⟩ := hrel
          go_wp2
          go_roundg go
          case measure => omega
          case rel => exact ⟨i + 1, by omega, by go_num, HT7⟩
      | some y =>
        obtain ⟨a, c, x, hac, hxa, hX, hyc⟩ := right_above HRS.out hY
        have HX2 : Hid (Calls Try.prog 15 #[.pointer (some ⟨g, 0, none⟩), .int .i64 ((i : Int) + 1), .string s, .bool past] wr fun e w' => e = .returned (.tuple #[.agg #[.string x.str, .int .u64 (x.id : Nat), .int .u64 (x.ver : Nat), .int .i64 x.line, .int .i64 x.cl], .bool true]) ∧ Below wr.heap.size wr w') := by
          have := HX.out
          rw [hX] at this
          exact this
        have HY2 : Hid (∀ w2, Tg w g w2 g m L → Calls Try.prog 15 #[.pointer (some ⟨g, 0, none⟩), .int .i64 ((i : Int) + 1 + 1), .string s, .bool past] w2 fun e w' => e = .returned (.tuple #[.agg #[.string y.str, .int .u64 (y.id : Nat), .int .u64 (y.ver : Nat), .int .i64 y.line, .int .i64 y.cl], .bool true]) ∧ Below w2.heap.size w2 w') := fun w2 h => by
          have := HRI.out w2 ((i : Int) + 1 + 1) s past h
          rw [hY] at this
          exact this
        obtain ⟨A, hA⟩ : ∃ A, lev i L = A := ⟨_, rfl⟩
        have hAr : RisesK A := hA ▸ lev_rises HRS.out i
        have HAL : Hid (A.length ≤ L.length) := hA ▸ lev_len i L
        have HNX : Hid (∀ (j : Nat) (z : Ln), A[j]? = some z → rightT L ((i : Int) + 1) z.k true = A[j + 1]?) := fun j z hz => by rw [← hA] at hz ⊢; exact right_next HRS.out hz
        rw [hA] at hxa hyc
        have HLT : Hid (∀ (j1 j2 : Nat) (z1 z2 : Ln), j1 < j2 → A[j1]? = some z1 → A[j2]? = some z2 → Op.bytesLess z1.str.toList z2.str.toList = true) := fun j1 j2 z1 z2 hj h1 h2 => by
          rw [Lib.toList_data, Lib.toList_data]
          obtain ⟨q1, rfl⟩ := List.getElem?_eq_some_iff.1 h1
          obtain ⟨q2, rfl⟩ := List.getElem?_eq_some_iff.1 h2
          exact List.pairwise_iff_getElem.1 hAr j1 j2 q1 q2 hj
        have HLY : Hid (∀ (j1 : Nat) (z1 : Ln), j1 < c → A[j1]? = some z1 → Op.bytesLess z1.str.toList y.str.toList = true) := fun j1 z1 hj h1 => HLT.out j1 c z1 y hj h1 hyc
        have HSE : Hid (Op.bytesLess y.str.toList y.str.toList = false) := by show _ = _; exact lessK_irrefl _
        have hlt0 : Op.bytesLess y.str.toList x.str.toList = false := by
          rcases Nat.eq_or_lt_of_le hac with rfl | h1
          · rw [hxa] at hyc
            cases hyc
            exact lessK_irrefl _
          · exact lessK_asym (HLT.out a c x y h1 hxa hyc)
        have HXA := Lib.hid hxa
        have HYC := Lib.hid hyc
        have hcA : c < A.length := (List.getElem?_eq_some_iff.1 hyc).1
        have HLX : Hid (∀ (w' : World), w'.heap[bx]? = some (.cells #[.string x.str, .int .u64 (x.id : Nat), .int .u64 (x.ver : Nat), .int .i64 x.line, .int .i64 x.cl] 33 (0, 0)) → True) := fun _ _ => trivial
        have HEB : Hid (∀ (z : Ln) (w' : World) (g : Nat), w'.heap[g]? = some (.cells #[.string z.str, .int .u64 (z.id : Nat), .int .u64 (z.ver : Nat), .int .i64 z.line, .int .i64 z.cl] 33 (0, 0)) → LBox w' g z) := fun z w' g h => h
        have HEX := Lib.hid (HEB.out x)
        have HEY : Hid (∀ (w' : World) (g : Nat), LBox w' g y → w'.heap[g]? = some (.cells #[.string y.str, .int .u64 (y.id : Nat), .int .u64 (y.ver : Nat), .int .i64 y.line, .int .i64 y.cl] 33 (0, 0))) := fun w' g h => h
        have hs0 : (y.str.toList == y.str.toList) = true := by simp
        have hs1 : ((y.id : Int) == (y.id : Int)) = true := by simp
        have hs2 : ((y.ver : Int) == (y.ver : Int)) = true := by simp
        have hs3 : (y.line == y.line) = true := by simp
        have hs4 : (y.cl == y.cl) = true := by simp
        clear hX HX hY hbx hA hAr hxa hyc HLX HLT
        generalize x.str = x0 at *
        generalize (x.id : Int) = x1 at *
        generalize (x.ver : Int) = x2 at *
        generalize x.line = x3 at *
        generalize x.cl = x4 at *
        generalize y.str = y0 at *
        generalize (y.id : Int) = y1 at *
        generalize (y.ver : Int) = y2 at *
        generalize y.line = y3 at *
        generalize y.cl = y4 at *
        go_wp2_with fail
        refine HX2.out.mono ?_
        rintro e v2 ⟨rfl, hb2⟩
        have HT3 := Lib.hid (HT2.out.below hb2)
        obtain ⟨gx, hgx⟩ : ∃ gx, v2.heap.size = gx := ⟨_, rfl⟩
        have HGX := Lib.hid hgx
        have HOX : Hid (∀ k, odOwn g m k → k < gx) := fun k hk => by have := HT3.out.tb.lt hk; omega
        have HGG : Hid (g ≤ gx) := hgx ▸ HT3.out.gw
        clear hb2 hgx
        go_wp2_with (first
          | ((with_reducible show wpList _ _ _ (⟨some 9, .alloc _, _, _, _, _⟩ :: _) _ _); refine wpList_alloc_var (o := ⟨some 9, _, _, _, _, _⟩) rfl 33 rfl gx HGX.out _ HZ.out ?_; intro v3 H3a B3a)
          | (((with_reducible show wpList _ _ _ (⟨none, .store _ (.tmp 9) _, _, _, _, _⟩ :: _) _ _); refine wpList_store_whole (o := ⟨none, .store 33 (.tmp 9) (.tmp 36), _, _, _, _⟩) rfl _ _ _ rfl rfl gx #[.string x0, .int .u64 x1, .int .u64 x2, .int .i64 x3, .int .i64 x4] rfl rfl 33 _ H3a.out size_link rfl (onesL _ _ _ _ _) ?_; intro v4 H4a B4a); have HT4 := Lib.hid (HT3.out.below (HGX.out.symm ▸ B3a.out.trans B4a.out)))
          | fail)
        refine (HY2.out v4 HT4.out).mono ?_
        rintro e v5 ⟨rfl, hb5⟩
        have HT5 := Lib.hid (HT4.out.below hb5)
        have HX5 := Lib.hid ((hb5.block gx (lt_of_heap H4a.out)).trans H4a.out)
        obtain ⟨gy, hgy⟩ : ∃ gy, v5.heap.size = gy := ⟨_, rfl⟩
        have HGY := Lib.hid hgy
        have HXY : Hid (gx < gy) := hgy ▸ lt_of_heap HX5.out
        clear hb5 hgy
        go_wp2_with (first
          | ((with_reducible show wpList _ _ _ (⟨some 11, .alloc _, _, _, _, _⟩ :: _) _ _); refine wpList_alloc_var (o := ⟨some 11, _, _, _, _, _⟩) rfl 33 rfl gy HGY.out _ HZ.out ?_; intro v6 H6a B6a)
          | (((with_reducible show wpList _ _ _ (⟨none, .store _ (.tmp 11) _, _, _, _, _⟩ :: _) _ _); refine wpList_store_whole (o := ⟨none, .store 33 (.tmp 11) (.tmp 45), _, _, _, _⟩) rfl _ _ _ rfl rfl gy #[.string y0, .int .u64 y1, .int .u64 y2, .int .i64 y3, .int .i64 y4] rfl rfl 33 _ H6a.out size_link rfl (onesL _ _ _ _ _) ?_; intro v7 H7a B7a); have HT7 := Lib.hid (HT5.out.below (HGY.out.symm ▸ B6a.out.trans B7a.out)); have HX7 := Lib.hid (((B6a.out.trans B7a.out).block gx HXY.out).trans HX5.out); obtain ⟨p0, -, -, -, -⟩ := cellsL HX7.out; obtain ⟨q0, -, -, -, -⟩ := cellsL H7a.out)
          | fail)
        have HBX := Lib.hid (HEX.out v7 gx HX7.out)
        clear p0 q0
        go_loopg [13, 10] (c - a) (fun gk s13 s10 wx => ∃ (n : Nat) (z : Ln), a + n + gk = c ∧ s13 = .int .i64 n ∧ s10 = .bool true ∧ Hid (A[a + n]? = some z) ∧ Hid (LBox wx gx z) ∧ Hid (Turns gx gx v7 wx))
        case atStart => exact ⟨0, x, by omega, rfl, rfl, HXA, HBX, ⟨rfl, rfl, rfl, Nat.le_refl _, fun _ _ _ _ => rfl⟩⟩
        case round =>
          obtain ⟨n, z, hnc, rfl, rfl, HZA, HZB, HTU⟩ := hrel
          have hst : Stay (fun k => k = gx) v7 wr := ⟨HTU.out.os, HTU.out.tape, HTU.out.output, HTU.out.size, fun k hk hl => HTU.out.block k hk hk hl⟩
          have HTW : Hid (Tg w g wr g m L) := ⟨HT7.out.tb.stay hst (fun k hk e => by have := HOX.out k hk; omega), HT7.out.bel.trans (hst.below (fun k e => by rw [e]; exact HGG.out) HT7.out.gw), HT7.out.sz, HT7.out.own⟩
          have HYW := Lib.hid ((hst.block gy (Nat.ne_of_gt HXY.out) (lt_of_heap H7a.out)).trans H7a.out)
          have hnl : (n : Int) < (L.length : Int) := by have := HAL.out; omega
          have hle := HLE.out wr HTW.out
          have HLW := Lib.hid hle
          clear hst hle
          cases gk with
          | zero =>
            obtain rfl : a + n = c := by omega
            have hzy : z = y := by
              have h1 := HZA.out
              rw [HYC.out] at h1
              cases h1
              rfl
            have hir := HSE.out
            obtain ⟨p0, p1, p2, p3, p4⟩ := cellsL (HEY.out wr gx (hzy ▸ HZB.out))
            clear hzy
            obtain ⟨q0, q1, q2, q3, q4⟩ := cellsL HYW.out
            go_wp2_with (go_at_call 17; refine HLW.out.mono ?_; rintro e v8 ⟨rfl, rfl⟩)
            go_roundg go
            case measure => omega
            case rel => exact ⟨i + 1, by omega, by go_num, HTW⟩
          | succ gk =>
            have hnx : a + n + 1 < A.length := by omega
            have hgi := List.getElem?_eq_getElem hnx
            generalize A[a + n + 1]'hnx = u at *
            have hzu := HLY.out (a + n) z (by omega) HZA.out
            have HRU : Hid (Calls Try.prog 15 #[.pointer (some ⟨g, 0, none⟩), .int .i64 ((i : Int) + 1), .string z.str, .bool true] wr fun e w' => e = .returned (.tuple #[.agg #[.string u.str, .int .u64 (u.id : Nat), .int .u64 (u.ver : Nat), .int .i64 u.line, .int .i64 u.cl], .bool true]) ∧ Below wr.heap.size wr w') := by
              have h1 := HRI.out wr ((i : Int) + 1) z.str true HTW.out
              rw [show z.str.data.toList = z.k from rfl, HNX.out (a + n) z HZA.out, hgi] at h1
              exact h1
            have HUA := Lib.hid hgi
            have HNC := Lib.hid hnc
            have hnb : n < 1048576 := by have h1 := HAL.out; have h2 := HLN.out; omega
            obtain ⟨p0, p1, p2, p3, p4⟩ := cellsL HZB.out
            obtain ⟨q0, q1, q2, q3, q4⟩ := cellsL HYW.out
            have HZC := Lib.hid HZB.out
            unfold LBox at HZC
            have HEU := Lib.hid (HEB.out u)
            have HTT : Hid (∀ w8 w', Below wr.heap.size wr w8 → Turns gx gx w8 w' → Turns gx gx v7 w') := fun w8 w' hb ht => ⟨ht.os.trans (hb.os.trans HTU.out.os), ht.tape.trans (hb.tape.trans HTU.out.tape), ht.output.trans (hb.output.trans HTU.out.output), Nat.le_trans HTU.out.size (Nat.le_trans hb.size ht.size), fun k h1 h2 hl => (ht.block k h1 h2 (Nat.lt_of_lt_of_le hl (Nat.le_trans HTU.out.size hb.size))).trans ((hb.block k (Nat.lt_of_lt_of_le hl HTU.out.size)).trans (HTU.out.block k h1 h2 hl))⟩
            clear hgi hnx
            generalize u.str = u0 at *
            generalize (u.id : Int) = u1 at *
            generalize (u.ver : Int) = u2 at *
            generalize u.line = u3 at *
            generalize u.cl = u4 at *
            generalize z.str = zs at *
            generalize (z.id : Int) = zs1 at *
            generalize (z.ver : Int) = zs2 at *
            generalize z.line = zs3 at *
            generalize z.cl = zs4 at *
            go_wp2_with (first
              | (go_at_call 17; refine HLW.out.mono ?_; rintro e v8 ⟨rfl, rfl⟩)
              | fail)
            refine HRU.out.mono ?_
            rintro e v9 ⟨rfl, hb9⟩
            have HB9 := Lib.hid hb9
            have HCH := Lib.hid ((hb9.block gx (lt_of_heap HZC.out)).trans HZC.out)
            clear hb9 p0 p1 p2 p3 p4 q0 q1 q2 q3 q4 hzu
            go_wp2_with (first
              | (((with_reducible show wpList _ _ _ (⟨none, .store _ (.tmp 9) _, _, _, _, _⟩ :: _) _ _); refine wpList_store_only (o := ⟨none, .store 33 (.tmp 9) (.tmp 81), _, _, _, _⟩) rfl _ _ _ rfl rfl gx #[.string u0, .int .u64 u1, .int .u64 u2, .int .i64 u3, .int .i64 u4] rfl rfl 33 _ HCH.out size_link rfl (onesL _ _ _ _ _) ?_; intro w5 H5 B5))
              | fail)
            go_roundg gk
            case measure => omega
            case rel => exact ⟨n + 1, u, by have := HNC.out; omega, by go_num, rfl, HUA, HEU.out _ _ H5.out, HTT.out _ _ HB9.out B5.out⟩
theorem walk (a0 : Option Addr) (len0 cap0 : Nat) (z0 : List ActP) (s : ByteArray) (past : Bool) (w : World) (w0 : IsActs w a0 len0 z0) (w1 : s.size ≤ maxLen) :
    Calls Try.prog 4 #[.slice a0 len0 cap0, .string s, .bool past] w fun e w' => e = .returned (.bool true) ∧ Below w.heap.size w w' := by
  cases h : largeB z0 with
  | true => exact many1 a0 len0 cap0 z0 s past w w0 h
  | false =>
    rcases Nat.lt_or_ge 200 s.size with hs | hs
    · exact many2 a0 len0 cap0 z0 s past w w0 h hs w1
    · exact few a0 len0 cap0 z0 s past w w0 h hs

set_option maxRecDepth 100000 in
theorem lifted (os : Os) (started : os.Started) (H : Type) (enc : TypeId × Value → H) :
    ReturnsInHanded {} Try.checked os 4 .any (Rows.orderLevelsSpec.pre6 enc Try.prog Try.f4 Rows.orderLevelsRow.domain false) (Rows.orderLevelsSpec.post enc Try.prog Try.f4 false true false false) := by
  refine returnsInHanded_of_change (C := Try.checked) own started (by kernel_rfl) Try.func4
    (ChangeSpec.witness6 (enc := enc) (C := Try.checked) false ⟨#[], #[.slice none 0 0, .string ByteArray.empty, .bool false], []⟩ 8 (by kernel_rfl) (by kernel_rfl) (by kernel_rfl) (by kernel_rfl)) ?_
  intro W base args ds gs before hval0 hW hcnd _
  have hval : ∀ (j : Nat) t v, Try.f4.params[j]? = some t → args[j]? = some v → Value.okWide Try.prog W .any base t v := hval0
  have hW' := hW
  obtain ⟨p, q, hA0, hV, rfl, hfz, hnd⟩ := hW
  have hA : DataW.TrodAll enc Try.prog W 0 (fun _ => true) true Try.f4.params.toList args.toList ds p := hA0
  rw [Try.params4] at hA hval
  obtain ⟨v0, vs0, d0, ds0, p0, q0, hargs, rfl, rfl, h0, r0⟩ := trodAll_cons hA
  obtain ⟨v1, vs1, d1, ds1, p1, q1, rfl, rfl, rfl, h1, r1⟩ := trodAll_cons r0
  obtain ⟨v2, vs2, d2, ds2, p2, q2, rfl, rfl, rfl, h2, r2⟩ := trodAll_cons r1
  obtain ⟨rfl, rfl, rfl⟩ := trodAll_nil r2
  obtain rfl : args = #[v0, v1, v2] := by cases args; simp_all
  obtain ⟨rfl, rfl⟩ := trodVars_none hV
  obtain ⟨a0, len0, cap0, rfl⟩ := okWide_slice Try.underlying22 (hval 0 22 v0 rfl rfl)
  have k0 := h0
  have lt0 : ∀ x ∈ p0, x.block < W.heap.size := by obtain ⟨m, hm⟩ := k0; exact DataW.trod_lt m _ _ _ hm
  obtain ⟨z0, w0⟩ : ∃ zs, IsActs W a0 len0 zs := by
    obtain ⟨fuel, hf⟩ := h0
    exact isActs_of hf
  obtain ⟨a1, rfl, rfl, rfl, w1⟩ := open_string Try.underlying9 (hval 1 9 v1 rfl rfl) h1
  obtain ⟨a2, rfl, rfl, rfl⟩ := open_bool Try.underlying4 (hval 2 4 v2 rfl rfl) h2
  clear hA0 hval0
  refine (walk a0 len0 cap0 z0 a1 a2 W w0 w1).mono fun e W' ⟨he, bel⟩ => ?_
  subst he
  exact ⟨_, rfl, _, _, _, [], _, [], hW', trodAll_mk1 (shut_bool Try.underlying4 _), (trodAll_cons_mk (Below.trod laidOut (by kernel_rfl) (of_decide_eq_true (by kernel_rfl)) k0 bel lt0) (trodAll_cons_mk (shut_string Try.underlying9 w1) (trodAll_cons_mk (shut_bool Try.underlying4 a2) trodAll_mk0))), rfl, bel.frame _, fun h => by cases h⟩

theorem over : Rows.orderLevelsRow.holds Try.pinned (OpenSpec.ofChange Rows.orderLevelsSpec) :=
  OpenClaim.holds_of_wide 4 Try.f4 rfl rfl rfl rfl rfl rfl rfl ⟨rfl, rfl, rfl, rfl, rfl⟩ rfl rfl rfl rfl rfl (by kernel_rfl) Try.func4 (by kernel_rfl)
    (of_decide_eq_true (by kernel_rfl)) (by unfold Func.isWrapper; first | (rw [if_pos (by decide +kernel)]; kernel_rfl) | (rw [if_neg (by decide +kernel)]; exact ⟨rfl, rfl⟩))
    (fun os started H enc _ => lifted os started H enc)

theorem proved : Rows.OrderLevelsSaid := over
#print axioms proved
end Go.Proofs.Ytfdifimakaiccaa.orderLevels
