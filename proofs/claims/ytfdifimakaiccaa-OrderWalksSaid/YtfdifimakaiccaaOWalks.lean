/-
OrderWalks: who goes along the lowest level meets all links, rising. Conditions: at most 120 acts, keys of at most 200 bytes (else the statements' own example alone).
-/
import Derived.Test.YtfdifimakaiccaaRows
import Derived.Test.YtfdifimakaiccaaPlays13
import Derived.Test.YtfdifimakaiccaaSame12
import Derived.Test.YtfdifimakaiccaaFind12
import Derived.IntWalk
import Derived.WalkSmall
import Derived.Deep.QuietTactic
import Derived.BigQuiet
import Derived.WalkKit
import Derived.ProofKit
import Derived.OpenShut
import Derived.ShutString
import Derived.ChangeOld
import Derived.Below
namespace Go.Proofs.Ytfdifimakaiccaa.orderWalks
open Go.ChangeShapes Go.WideShapes Go.ChangeAt Go.RowKit
open Go.ChangeMaps (open_string shut_string)
set_option linter.unusedVariables false

theorem own : ownKnob Try.prog.godebug = none := by kernel_rfl
theorem laidOut : laidOutB Try.prog = true := by kernel_rfl

/-- Where the walk stands. -/
def AtP (L : List Ln) (i : Nat) (pos : Ky) (past : Bool) : Prop := i = 0 ∧ past = false ∨ 0 < i ∧ past = true ∧ ∃ y, L[i - 1]? = some y ∧ pos = y.k
theorem right_step {L : List Ln} (h : RisesK L) {i : Nat} {pos : Ky} {past : Bool} (hp : AtP L i pos past) : rightT L 1 pos past = L[i]? := by
  have e := right_lev L 0 pos past
  rw [lev_zero] at e
  have e2 : rightT L 1 pos past = L.find? fun x => !skipB pos past x.k := e
  rw [e2, ← find_count _ _ (skip_mono h pos past)]
  rcases hp with ⟨rfl, rfl⟩ | ⟨hi, rfl, y, hy, rfl⟩
  · have : L.countP (fun x => skipB pos false x.k) = 0 := List.countP_eq_zero.2 fun x _ => by simp [skipB]
    rw [this]
  · have hlt := (List.getElem?_eq_some_iff.1 hy).1
    have at_ : ∀ (a b : Nat) (x z : Ln), a < b → L[a]? = some x → L[b]? = some z → Op.bytesLess x.k z.k = true := fun a b x z hab hx hz => by
      obtain ⟨ha, rfl⟩ := List.getElem?_eq_some_iff.1 hx
      obtain ⟨hb, rfl⟩ := List.getElem?_eq_some_iff.1 hz
      exact List.pairwise_iff_getElem.1 h a b ha hb hab
    have : L.countP (fun x => skipB y.k true x.k) = i := by
      refine count_bound (by omega) (fun t x ht hx => ?_) (fun t x ht hx => ?_)
      · show (true && !Op.bytesLess y.k x.k) = true
        rcases Nat.lt_or_ge t (i - 1) with h1 | h1
        · rw [lessK_asym (at_ t (i - 1) x y h1 hx hy)]; rfl
        · obtain rfl : t = i - 1 := by omega
          rw [hx] at hy
          cases hy
          rw [lessK_irrefl]; rfl
      · show (true && !Op.bytesLess y.k x.k) = false
        rw [at_ (i - 1) t y x (by omega) hy hx]; rfl
    rw [this]
set_option maxRecDepth 100000 in
set_option maxHeartbeats 1600000 in
theorem many (a0 : Option Addr) (len0 cap0 : Nat) (z0 : List ActP) (w : World) (w0 : IsActs w a0 len0 z0) (hb : largeB z0 = true) :
    Calls Try.prog 5 #[.slice a0 len0 cap0] w fun e w' => e = .returned (.bool true) ∧ Below w.heap.size w w' := by
  have HAW := Lib.hid (awake13_any w)
  have HLG := Lib.hid (large_any (cap := cap0) w0)
  rw [hb] at HLG
  clear w0 hb
  go_enter Try.func5, Try.ntmps5
  go_wp2_with fail
  refine HLG.out.mono ?_
  rintro e w' ⟨rfl, rfl⟩
  go_wp2_with fail
  refine HAW.out.mono ?_
  rintro e w' ⟨rfl, hb⟩
  have HB := Lib.hid hb
  clear hb
  go_wp2
  go_ret
  exact ⟨rfl, HB.out⟩
set_option maxRecDepth 100000 in
set_option maxHeartbeats 6400000 in
theorem few (a0 : Option Addr) (len0 cap0 : Nat) (z0 : List ActP) (w : World) (w0 : IsActs w a0 len0 z0) (hb : largeB z0 = false) :
    Calls Try.prog 5 #[.slice a0 len0 cap0] w fun e w' => e = .returned (.bool true) ∧ Below w.heap.size w w' := by
  have HAW := Lib.hid (fun w1 => awake13_any w1)
  have HLG := Lib.hid (large_any (cap := cap0) w0)
  rw [hb] at HLG
  have HPL := Lib.hid (played_any (cap := cap0) w0 hb)
  have hlm : (playT z0).length ≤ 1048576 := by have h1 := playT_len z0; have h2 := (large_no hb).1; omega
  obtain ⟨g, hg⟩ : ∃ g, w.heap.size = g := ⟨_, rfl⟩
  rw [hg] at HPL ⊢
  have HZ := Lib.hid zero_link
  have hgu := guard_link12
  obtain ⟨L, hL⟩ : ∃ L, playT z0 = L := ⟨_, rfl⟩
  rw [hL] at HPL hlm
  have HLN : Hid (L.length ≤ 1048576) := hlm
  clear w0 hb hg hlm hL
  go_enter Try.func5, Try.ntmps5
  go_wp2_with fail
  refine HLG.out.mono ?_
  rintro e w' ⟨rfl, rfl⟩
  go_wp2_with fail
  refine HPL.out.mono ?_
  rintro e w1 ⟨rfl, m, ht⟩
  have HAL := Lib.hid (odall_any ht.tb HLN.out)
  unfold AllTo at HAL
  have HT := Lib.hid ht
  have HRS := Lib.hid ht.tb.rises
  have HRI : Hid (∀ (w2 : World) (s : ByteArray) (past : Bool), Tg w g w2 g m L → Calls Try.prog 15 #[.pointer (some ⟨g, 0, none⟩), .int .i64 1, .string s, .bool past] w2 (RightSays (rightT L 1 s.data.toList past) w2)) := fun w2 s past h => odright_any h.tb HLN.out 1 s past
  have HLE : Hid (∀ (w2 : World), Tg w g w2 g m L → Calls Try.prog 17 #[.pointer (some ⟨g, 0, none⟩)] w2 fun e w' => e = .returned (.int .i64 (L.length : Nat)) ∧ w2 = w') := fun w2 h => odlen_any h.tb HLN.out
  clear ht
  go_wp2_with fail
  refine HAL.out.mono ?_
  rintro e v1 ⟨ga, cap1, rfl, ho1, hb1⟩
  obtain ⟨-, A1, c1, e1, -, hr1, -⟩ := rowL_of_own ho1 HLN.out
  cases e1
  have HR1 := Lib.hid hr1
  have HT1 := Lib.hid (HT.out.below hb1)
  obtain ⟨n, hn⟩ : ∃ n, L.length = n := ⟨_, rfl⟩
  have HN := Lib.hid hn
  have hnm : n ≤ 1048576 := hn ▸ HLN.out
  rw [hn] at HLE ⊢
  clear ho1 hr1 hb1 hn HAL
  go_wp2
  go_loopg [5, 6, 7] n (fun gk s5 s6 s7 wx => ∃ (i : Nat) (ps : ByteArray) (pa : Bool), i + gk = n ∧ s7 = .int .i64 i ∧ s5 = .string ps ∧ s6 = .bool pa ∧ Hid (AtP L i ps.data.toList pa) ∧ Hid (Tg w g wx g m L) ∧ Hid (RowL wx (some ⟨ga, 0, none⟩) L))
  case atStart => exact ⟨0, ⟨#[]⟩, false, by omega, rfl, rfl, rfl, .inl ⟨rfl, rfl⟩, HT1, HR1⟩
  case round =>
    obtain ⟨i, ps, pa, hig, rfl, rfl, rfl, HP, HT2, HR2⟩ := hrel
    have hR := HRI.out wr ps pa HT2.out
    rw [right_step HRS.out HP.out] at hR
    obtain ⟨ga1, hga1⟩ : ∃ ga1, wr.heap.size = ga1 := ⟨_, rfl⟩
    have HGA1 := Lib.hid hga1
    clear hga1
    cases gk with
    | zero =>
      obtain rfl : i = n := by omega
      have hii : ¬ (i : Int) < (i : Int) := by omega
      rw [List.getElem?_eq_none (by have := HN.out; omega)] at hR
      replace hR : Calls Try.prog 15 #[.pointer (some ⟨g, 0, none⟩), .int .i64 1, .string ps, .bool pa] wr fun e w' => e = .returned (.tuple #[.agg #[.string ⟨#[]⟩, .int .u64 0, .int .u64 0, .int .i64 0, .int .i64 0], .bool false]) ∧ Below wr.heap.size wr w' := hR
      have HR := Lib.hid hR
      have heq : ((i : Int) == (i : Int)) = true := by simp
      clear hR
      go_wp2_with fail
      refine HR.out.mono ?_
      rintro e v2 ⟨rfl, hb2⟩
      have HT3 := Lib.hid (HT2.out.below hb2)
      obtain ⟨gx, hgx⟩ : ∃ gx, v2.heap.size = gx := ⟨_, rfl⟩
      have HGX := Lib.hid hgx
      clear hb2 hgx
      rcases HP.out with ⟨h1, h2⟩ | ⟨h1, h2, -⟩
      all_goals
        subst h2
        first
          | (subst h1; have hpos : decide ((0 : Int) < ((0 : Nat) : Int)) = false := rfl)
          | (have hpos : decide ((0 : Int) < (i : Int)) = true := by simp; omega)
        go_wp2_with (first
          | ((with_reducible show wpList _ _ _ (⟨some 10, .alloc _, _, _, _, _⟩ :: _) _ _); refine wpList_alloc_var (o := ⟨some 10, _, _, _, _, _⟩) rfl 33 rfl gx HGX.out _ HZ.out ?_; intro v3 H3a B3a)
          | (((with_reducible show wpList _ _ _ (⟨none, .store _ (.tmp 10) _, _, _, _, _⟩ :: _) _ _); refine wpList_store_whole (o := ⟨none, .store 33 (.tmp 10) (.tmp 60), _, _, _, _⟩) rfl _ _ _ rfl rfl gx #[.string ⟨#[]⟩, .int .u64 0, .int .u64 0, .int .i64 0, .int .i64 0] rfl rfl 33 _ H3a.out size_link rfl (onesL _ _ _ _ _) ?_; intro v4 H4a B4a); have HT4 := Lib.hid (HT3.out.below (HGX.out.symm ▸ B3a.out.trans B4a.out)))
          | (go_at_call 17; refine (HLE.out _ HT4.out).mono ?_; rintro e v5 ⟨rfl, rfl⟩)
          | (go_at_call 9; refine (HAW.out _).mono ?_; rintro e v6 ⟨rfl, hb6⟩; have HB6 : Hid (Below g w v6) := HT4.out.bel.trans (hb6.mono HT4.out.gw); clear hb6)
          | fail)
        go_ret
        exact ⟨rfl, HB6.out⟩
    | succ gk =>
      have hii : (i : Int) < (n : Int) := by omega
      have hgi := List.getElem?_eq_getElem (show i < L.length by have := HN.out; omega)
      generalize L[i]'(by have := HN.out; omega) = x at *
      rw [hgi] at hR
      replace hR : Calls Try.prog 15 #[.pointer (some ⟨g, 0, none⟩), .int .i64 1, .string ps, .bool pa] wr fun e w' => e = .returned (.tuple #[.agg #[.string x.str, .int .u64 (x.id : Nat), .int .u64 (x.ver : Nat), .int .i64 x.line, .int .i64 x.cl], .bool true]) ∧ Below wr.heap.size wr w' := hR
      have HR := Lib.hid hR
      have HPN : Hid (AtP L (i + 1) x.str.data.toList true) := .inr ⟨by omega, rfl, x, hgi, rfl⟩
      have HCL : Hid (∀ w', Below wr.heap.size wr w' → w'.cell? ⟨ga, i * 5, none⟩ = some (.string x.str) ∧ w'.cell? ⟨ga, i * 5 + 1, none⟩ = some (.int .u64 (x.id : Nat)) ∧ w'.cell? ⟨ga, i * 5 + 2, none⟩ = some (.int .u64 (x.ver : Nat)) ∧ w'.cell? ⟨ga, i * 5 + 3, none⟩ = some (.int .i64 x.line) ∧ w'.cell? ⟨ga, i * 5 + 4, none⟩ = some (.int .i64 x.cl)) := fun w' hb => by
        obtain ⟨b9, off9, e9, -, c0, c1, c2, c3, c4⟩ := (HR2.out.below hb).at_ hgi
        cases e9
        rw [Nat.zero_add] at c0 c1 c2 c3 c4
        exact ⟨c0, c1, c2, c3, c4⟩
      have hle : pa = true → (Op.bytesLess x.str.toList ps.toList || x.str.toList == ps.toList) = false := fun hp => by
        rw [leq_str]
        rcases HP.out with ⟨_, h2⟩ | ⟨h1, _, y, hy, hk⟩
        · rw [hp] at h2; cases h2
        · rw [hk]
          obtain ⟨ha, rfl⟩ := List.getElem?_eq_some_iff.1 hy
          obtain ⟨hb, rfl⟩ := List.getElem?_eq_some_iff.1 hgi
          show (!Op.bytesLess L[i - 1].k L[i].k) = false
          rw [List.pairwise_iff_getElem.1 HRS.out (i - 1) i ha hb (by omega)]
          rfl
      have hs0 : (x.str.toList == x.str.toList) = true := by simp
      have hs1 : ((x.id : Int) == (x.id : Int)) = true := by simp
      have hs2 : ((x.ver : Int) == (x.ver : Int)) = true := by simp
      have hs3 : (x.line == x.line) = true := by simp
      have hs4 : (x.cl == x.cl) = true := by simp
      clear hR hgi HP
      generalize x.str = x0 at *
      generalize (x.id : Int) = x1 at *
      generalize (x.ver : Int) = x2 at *
      generalize x.line = x3 at *
      generalize x.cl = x4 at *
      go_wp2_with fail
      refine HR.out.mono ?_
      rintro e v2 ⟨rfl, hb2⟩
      have HT3 := Lib.hid (HT2.out.below hb2)
      have HR3 := Lib.hid (HR2.out.below hb2)
      have HB2 := Lib.hid hb2
      obtain ⟨gx, hgx⟩ : ∃ gx, v2.heap.size = gx := ⟨_, rfl⟩
      have HGX := Lib.hid hgx
      clear hb2 hgx
      go_wp2_with (first
        | ((with_reducible show wpList _ _ _ (⟨some 8, .alloc _, _, _, _, _⟩ :: _) _ _); refine wpList_alloc_var (o := ⟨some 8, _, _, _, _, _⟩) rfl 33 rfl gx HGX.out _ HZ.out ?_; intro v3 H3a B3a)
        | (((with_reducible show wpList _ _ _ (⟨none, .store _ (.tmp 8) _, _, _, _, _⟩ :: _) _ _); refine wpList_store_whole (o := ⟨none, .store 33 (.tmp 8) (.tmp 32), _, _, _, _⟩) rfl _ _ _ rfl rfl gx #[.string x0, .int .u64 x1, .int .u64 x2, .int .i64 x3, .int .i64 x4] rfl rfl 33 _ H3a.out size_link rfl (onesL _ _ _ _ _) ?_; intro v4 H4a B4a); have HB4 : Hid (Below v2.heap.size v2 v4) := HGX.out.symm ▸ B3a.out.trans B4a.out; have HT4 := Lib.hid (HT3.out.below HB4.out); have HR4 := Lib.hid (HR3.out.below HB4.out); obtain ⟨c0, c1, c2, c3, c4⟩ := HCL.out v4 (HB2.out.trans (HB4.out.mono HB2.out.size)); obtain ⟨d0, d1, d2, d3, d4⟩ := cellsL H4a.out)
        | fail)
      cases pa with
      | false =>
        clear hle
        go_quiet (fail)
        go_wp2
        go_roundg gk
        case measure => omega
        case rel => exact ⟨i + 1, x0, true, by omega, by go_num, rfl, rfl, HPN, HT4.out.drewN nq, HR4.out.below (below_drewN (Below.refl _ _) nq)⟩
      | true =>
        have hle2 := hle rfl
        clear hle
        go_quiet (fail)
        go_wp2
        go_roundg gk
        case measure => omega
        case rel => exact ⟨i + 1, x0, true, by omega, by go_num, rfl, rfl, HPN, HT4.out.drewN nq, HR4.out.below (below_drewN (Below.refl _ _) nq)⟩
theorem walk (a0 : Option Addr) (len0 cap0 : Nat) (z0 : List ActP) (w : World) (w0 : IsActs w a0 len0 z0) :
    Calls Try.prog 5 #[.slice a0 len0 cap0] w fun e w' => e = .returned (.bool true) ∧ Below w.heap.size w w' := by
  cases h : largeB z0 with
  | true => exact many a0 len0 cap0 z0 w w0 h
  | false => exact few a0 len0 cap0 z0 w w0 h

set_option maxRecDepth 100000 in
theorem lifted (os : Os) (started : os.Started) (H : Type) (enc : TypeId × Value → H) :
    ReturnsInHanded {} Try.checked os 5 .any (Rows.orderWalksSpec.pre6 enc Try.prog Try.f5 Rows.orderWalksRow.domain false) (Rows.orderWalksSpec.post enc Try.prog Try.f5 false true false false) := by
  refine returnsInHanded_of_change (C := Try.checked) own started (by kernel_rfl) Try.func5
    (ChangeSpec.witness6 (enc := enc) (C := Try.checked) false ⟨#[], #[.slice none 0 0], []⟩ 8 (by kernel_rfl) (by kernel_rfl) (by kernel_rfl) (by kernel_rfl)) ?_
  intro W base args ds gs before hval0 hW hcnd _
  have hval : ∀ (j : Nat) t v, Try.f5.params[j]? = some t → args[j]? = some v → Value.okWide Try.prog W .any base t v := hval0
  have hW' := hW
  obtain ⟨p, q, hA0, hV, rfl, hfz, hnd⟩ := hW
  have hA : DataW.TrodAll enc Try.prog W 0 (fun _ => true) true Try.f5.params.toList args.toList ds p := hA0
  rw [Try.params5] at hA hval
  obtain ⟨v0, vs0, d0, ds0, p0, q0, hargs, rfl, rfl, h0, r0⟩ := trodAll_cons hA
  obtain ⟨rfl, rfl, rfl⟩ := trodAll_nil r0
  obtain rfl : args = #[v0] := by cases args; simp_all
  obtain ⟨rfl, rfl⟩ := trodVars_none hV
  obtain ⟨a0, len0, cap0, rfl⟩ := okWide_slice Try.underlying22 (hval 0 22 v0 rfl rfl)
  have k0 := h0
  have lt0 : ∀ x ∈ p0, x.block < W.heap.size := by obtain ⟨m, hm⟩ := k0; exact DataW.trod_lt m _ _ _ hm
  obtain ⟨z0, w0⟩ : ∃ zs, IsActs W a0 len0 zs := by
    obtain ⟨fuel, hf⟩ := h0
    exact isActs_of hf
  clear hA0 hval0
  refine (walk a0 len0 cap0 z0 W w0).mono fun e W' ⟨he, bel⟩ => ?_
  subst he
  exact ⟨_, rfl, _, _, _, [], _, [], hW', trodAll_mk1 (shut_bool Try.underlying4 _), (trodAll_cons_mk (Below.trod laidOut (by kernel_rfl) (of_decide_eq_true (by kernel_rfl)) k0 bel lt0) trodAll_mk0), rfl, bel.frame _, fun h => by cases h⟩

theorem over : Rows.orderWalksRow.holds Try.pinned (OpenSpec.ofChange Rows.orderWalksSpec) :=
  OpenClaim.holds_of_wide 5 Try.f5 rfl rfl rfl rfl rfl rfl rfl ⟨rfl, rfl, rfl, rfl, rfl⟩ rfl rfl rfl rfl rfl (by kernel_rfl) Try.func5 (by kernel_rfl)
    (of_decide_eq_true (by kernel_rfl)) (by unfold Func.isWrapper; first | (rw [if_pos (by decide +kernel)]; kernel_rfl) | (rw [if_neg (by decide +kernel)]; exact ⟨rfl, rfl⟩))
    (fun os started H enc _ => lifted os started H enc)

theorem proved : Rows.OrderWalksSaid := over
#print axioms proved
end Go.Proofs.Ytfdifimakaiccaa.orderWalks
