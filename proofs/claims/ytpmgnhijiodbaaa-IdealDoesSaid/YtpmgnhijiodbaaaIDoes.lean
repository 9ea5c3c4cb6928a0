/-
  Proved here: IdealDoes, the full form: what effects do to a store, one by one and all up to an epoch, is the document's.
  Conditions: none.
-/
import Derived.Test.YtpmgnhijiodbaaaRows
import Derived.Test.YtpmgnhijiodbaaaDsX15
import Derived.IntWalk
import Derived.WalkSmall
import Derived.Deep.QuietTactic
import Derived.BigQuiet
import Derived.WalkKit
import Derived.ProofKit
import Derived.OpenShut
import Derived.ShutString
import Derived.ChangeOld
import Derived.Below
namespace Go.Proofs.Ytpmgnhijiodbaaa.idealDoes
open Go.ChangeShapes Go.WideShapes Go.ChangeAt Go.RowKit
open Go.ChangeMaps (open_string shut_string)
set_option linter.unusedVariables false

theorem own : ownKnob Try.prog.godebug = none := by kernel_rfl
theorem laidOut : laidOutB Try.prog = true := by kernel_rfl

set_option maxRecDepth 100000 in
set_option maxHeartbeats 12800000 in
theorem walk (A : Option Addr) (n k : Nat) (B : Option Addr) (m d : Nat) (L : List Kv) (Q : List ByteArray) (a1 : Option Addr) (l1 k1 : Nat) (E : List Ef) (up : Int) (w : World) (hL : RP.Is w A n k L) (hQ : RS.Is w B m d Q) (hE : RE.Is w a1 l1 k1 E) (_ : (Lit.int .u64 up).wf = true) :
    Calls Try.prog 3 #[.agg #[.slice A n k, .slice B m d], .slice a1 l1 k1, .int .u64 up] w fun e w' => e = .returned (.bool true) ∧ Below w.heap.size w w' := by
  obtain ⟨g, hg⟩ : ∃ g, w.heap.size = g := ⟨_, rfl⟩
  obtain ⟨w0, hw0⟩ : ∃ w0, w.alloc (.cells #[.slice A n k, .slice B m d] 25) = w0 := ⟨_, rfl⟩
  have HS0 : Hid (w0.heap[g]? = some (.cells #[.slice A n k, .slice B m d] 25 (0, 0))) := by rw [← hw0, ← hg]; exact heap_alloc_new w _
  have HB0 : Hid (Below g w w0) := by rw [← hw0, ← hg]; exact (Below.refl _ _).alloc (Nat.le_refl _) _
  have HLG : Hid (∀ w2, Below g w w2 → Calls Try.prog 4 #[.agg #[.slice A n k, .slice B m d], .agg #[.int .i64 0, .string ⟨#[]⟩, .string ⟨#[]⟩, .string ⟨#[]⟩, .slice none 0 0]] w2 (LargeTo w2 L Q [])) := fun w2 hb => large_any w2 A B n k m d L Q ⟨0, ⟨#[]⟩, ⟨#[]⟩, ⟨#[]⟩, none, 0, 0⟩ [] (hL.below (hg.symm ▸ hb)) (hQ.below (hg.symm ▸ hb)) (RC.is_nil _)
  have HSS : Hid (∀ w2, Below g w w2 → Fit L Q [] → Shv w2 A n k B m d L Q) := fun w2 hb hf => (hf.shv hL hQ).below (hg.symm ▸ hb)
  have HEE : Hid (∀ w2, Below g w w2 → l1 ≤ 60 → RE.Row w2 a1 E) := fun w2 hb h => (hE.below (hg.symm ▸ hb)).row (by omega)
  have HEN : Hid (E.length = l1) := hE.1
  have HLC : Hid (∀ w2, Shv w2 A n k B m d L Q → Calls Try.prog 6 #[.agg #[.slice A n k, .slice B m d]] w2 (LCopy w2 L Q)) := fun w2 h => lcopy_any h
  have HSM : Hid (∀ (w2 : World) (A : Option Addr) (n c : Nat) (B : Option Addr) (m d : Nat) (A2 : Option Addr) (n2 c2 : Nat) (B2 : Option Addr) (m2 d2 : Nat) (L : List Kv) (Q : List ByteArray), Shv w2 A n c B m d L Q → Shv w2 A2 n2 c2 B2 m2 d2 L Q → Calls Try.prog 9 #[.agg #[.slice A n c, .slice B m d], .agg #[.slice A2 n2 c2, .slice B2 m2 d2]] w2 fun e w' => e = .returned (.bool true) ∧ Below w2.heap.size w2 w') := fun w2 A n c B m d A2 n2 c2 B2 m2 d2 L Q h k => sames_any h k
  have HRP : Hid (∀ w2, Below g w w2 → l1 ≤ 60 → (∀ x ∈ E, x.key.size ≤ 1000) → Calls Try.prog 10 #[.slice a1 l1 k1, .int .u64 up] w2 (fun e w' => ∃ A' n' c' B' m' d', e = .returned (.agg #[.slice A' n' c', .slice B' m' d']) ∧ w'.ownsRow w2.heap.size RP.tE RP.k (.slice A' n' c') n' (RP.enc (rpS up E).1) ∧ (rpS up E).1.length = n' ∧ QO w' w2.heap.size (.slice B' m' d') m' (rpS up E).2 ∧ Below w2.heap.size w2 w')) := fun w2 hb h hk => ireplay15_any (HEE.out w2 hb h) HEN.out (by omega) (fun x hx => Nat.le_trans (hk x hx) (by omega)) up
  have HRR : Hid (∀ w2, Below g w w2 → l1 ≤ 60 → Calls Try.prog 11 #[.slice a1 l1 k1, .int .u64 up] w2 (RefTo w2 (rpS up E).1 (rpS up E).2)) := fun w2 hb h => rreplay15_any (HEE.out w2 hb h) HEN.out (by omega) up
  have HRL : Hid (l1 ≤ 60 → (rpS up E).1.length ≤ 60 ∧ (rpS up E).2.length ≤ 60) := fun h => by
    have h1 := rpS_len up E
    have h2 := HEN.out
    exact ⟨by omega, by omega⟩
  have HAW := Lib.hid awake15_any
  have HZS := Lib.hid zero_shelf
  have HGW : Hid (w.heap.size = g) := hg
  rw [hg]
  clear hL hQ hE
  obtain ⟨p0, p1⟩ := cells2 HS0.out
  go_enter Try.func3, Try.ntmps3
  go_wp2_with fail
  refine (HLG.out w0 HB0.out).mono ?_
  clear hw0 hg p0 p1
  rintro e w1 ⟨b, rfl, hf, hb⟩
  have HG0 : Hid (g < w0.heap.size) := lt_of_heap HS0.out
  have HB1 : Hid (Below g w w1) := HB0.out.trans (hb.mono (Nat.le_of_lt HG0.out))
  have HS1 := Lib.hid ((hb.block g HG0.out).trans HS0.out)
  clear hb
  cases b with
  | true =>
    clear hf
    go_wp2_with fail
    refine (HAW.out _).mono ?_
    rintro e wz ⟨rfl, hbz⟩
    have HBZ : Hid (Below g w wz) := HB1.out.trans (hbz.mono (Nat.le_of_lt (lt_of_heap HS1.out)))
    clear hbz
    go_wp2
    go_ret
    exact ⟨rfl, HBZ.out⟩
  | false =>
    have HF := Lib.hid (hf rfl)
    clear hf
    rcases Classical.em (60 < l1) with h60 | h60
    · have h61 : (60 : Int) < (l1 : Int) := by omega
      go_wp2_with fail
      refine (HAW.out _).mono ?_
      rintro e wz ⟨rfl, hbz⟩
      have HBZ : Hid (Below g w wz) := HB1.out.trans (hbz.mono (Nat.le_of_lt (lt_of_heap HS1.out)))
      clear hbz
      go_wp2
      go_ret
      exact ⟨rfl, HBZ.out⟩
    · have h61 : ¬ (60 : Int) < (l1 : Int) := by omega
      have H60 : Hid (l1 ≤ 60) := Nat.le_of_not_lt h60
      clear h60
      go_wp2_with fail
      clear h61
      go_loopg [7] l1 (fun gk s7 wx => ∃ i : Nat, i + gk = l1 ∧ s7 = .int .i64 i ∧ wx = w1 ∧ Hid (∀ x ∈ E.take i, x.key.size ≤ 1000))
      case atStart => exact ⟨0, by omega, rfl, rfl, fun x hx => by cases hx⟩
      case round =>
        obtain ⟨i, hig, rfl, rfl, HKS⟩ := hrel
        cases gk with
        | succ gk =>
          have hii : (i : Int) < (l1 : Int) := by omega
          have hi0 : (0 : Int) ≤ (i : Int) := by omega
          obtain ⟨x, hx⟩ : ∃ x, E[i]? = some x := ⟨_, List.getElem?_eq_getElem (by have := HEN.out; omega)⟩
          obtain ⟨b1, o1, e1, hb1, r0, r1, r2, r3, r4, r5, r6⟩ := effAt (HEE.out wr HB1.out H60.out) hx
          have HEA := Lib.hid e1
          subst e1
          rcases Classical.em (1000 < x.key.size) with hz | hz
          · have hz1 : (1000 : Int) < (x.key.size : Int) := by omega
            clear hx hz
            go_wp2_with fail
            refine (HAW.out _).mono ?_
            rintro e wz ⟨rfl, hbz⟩
            have HBZ : Hid (Below g w wz) := HB1.out.trans (hbz.mono (Nat.le_of_lt (lt_of_heap HS1.out)))
            clear hbz
            go_wp2
            go_ret
            exact ⟨rfl, HBZ.out⟩
          · have hz1 : ¬ (1000 : Int) < (x.key.size : Int) := by omega
            have HK2 : Hid (∀ y ∈ E.take (i + 1), y.key.size ≤ 1000) := fun y hy => by
              rw [List.take_add_one, hx] at hy
              rcases List.mem_append.1 hy with h | h
              · exact HKS.out y h
              · obtain rfl : y = x := by simpa using h
                omega
            rcases Classical.em (1000 < x.val.size) with hv | hv
            · have hv1 : (1000 : Int) < (x.val.size : Int) := by omega
              clear hx hz hv
              go_wp2_with fail
              refine (HAW.out _).mono ?_
              rintro e wz ⟨rfl, hbz⟩
              have HBZ : Hid (Below g w wz) := HB1.out.trans (hbz.mono (Nat.le_of_lt (lt_of_heap HS1.out)))
              clear hbz
              go_wp2
              go_ret
              exact ⟨rfl, HBZ.out⟩
            · have hv1 : ¬ (1000 : Int) < (x.val.size : Int) := by omega
              clear hx hz hv
              go_wp2_with fail
              go_roundg gk
              case measure => omega
              case rel => exact ⟨i + 1, by omega, by go_num, rfl, HK2⟩
        | zero =>
          obtain rfl : l1 = i := by omega
          have hii : ¬ (l1 : Int) < (l1 : Int) := by omega
          have HKA : Hid (∀ x ∈ E, x.key.size ≤ 1000) := fun x hx => HKS.out x (by rw [← HEN.out, List.take_length]; exact hx)
          clear HKS
          generalize hwh : wr = wh at *
          clear hwh
          have HNG : Hid (g < wh.heap.size) := lt_of_heap HS1.out
          have HSI : Hid (∀ v, Below wh.heap.size wh v → Shv v A n k B m d L Q) := fun v hv => (HSS.out wh HB1.out HF.out).below hv
          have HKV : Hid (∀ V, Below wh.heap.size wh V → V.cell? ⟨g, 0, none⟩ = some (.slice A n k) ∧ V.cell? ⟨g, 1, none⟩ = some (.slice B m d)) := fun V hv => cells2 ((hv.block g HNG.out).trans HS1.out)
          have HNX : Hid (∀ z, wh.heap.size ≤ z → ¬ z = g ∧ ¬ g = z) := fun z hz => by have := HNG.out; exact ⟨by omega, by omega⟩
          obtain ⟨nx1, nx2⟩ := HNX.out wh.heap.size (Nat.le_refl _)
          obtain ⟨ny1, ny2⟩ := HNX.out (wh.heap.size + 1) (Nat.le_succ _)
          obtain ⟨t0, t1⟩ := HKV.out wh (Below.refl _ _)
          go_upto_region 8 with fail
          go_cut [8, 9] from 45 (fun s8 s9 wx => Tw wh L Q s8 s9 wx)
          case first =>
            go_region_held3 (fun V => V.cell? ⟨g, 0, none⟩ = some (.slice A n k) ∧ V.cell? ⟨g, 1, none⟩ = some (.slice B m d)) (go_keep)
              (first
                | (go_at_call 6; refine (HLC.out wh.drew (HSI.out _ (al0 wh))).mono ?_; rintro e xc ⟨A1, n1, c1, B1, m1, d1, rfl, ho1, hb0⟩; have HO1 : Hid (OwnS xc wh.heap.size A1 n1 c1 B1 m1 d1 L Q) := ho1.mono (al0 wh).size; have HXC : Hid (Below wh.heap.size wh xc) := (al0 wh).trans (hb0.mono (al0 wh).size); obtain ⟨v0, v1⟩ := HKV.out xc HXC.out; obtain ⟨nz1, nz2⟩ := HNX.out xc.heap.size HXC.out.size; obtain ⟨nw1, nw2⟩ := HNX.out (xc.heap.size + 1) (Nat.le_succ_of_le HXC.out.size); clear ho1 hb0)
                | (go_at_call 6; refine (HLC.out (wh.drew.alloc S0) (HSI.out _ (al01 wh))).mono ?_; rintro e xc ⟨A1, n1, c1, B1, m1, d1, rfl, ho1, hb0⟩; have HO1 : Hid (OwnS xc wh.heap.size A1 n1 c1 B1 m1 d1 L Q) := ho1.mono (al01 wh).size; have HXC : Hid (Below wh.heap.size wh xc) := (al01 wh).trans (hb0.mono (al01 wh).size); obtain ⟨v0, v1⟩ := HKV.out xc HXC.out; obtain ⟨nz1, nz2⟩ := HNX.out xc.heap.size HXC.out.size; obtain ⟨nw1, nw2⟩ := HNX.out (xc.heap.size + 1) (Nat.le_succ_of_le HXC.out.size); have HE1 : Hid (∀ v, Below xc.heap.size xc v → v.heap[wh.heap.size]? = some S0) := fun v hv => (hv.block _ (lt_of_heap (got_w2 hb0))).trans (got_w2 hb0); obtain ⟨s0, s1, sf⟩ := svar (got_w2 hb0); have sl := lt_of_heap (got_w2 hb0); have sn := Nat.ne_of_lt sl; have sn2 := Nat.ne_of_gt sl; clear ho1 hb0)
                | (go_at_call 6; refine (HLC.out ((wh.drew.alloc S0).alloc S0) (HSI.out _ (al02 wh))).mono ?_; rintro e xc ⟨A1, n1, c1, B1, m1, d1, rfl, ho1, hb0⟩; have HO1 : Hid (OwnS xc wh.heap.size A1 n1 c1 B1 m1 d1 L Q) := ho1.mono (al02 wh).size; have HXC : Hid (Below wh.heap.size wh xc) := (al02 wh).trans (hb0.mono (al02 wh).size); obtain ⟨v0, v1⟩ := HKV.out xc HXC.out; obtain ⟨nz1, nz2⟩ := HNX.out xc.heap.size HXC.out.size; obtain ⟨nw1, nw2⟩ := HNX.out (xc.heap.size + 1) (Nat.le_succ_of_le HXC.out.size); have HE1 : Hid (∀ v, Below xc.heap.size xc v → v.heap[wh.heap.size]? = some S0) := fun v hv => (hv.block _ (lt_of_heap (got_ss hb0).1)).trans (got_ss hb0).1; have HE2 : Hid (∀ v, Below xc.heap.size xc v → v.heap[(wh.heap.size + 1)]? = some S0) := fun v hv => (hv.block _ (lt_of_heap (got_ss hb0).2)).trans (got_ss hb0).2; obtain ⟨s0, s1, sf⟩ := svar (got_ss hb0).1; obtain ⟨u0, u1, uf⟩ := svar (got_ss hb0).2; have sl := lt_of_heap (got_ss hb0).1; have sn := Nat.ne_of_lt sl; have sn2 := Nat.ne_of_gt sl; have ul := lt_of_heap (got_ss hb0).2; have un := Nat.ne_of_lt ul; have un2 := Nat.ne_of_gt ul; clear ho1 hb0)
                | (go_at_call 6; refine (HLC.out xc (HSI.out _ (HXC.out.trans ((Below.refl xc.heap.size xc).mono HXC.out.size)))).mono ?_; rintro e x2 ⟨A2, n2, c2, B2, m2, d2, rfl, ho2, hb⟩; have hbc : Below xc.heap.size xc x2 := (Below.refl xc.heap.size xc).trans (hb.mono (Below.refl xc.heap.size xc).size); have hbx : Below wh.heap.size wh x2 := HXC.out.trans (hbc.mono HXC.out.size); have ho : OwnS x2 wh.heap.size A2 n2 c2 B2 m2 d2 L Q := ho2.mono (Nat.le_trans HXC.out.size (Below.refl xc.heap.size xc).size); have hq : OwnS x2 wh.heap.size A1 n1 c1 B1 m1 d1 L Q := HO1.out.below hbc; obtain ⟨z0, z1⟩ := HKV.out x2 hbx; obtain ⟨nu1, nu2⟩ := HNX.out x2.heap.size hbx.size; obtain ⟨nt1, nt2⟩ := HNX.out (x2.heap.size + 1) (Nat.le_succ_of_le hbx.size); (try (have e1 := HE1.out x2 hbc; obtain ⟨ea0, ea1, eaf⟩ := svar e1; have el1 := lt_of_heap e1; have en1 := Nat.ne_of_lt el1; have en2 := Nat.ne_of_gt el1)); (try (have e2 := HE2.out x2 hbc; obtain ⟨eb0, eb1, ebf⟩ := svar e2; have el2 := lt_of_heap e2; have en3 := Nat.ne_of_lt el2; have en4 := Nat.ne_of_gt el2)); clear ho2 hb)
                | (go_at_call 6; refine (HLC.out (xc.alloc S0) (HSI.out _ (HXC.out.trans ((al1 xc S0).mono HXC.out.size)))).mono ?_; rintro e x2 ⟨A2, n2, c2, B2, m2, d2, rfl, ho2, hb⟩; have hbc : Below xc.heap.size xc x2 := (al1 xc S0).trans (hb.mono (al1 xc S0).size); have hbx : Below wh.heap.size wh x2 := HXC.out.trans (hbc.mono HXC.out.size); have ho : OwnS x2 wh.heap.size A2 n2 c2 B2 m2 d2 L Q := ho2.mono (Nat.le_trans HXC.out.size (al1 xc S0).size); have hq : OwnS x2 wh.heap.size A1 n1 c1 B1 m1 d1 L Q := HO1.out.below hbc; obtain ⟨z0, z1⟩ := HKV.out x2 hbx; obtain ⟨nu1, nu2⟩ := HNX.out x2.heap.size hbx.size; obtain ⟨nt1, nt2⟩ := HNX.out (x2.heap.size + 1) (Nat.le_succ_of_le hbx.size); (try (have e1 := HE1.out x2 hbc; obtain ⟨ea0, ea1, eaf⟩ := svar e1; have el1 := lt_of_heap e1; have en1 := Nat.ne_of_lt el1; have en2 := Nat.ne_of_gt el1)); (try (have e2 := HE2.out x2 hbc; obtain ⟨eb0, eb1, ebf⟩ := svar e2; have el2 := lt_of_heap e2; have en3 := Nat.ne_of_lt el2; have en4 := Nat.ne_of_gt el2)); have e3 : x2.heap[xc.heap.size]? = some S0 := (hb.block xc.heap.size (by simp)).trans (heap_alloc_new xc _); obtain ⟨ec0, ec1, ecf⟩ := svar e3; have el3 := lt_of_heap e3; have en5 := Nat.ne_of_lt el3; have en6 := Nat.ne_of_gt el3; (try (have ne1 : ¬ wh.heap.size = xc.heap.size := (by omega); have ne2 : ¬ xc.heap.size = wh.heap.size := (by omega))); clear ho2 hb)
                | (go_at_call 6; refine (HLC.out ((xc.alloc S0).alloc S0) (HSI.out _ (HXC.out.trans ((al2 xc S0 S0).mono HXC.out.size)))).mono ?_; rintro e x2 ⟨A2, n2, c2, B2, m2, d2, rfl, ho2, hb⟩; have hbc : Below xc.heap.size xc x2 := (al2 xc S0 S0).trans (hb.mono (al2 xc S0 S0).size); have hbx : Below wh.heap.size wh x2 := HXC.out.trans (hbc.mono HXC.out.size); have ho : OwnS x2 wh.heap.size A2 n2 c2 B2 m2 d2 L Q := ho2.mono (Nat.le_trans HXC.out.size (al2 xc S0 S0).size); have hq : OwnS x2 wh.heap.size A1 n1 c1 B1 m1 d1 L Q := HO1.out.below hbc; obtain ⟨z0, z1⟩ := HKV.out x2 hbx; obtain ⟨nu1, nu2⟩ := HNX.out x2.heap.size hbx.size; obtain ⟨nt1, nt2⟩ := HNX.out (x2.heap.size + 1) (Nat.le_succ_of_le hbx.size); (try (have e1 := HE1.out x2 hbc; obtain ⟨ea0, ea1, eaf⟩ := svar e1; have el1 := lt_of_heap e1; have en1 := Nat.ne_of_lt el1; have en2 := Nat.ne_of_gt el1)); (try (have e2 := HE2.out x2 hbc; obtain ⟨eb0, eb1, ebf⟩ := svar e2; have el2 := lt_of_heap e2; have en3 := Nat.ne_of_lt el2; have en4 := Nat.ne_of_gt el2)); have e3 : x2.heap[xc.heap.size]? = some S0 := (hb.block xc.heap.size (by simp <;> omega)).trans (alloc_old (heap_alloc_new xc _)); obtain ⟨ec0, ec1, ecf⟩ := svar e3; have el3 := lt_of_heap e3; have en5 := Nat.ne_of_lt el3; have en6 := Nat.ne_of_gt el3; have e4 : x2.heap[xc.heap.size + 1]? = some S0 := (hb.block (xc.heap.size + 1) (by simp)).trans (alloc_two xc _ _); obtain ⟨ed0, ed1, edf⟩ := svar e4; have el4 := lt_of_heap e4; have en7 := Nat.ne_of_lt el4; have en8 := Nat.ne_of_gt el4; clear ho2 hb)
                | fail)
            all_goals
              go_wp2
              go_meet
              case rel => first
                | (have h := tw_ll hq ho hbx; with_reducible exact h)
                | (have h := tw_ll' hq ho hbx; with_reducible exact h)
                | (have h := tw_el hq ho hbx e1 (Nat.le_refl _); with_reducible exact h)
                | (have h := tw_le hq ho hbx e1 (Nat.le_refl _); with_reducible exact h)
                | (have h := tw_el hq ho hbx e3 HXC.out.size; with_reducible exact h)
                | (have h := tw_le hq ho hbx e3 HXC.out.size; with_reducible exact h)
                | (have h := tw_ee hq ho hbx e1 (Nat.le_refl _) e2 (Nat.le_succ _) (by omega); with_reducible exact h)
                | (have h := tw_ee hq ho hbx e2 (Nat.le_succ _) e1 (Nat.le_refl _) (by omega); with_reducible exact h)
                | (have h := tw_ee hq ho hbx e1 (Nat.le_refl _) e3 HXC.out.size (by omega); with_reducible exact h)
                | (have h := tw_ee hq ho hbx e3 HXC.out.size e1 (Nat.le_refl _) (by omega); with_reducible exact h)
                | (have h := tw_ee hq ho hbx e3 HXC.out.size e4 (Nat.le_succ_of_le HXC.out.size) (by omega); with_reducible exact h)
                | (have h := tw_ee hq ho hbx e4 (Nat.le_succ_of_le HXC.out.size) e3 HXC.out.size (by omega); with_reducible exact h)
          case rest =>
            obtain ⟨ga, gb, A3, n3, c3, B3, m3, d3, A4, n4, c4, B4, m4, d4, rfl, rfl, hA, hB, o1, o2, hne, hga, hgb, hb⟩ := hcut
            obtain ⟨N, hN⟩ : ∃ z, wh.heap.size = z := ⟨_, rfl⟩
            rw [hN] at o1 o2 hga hgb hb
            have HN := Lib.hid hN
            have HXA := Lib.hid hA
            have HXB := Lib.hid hB
            have HO1 := Lib.hid o1
            have HO2 := Lib.hid o2
            have HGA := Lib.hid hga
            have HGB := Lib.hid hgb
            have HBC := Lib.hid hb
            have HNW : Hid (g < N) := hN ▸ HNG.out
            have HBH : Hid (∀ v, Below N wh v → Below g w v) := fun v hv => HB1.out.trans (hv.mono (Nat.le_of_lt HNW.out))
            have hab : ¬ ga = gb := hne
            have hba : ¬ gb = ga := fun e => hne e.symm
            clear nx1 nx2 ny1 ny2 t0 t1 hA hB o1 o2 hne hga hgb hb hN
            go_wp2_with fail
            go_loopg [10] l1 (fun gk s10 wx => ∃ (i : Nat) (A3 : Option Addr) (n3 c3 : Nat) (B3 : Option Addr) (m3 d3 : Nat) (A4 : Option Addr) (n4 c4 : Nat) (B4 : Option Addr) (m4 d4 : Nat), i + gk = l1 ∧ s10 = .int .i64 i ∧ Hid (wx.heap[ga]? = some (.cells #[.slice A3 n3 c3, .slice B3 m3 d3] 25 (0, 0))) ∧ Hid (wx.heap[gb]? = some (.cells #[.slice A4 n4 c4, .slice B4 m4 d4] 25 (0, 0))) ∧ Hid (OwnS wx N A3 n3 c3 B3 m3 d3 (doL E i L) (doQ E i Q)) ∧ Hid (OwnS wx N A4 n4 c4 B4 m4 d4 (doL E i L) (doQ E i Q)) ∧ Hid (Below N wh wx))
            case atStart => exact ⟨0, A3, n3, c3, B3, m3, d3, A4, n4, c4, B4, m4, d4, by omega, rfl, HXA, HXB, HO1, HO2, HBC⟩
            case round =>
              obtain ⟨i, A5, n5, c5, B5, m5, d5, A6, n6, c6, B6, m6, d6, hig, rfl, HXa, HXb, HOa, HOb, HW⟩ := hrel
              have HBr : Hid (Below g w wr) := HBH.out wr HW.out
              have HNr : Hid (N ≤ wr.heap.size) := HN.out ▸ HW.out.size
              cases gk with
              | succ gk =>
                have HLN : Hid ((doL E i L).length ≤ 120 ∧ (doQ E i Q).length ≤ 120) := by
                  have h := do_len E L Q i
                  have h1 := HF.out.1
                  have h2 := HF.out.2.1
                  have h3 := H60.out
                  exact ⟨by omega, by omega⟩
                obtain ⟨q0, q1⟩ := cells2 HXa.out
                obtain ⟨q2, q3⟩ := cells2 HXb.out
                have hii : (i : Int) < (l1 : Int) := by omega
                have hi0 : (0 : Int) ≤ (i : Int) := by omega
                obtain ⟨x, hx⟩ : ∃ x, E[i]? = some x := ⟨_, List.getElem?_eq_getElem (by have := HEN.out; omega)⟩
                have HSL : Hid (doL E (i + 1) L = efL x (doL E i L)) := doL_succ hx L
                have HSQ : Hid (doQ E (i + 1) Q = efQ x (doQ E i Q)) := doQ_succ hx Q
                obtain ⟨b1, o1, e1, hb1, k0, k1, k2, k3, k4, k5, k6⟩ := effAt (HEE.out wr HBr.out H60.out) hx
                have HEA : Hid (∀ v, Below g w v → v.cell? ⟨b1, o1 + i * 7, none⟩ = some (.int .i64 x.kd) ∧ v.cell? ⟨b1, o1 + i * 7 + 1, none⟩ = some (.string x.key) ∧ v.cell? ⟨b1, o1 + i * 7 + 2, none⟩ = some (.string x.val) ∧ v.cell? ⟨b1, o1 + i * 7 + 3, none⟩ = some (.int .u64 x.id) ∧ v.cell? ⟨b1, o1 + i * 7 + 4, none⟩ = some (.int .u64 x.ver) ∧ v.cell? ⟨b1, o1 + i * 7 + 5, none⟩ = some (.int .u64 x.ep) ∧ v.cell? ⟨b1, o1 + i * 7 + 6, none⟩ = some (.int .i64 x.gp)) := fun v hv => by
                  obtain ⟨b2, o2, e2, _, h⟩ := effAt (HEE.out v hv H60.out) hx
                  rw [e1] at e2
                  cases e2
                  exact h
                subst e1
                have HDA : Hid (Calls Try.prog 7 #[.agg #[.slice A5 n5 c5, .slice B5 m5 d5], .agg #[.int .i64 x.kd, .string x.key, .string x.val, .int .u64 x.id, .int .u64 x.ver, .int .u64 x.ep, .int .i64 x.gp]] wr.drew (RefTo wr.drew (efL x (doL E i L)) (efQ x (doQ E i Q)))) := ido15_any ((HOa.out.shv (by have := HLN.out.1; omega) (by have := HLN.out.2; omega)).below (Below.refl _ _).drew) (by have := HLN.out.1; omega) (by have := HLN.out.2; omega) x
                have HLA : Hid (ga < wr.heap.size) := lt_of_heap HXa.out
                have HLB : Hid (gb < wr.heap.size) := lt_of_heap HXb.out
                clear hx hb1
                go_wp2
                go_region_with (go_at_call 7; refine HDA.out.mono ?_; rintro e W ⟨A7, n7, c7, B7, m7, d7, rfl, kk1, kk2⟩; have HK1 : Hid (OwnS W N A7 n7 c7 B7 m7 d7 (efL x (doL E i L)) (efQ x (doQ E i Q))) := kk1.mono HNr.out; have HK2 : Hid (Below wr.heap.size wr W) := (Below.refl _ _).drew.trans kk2; have HXaw := Lib.hid ((HK2.out.block ga HLA.out).trans HXa.out); clear kk1 kk2; obtain ⟨s0, s1⟩ := cells2 HXaw.out; have f0 : W.frozen? ⟨ga, 0, none⟩ = false := (by have hh := HXaw.out; simp [World.frozen?, hh]); have f1 : W.frozen? ⟨ga, 1, none⟩ = false := (by have hh := HXaw.out; simp [World.frozen?, hh]))
                all_goals
                  obtain ⟨wa, hwa⟩ : ∃ z, (W.setCell ⟨ga, 0, none⟩ (.slice A7 n7 c7)).setCell ⟨ga, 1, none⟩ (.slice B7 m7 d7) = z := ⟨_, rfl⟩
                  have HST : Hid (Stay (fun k => k = ga) W wa) := by rw [← hwa]; exact wrS_stay W ga (.slice A7 n7 c7) (.slice B7 m7 d7)
                  have HXa1 : Hid (wa.heap[ga]? = some (.cells #[.slice A7 n7 c7, .slice B7 m7 d7] 25 (0, 0))) := by rw [← hwa]; exact set2 HXaw.out
                  have HXb1 : Hid (wa.heap[gb]? = some (.cells #[.slice A6 n6 c6, .slice B6 m6 d6] 25 (0, 0))) := ((HST.out.block gb hba (Nat.lt_of_lt_of_le HLB.out HK2.out.size)).trans (HK2.out.block gb HLB.out)).trans HXb.out
                  have HWA : Hid (Below N wh wa) := (HW.out.trans (HK2.out.mono HNr.out)).trans (by rw [← hwa]; exact (((Below.refl N W).setCell (p := ⟨ga, _, none⟩) HGA.out _).setCell (p := ⟨ga, _, none⟩) HGA.out _))
                  have HOa1 := Lib.hid (HK1.out.box HST.out HXaw.out)
                  have HOb1 := Lib.hid ((HOb.out.below HK2.out).box HST.out HXaw.out)
                  have HNa : Hid (N ≤ wa.heap.size) := HN.out ▸ HWA.out.size
                  have HLA1 : Hid (ga < wa.heap.size) := lt_of_heap HXa1.out
                  have HLB1 : Hid (gb < wa.heap.size) := lt_of_heap HXb1.out
                  have HDB : Hid (Calls Try.prog 8 #[.agg #[.slice A6 n6 c6, .slice B6 m6 d6], .agg #[.int .i64 x.kd, .string x.key, .string x.val, .int .u64 x.id, .int .u64 x.ver, .int .u64 x.ep, .int .i64 x.gp]] wa.drew (RDoTo wa.drew N (efL x (doL E i L)) (efQ x (doQ E i Q)))) := rdo15_any (HOb1.out.below (Below.refl _ _).drew) HNa.out (by have := HLN.out.1; omega) (by have := HLN.out.2; omega) x
                  rw [hwa]
                  clear hwa s0 s1 f0 f1 k0 k1 k2 k3 k4 k5 k6 q0 q1 q2 q3
                  obtain ⟨k0, k1, k2, k3, k4, k5, k6⟩ := HEA.out wa (HBH.out wa HWA.out)
                  obtain ⟨q2, q3⟩ := cells2 HXb1.out
                  go_wp2
                  go_region_with (go_at_call 8; refine HDB.out.mono ?_; rintro e V ⟨A9, n9, c9, B9, m9, d9, rfl, kk1, kk2⟩; have HK3 := Lib.hid kk1; have HK4 : Hid (Below wa.heap.size wa V) := (Below.refl _ _).drew.trans kk2; have HXbv := Lib.hid ((HK4.out.block gb HLB1.out).trans HXb1.out); clear kk1 kk2; obtain ⟨s0, s1⟩ := cells2 HXbv.out; have f0 : V.frozen? ⟨gb, 0, none⟩ = false := (by have hh := HXbv.out; simp [World.frozen?, hh]); have f1 : V.frozen? ⟨gb, 1, none⟩ = false := (by have hh := HXbv.out; simp [World.frozen?, hh]))
                  all_goals
                    obtain ⟨wb, hwb⟩ : ∃ z, (V.setCell ⟨gb, 0, none⟩ (.slice A9 n9 c9)).setCell ⟨gb, 1, none⟩ (.slice B9 m9 d9) = z := ⟨_, rfl⟩
                    have HSU : Hid (Stay (fun k => k = gb) V wb) := by rw [← hwb]; exact wrS_stay V gb (.slice A9 n9 c9) (.slice B9 m9 d9)
                    have HXb2 : Hid (wb.heap[gb]? = some (.cells #[.slice A9 n9 c9, .slice B9 m9 d9] 25 (0, 0))) := by rw [← hwb]; exact set2 HXbv.out
                    have HXa2 : Hid (wb.heap[ga]? = some (.cells #[.slice A7 n7 c7, .slice B7 m7 d7] 25 (0, 0))) := ((HSU.out.block ga hab (Nat.lt_of_lt_of_le HLA1.out HK4.out.size)).trans (HK4.out.block ga HLA1.out)).trans HXa1.out
                    have HWB : Hid (Below N wh wb) := (HWA.out.trans (HK4.out.mono HNa.out)).trans (by rw [← hwb]; exact (((Below.refl N V).setCell (p := ⟨gb, _, none⟩) HGB.out _).setCell (p := ⟨gb, _, none⟩) HGB.out _))
                    have HOb2 := Lib.hid (HK3.out.box HSU.out HXbv.out)
                    have HOa2 := Lib.hid ((HOa1.out.below HK4.out).box HSU.out HXbv.out)
                    have HLM : Hid ((efL x (doL E i L)).length ≤ 121 ∧ (efQ x (doQ E i Q)).length ≤ 121) := by
                      have h1 := efL_len x (doL E i L)
                      have h2 := efQ_len x (doQ E i Q)
                      have h3 := HLN.out
                      exact ⟨by omega, by omega⟩
                    have HSC := Lib.hid (HSM.out wb _ _ _ _ _ _ _ _ _ _ _ _ _ _ (HOa2.out.shv (by have := HLM.out.1; omega) (by have := HLM.out.2; omega)) (HOb2.out.shv (by have := HLM.out.1; omega) (by have := HLM.out.2; omega)))
                    rw [hwb]
                    clear hwb s0 s1 f0 f1 k0 k1 k2 k3 k4 k5 k6 q2 q3
                    obtain ⟨q0, q1⟩ := cells2 HXa2.out
                    obtain ⟨q2, q3⟩ := cells2 HXb2.out
                    go_wp2_with fail
                    refine HSC.out.mono ?_
                    clear q0 q1 q2 q3
                    rintro e wq ⟨rfl, hbq⟩
                    have HBQ := Lib.hid hbq
                    clear hbq
                    go_wp2_with fail
                    go_roundg gk
                    case measure => omega
                    case rel =>
                      refine ⟨i + 1, A7, n7, c7, B7, m7, d7, A9, n9, c9, B9, m9, d9, by omega, by go_num, (HBQ.out.block ga (lt_of_heap HXa2.out)).trans HXa2.out, (HBQ.out.block gb (lt_of_heap HXb2.out)).trans HXb2.out, ?_, ?_, HWB.out.trans (HBQ.out.mono (HN.out ▸ HWB.out.size))⟩
                      · show OwnS _ _ _ _ _ _ _ _ _ _
                        rw [HSL.out, HSQ.out]
                        exact HOa2.out.below HBQ.out
                      · show OwnS _ _ _ _ _ _ _ _ _ _
                        rw [HSL.out, HSQ.out]
                        exact HOb2.out.below HBQ.out
              | zero =>
                obtain rfl : l1 = i := by omega
                have hii : ¬ (l1 : Int) < (l1 : Int) := by omega
                have HRC := Lib.hid (HRP.out wr HBr.out H60.out HKA.out)
                have HGr : Hid (g ≤ wr.heap.size) := Nat.le_trans (Nat.le_of_lt HNW.out) HNr.out
                clear HXa HXb HOa HOb
                go_wp2_with fail
                refine HRC.out.mono ?_
                clear hii hab hba
                rintro e W3 ⟨A8, n8, c8, B8, m8, d8, rfl, o8, l8, q8, hb3⟩
                obtain ⟨M0, hM0⟩ : ∃ z, wr.heap.size = z := ⟨_, rfl⟩
                rw [hM0] at o8 q8 hb3
                have HM0 : Hid (g ≤ M0) := hM0 ▸ HGr.out
                have HL8 := Lib.hid l8
                have HBx : Hid (Below g w W3) := HBr.out.trans (hb3.mono HM0.out)
                have HMW : Hid (M0 ≤ W3.heap.size) := hM0 ▸ hb3.size
                obtain ⟨gx, hgx⟩ : ∃ z, W3.heap.size = z := ⟨_, rfl⟩
                have HGX := Lib.hid hgx
                have HO8 := Lib.hid o8
                have HQ8 := Lib.hid q8
                clear hgx hM0 o8 q8 l8 hb3
                go_wp2_with (first
                  | ((with_reducible show wpList _ _ _ (⟨some 11, .alloc _, _, _, _, _⟩ :: _) _ _); refine wpList_alloc_var (o := ⟨some 11, _, _, _, _, _⟩) rfl 25 rfl gx HGX.out _ HZS.out ?_; intro xa XA CA)
                  | ((with_reducible show wpList _ _ _ (⟨none, .store _ (.tmp 11) _, _, _, _, _⟩ :: _) _ _); refine wpList_store_whole (o := ⟨none, .store 25 (.tmp 11) (.tmp 73), _, _, _, _⟩) rfl _ _ _ rfl rfl gx #[.slice A8 n8 c8, .slice B8 m8 d8] rfl rfl 25 _ XA.out size_shelf rfl (onesV _ _ _ _ _ _) ?_; intro x5 X5 CB; obtain ⟨p0, p1⟩ := cells2 X5.out)
                  | fail)
                have HB35 : Hid (Below W3.heap.size W3 x5) := HGX.out.symm ▸ CA.out.trans CB.out
                have HBx5 : Hid (Below g w x5) := HBx.out.trans (HB35.out.mono (Nat.le_trans HM0.out HMW.out))
                have HO5 : Hid (x5.ownsRow M0 RP.tE RP.k (.slice A8 n8 c8) n8 (RP.enc (rpS up E).1)) := own_keep HO8.out HB35.out
                have HQ5 : Hid (QO x5 M0 (.slice B8 m8 d8) m8 (rpS up E).2) := HQ8.out.stay (fun k hk => HB35.out.block k (HQ8.out.lt hk).2)
                have HM5 : Hid (M0 ≤ x5.heap.size) := Nat.le_trans HMW.out HB35.out.size
                have HR5 : Hid (Calls Try.prog 11 #[.slice a1 l1 k1, .int .u64 up] x5.drew (RefTo x5.drew (rpS up E).1 (rpS up E).2)) := HRR.out x5.drew HBx5.out.drew H60.out
                have HXL : Hid (gx < x5.heap.size) := lt_of_heap X5.out
                go_wp2
                go_region_with (first
                  | (go_at_call 11; refine HR5.out.mono ?_; rintro e W ⟨A9, n9, c9, B9, m9, d9, rfl, kk1, kk2⟩; have HK2 : Hid (Below x5.heap.size x5 W) := (Below.refl _ _).drew.trans kk2; have HO9 := Lib.hid kk1; have HXw := Lib.hid ((HK2.out.block gx HXL.out).trans X5.out); obtain ⟨s0, s1⟩ := cells2 HXw.out; have HOw : Hid (W.ownsRow M0 RP.tE RP.k (.slice A8 n8 c8) n8 (RP.enc (rpS up E).1)) := own_keep HO5.out HK2.out; have HQw : Hid (QO W M0 (.slice B8 m8 d8) m8 (rpS up E).2) := HQ5.out.stay (fun k hk => HK2.out.block k (HQ5.out.lt hk).2); have HSw := Lib.hid (HSM.out W _ _ _ _ _ _ _ _ _ _ _ _ _ _ (shv_q HOw.out HL8.out HQw.out (by have := (HRL.out H60.out).1; omega) (by have := (HRL.out H60.out).2; omega)) (HO9.out.shv (by have := (HRL.out H60.out).1; omega) (by have := (HRL.out H60.out).2; omega))); clear kk1 kk2)
                  | (go_at_call 9; refine HSw.out.mono ?_; rintro e wq ⟨rfl, hbq⟩; have HBQ := Lib.hid hbq; clear hbq)
                  | fail)
                all_goals
                  have HXq := Lib.hid ((HBQ.out.block gx (lt_of_heap HXw.out)).trans HXw.out)
                  have HOq : Hid (wq.ownsRow M0 RP.tE RP.k (.slice A8 n8 c8) n8 (RP.enc (rpS up E).1)) := own_keep HOw.out HBQ.out
                  have HQq : Hid (QO wq M0 (.slice B8 m8 d8) m8 (rpS up E).2) := HQw.out.stay (fun k hk => HBQ.out.block k (HQw.out.lt hk).2)
                  have HMq : Hid (M0 ≤ wq.heap.size) := Nat.le_trans HM5.out (Nat.le_trans HK2.out.size HBQ.out.size)
                  have HBq : Hid (Below g w wq) := HBx5.out.trans ((HK2.out.trans (HBQ.out.mono HK2.out.size)).mono (Nat.le_trans HM0.out HM5.out))
                  have HOV := Lib.hid (oversq_any HOq.out HL8.out HQq.out (by have := (HRL.out H60.out).1; have := HL8.out; omega) (by have := (HRL.out H60.out).2; have := HQq.out.1; omega) HMq.out)
                  clear p0 p1 s0 s1
                  obtain ⟨y0, y1⟩ := cells2 HXq.out
                  go_wp2_with fail
                  refine HOV.out.mono ?_
                  clear y0 y1
                  rintro e wo ⟨rfl, hbo⟩
                  have HBo : Hid (Below g w wo) := HBq.out.trans (hbo.mono HM0.out)
                  clear hbo
                  have HRC2 := Lib.hid (HRP.out wo HBo.out H60.out HKA.out)
                  go_wp2_with fail
                  refine HRC2.out.mono ?_
                  rintro e W4 ⟨A2, n2, c2, B2, m2, d2, rfl, o2, l2, q2, hb4⟩
                  have HL2 := Lib.hid l2
                  have HO2 := Lib.hid o2
                  have HQ2 := Lib.hid q2
                  have HLo : Hid (g ≤ wo.heap.size) := HGW.out ▸ HBo.out.size
                  have HB4 : Hid (Below g w W4) := HBo.out.trans (hb4.mono HLo.out)
                  have HRC3 := Lib.hid (HRR.out W4 HB4.out H60.out)
                  clear l2 o2 q2 hb4
                  go_wp2_with fail
                  refine HRC3.out.mono ?_
                  rintro e W5 ⟨A1, n1, c1, B1, m1, d1, rfl, o1, hb5⟩
                  have HSw5 := Lib.hid (HSM.out W5 _ _ _ _ _ _ _ _ _ _ _ _ _ _ (shv_q (own_keep HO2.out hb5) HL2.out (HQ2.out.stay (fun k hk => hb5.block k (HQ2.out.lt hk).2)) (by have := (HRL.out H60.out).1; omega) (by have := (HRL.out H60.out).2; omega)) (o1.shv (by have := (HRL.out H60.out).1; omega) (by have := (HRL.out H60.out).2; omega)))
                  have HL4 : Hid (g ≤ W4.heap.size) := HGW.out ▸ HB4.out.size
                  have HB5 : Hid (Below g w W5) := HB4.out.trans (hb5.mono HL4.out)
                  have HL5 : Hid (g ≤ W5.heap.size) := Nat.le_trans HL4.out hb5.size
                  clear o1 hb5
                  go_wp2_with fail
                  refine HSw5.out.mono ?_
                  rintro e W6 ⟨rfl, hb6⟩
                  have HB6 : Hid (Below g w W6) := HB5.out.trans (hb6.mono HL5.out)
                  have HL6 : Hid (g ≤ W6.heap.size) := Nat.le_trans HL5.out hb6.size
                  clear hb6
                  go_wp2_with fail
                  refine (HAW.out _).mono ?_
                  rintro e wz ⟨rfl, hbz⟩
                  have HBZ : Hid (Below g w wz) := HB6.out.trans (hbz.mono HL6.out)
                  clear hbz
                  go_wp2
                  go_ret
                  exact ⟨rfl, HBZ.out⟩

set_option maxRecDepth 100000 in
theorem lifted (os : Os) (started : os.Started) (H : Type) (enc : TypeId × Value → H) :
    ReturnsInHanded {} Try.checked os 3 .any (Rows.idealDoesSpec.pre6 enc Try.prog Try.f3 Rows.idealDoesRow.domain false) (Rows.idealDoesSpec.post enc Try.prog Try.f3 false true false false) := by
  refine returnsInHanded_of_change (C := Try.checked) own started (by kernel_rfl) Try.func3
    (ChangeSpec.witness6 (enc := enc) (C := Try.checked) false ⟨#[], #[.agg #[.slice none 0 0, .slice none 0 0], .slice none 0 0, .int .u64 0], []⟩ 8 (by kernel_rfl) (by kernel_rfl) (by kernel_rfl) (by kernel_rfl)) ?_
  intro W base args ds gs before hval0 hW hcnd _
  have hval : ∀ (j : Nat) t v, Try.f3.params[j]? = some t → args[j]? = some v → Value.okWide Try.prog W .any base t v := hval0
  have hW' := hW
  obtain ⟨p, q, hA0, hV, rfl, hfz, hnd⟩ := hW
  have hA : DataW.TrodAll enc Try.prog W 0 (fun _ => true) true Try.f3.params.toList args.toList ds p := hA0
  rw [Try.params3] at hA hval
  obtain ⟨v0, vs0, d0, ds0, p0, q0, hargs, rfl, rfl, h0, r0⟩ := trodAll_cons hA
  obtain ⟨v1, vs1, d1, ds1, p1, q1, rfl, rfl, rfl, h1, r1⟩ := trodAll_cons r0
  obtain ⟨v2, vs2, d2, ds2, p2, q2, rfl, rfl, rfl, h2, r2⟩ := trodAll_cons r1
  obtain ⟨rfl, rfl, rfl⟩ := trodAll_nil r2
  obtain rfl : args = #[v0, v1, v2] := by cases args; simp_all
  obtain ⟨rfl, rfl⟩ := trodVars_none hV
  obtain ⟨A0, n0, c0, B0, m0, e0, rfl, L0, Q0, w0, u0⟩ := isShelf_of (hval 0 25 v0 rfl rfl) h0
  have k0 := h0
  have lt0 : ∀ x ∈ p0, x.block < W.heap.size := by obtain ⟨m, hm⟩ := k0; exact DataW.trod_lt m _ _ _ hm
  obtain ⟨a1, len1, cap1, rfl⟩ := okWide_slice Try.underlying26 (hval 1 26 v1 rfl rfl)
  have k1 := h1
  have lt1 : ∀ x ∈ p1, x.block < W.heap.size := by obtain ⟨m, hm⟩ := k1; exact DataW.trod_lt m _ _ _ hm
  obtain ⟨z1, w1⟩ : ∃ xs, RE.Is W a1 len1 cap1 xs := by
    obtain ⟨fuel, hf⟩ := h1
    exact isEffects_of hf
  obtain ⟨a2, rfl, rfl, rfl, w2⟩ := open_int Try.underlying27 (hval 2 27 v2 rfl rfl) h2
  clear hA0 hval0
  refine (walk A0 n0 c0 B0 m0 e0 L0 Q0 a1 len1 cap1 z1 a2 W w0 u0 w1 w2).mono fun e W' ⟨he, bel⟩ => ?_
  subst he
  exact ⟨_, rfl, _, _, _, [], _, [], hW', trodAll_mk1 (shut_bool Try.underlying4 _), (trodAll_cons_mk (Below.trod laidOut (by kernel_rfl) (of_decide_eq_true (by kernel_rfl)) k0 bel lt0) (trodAll_cons_mk (Below.trod laidOut (by kernel_rfl) (of_decide_eq_true (by kernel_rfl)) k1 bel lt1) (trodAll_cons_mk (shut_int Try.underlying27 w2) trodAll_mk0))), rfl, bel.frame _, fun h => by cases h⟩

theorem over : Rows.idealDoesRow.holds Try.pinned (OpenSpec.ofChange Rows.idealDoesSpec) :=
  OpenClaim.holds_of_wide 3 Try.f3 rfl rfl rfl rfl rfl rfl rfl ⟨rfl, rfl, rfl, rfl, rfl⟩ rfl rfl rfl rfl rfl (by kernel_rfl) Try.func3 (by kernel_rfl)
    (of_decide_eq_true (by kernel_rfl)) (by unfold Func.isWrapper; first | (rw [if_pos (by decide +kernel)]; kernel_rfl) | (rw [if_neg (by decide +kernel)]; exact ⟨rfl, rfl⟩))
    (fun os started H enc _ => lifted os started H enc)

theorem proved : Rows.IdealDoesSaid := over
#print axioms proved
end Go.Proofs.Ytpmgnhijiodbaaa.idealDoes
