/-
  Proved here: the statement BlockHeads, in full: what looks like a head, and a draft's head, are chapter 6's; a draft that was handed out is its owner's.
  Conditions: none.
-/
import Derived.Test.YtokobelmoanneaaRows
import Derived.Test.YtokobelmoanneaaBlockR
import Derived.Test.YtokobelmoanneaaOver
import Derived.IntWalk
import Derived.WalkSmall
import Derived.Deep.QuietTactic
import Derived.BigQuiet
import Derived.WalkKit
import Derived.ProofKit
import Derived.OpenShut
import Derived.ShutString
import Derived.ChangeOld
import Derived.Below
namespace Go.Proofs.Ytokobelmoanneaa.blockHeads
open Go.ChangeShapes Go.WideShapes Go.ChangeAt Go.RowKit
open Go.ChangeMaps (open_string shut_string)
set_option linter.unusedVariables false

theorem own : ownKnob Try.prog.godebug = none := by kernel_rfl
theorem laidOut : laidOutB Try.prog = true := by kernel_rfl

theorem row_any {w : World} {a : Option Addr} {len cap : Nat} {zs : List Int} (h : IsRow .u8 w a len cap zs) (hl : len ≤ 1073741824) : ∃ l : List UInt8, l.length = len ∧ Row w a l := by
  obtain ⟨l, h1, h2, _⟩ := h.row hl
  exact ⟨l, h1, h2⟩
set_option maxHeartbeats 400000 in
theorem walk_long (c : Int) (A : Option Addr) (n cap : Nat) (w : World) (h : 1024 < n) :
    Calls Try.prog 9 #[.int .i64 c, .slice A n cap] w fun e w' => e = .returned (.bool true) ∧ Below w.heap.size w w' := by
  have HAW := Lib.hid awake_any
  have h1 : (1024 : Int) < (n : Int) := by omega
  go_enter Try.func9, Try.ntmps9
  go_wp2_with fail
  refine (HAW.out _).mono ?_
  rintro e w1 ⟨rfl, hb⟩
  have HB := Lib.hid hb
  clear hb
  go_wp2
  go_ret
  exact ⟨rfl, HB.out⟩
theorem headR_two (l : List UInt8) : ∃ (a k : Nat) (is : Bool), headR l = .tuple #[.int .i64 a, .int .i64 k, .bool is] := by
  unfold headR
  split
  · exact ⟨_, _, _, rfl⟩
  · exact ⟨0, 0, false, rfl⟩
set_option maxHeartbeats 4000000 in
set_option maxRecDepth 100000 in
theorem walk_no (c : Int) (A : Option Addr) (n cap : Nat) (l : List UInt8) (w : World) (hl : l.length = n) (hr : Row w A l) (hn : n ≤ 1024) (hc : clsB c = false) :
    Calls Try.prog 9 #[.int .i64 c, .slice A n cap] w fun e w' => e = .returned (.bool true) ∧ Below w.heap.size w w' := by
  have HAW := Lib.hid awake_any
  have hn4 : ¬ (1024 : Int) < (n : Int) := by omega
  obtain ⟨p, hp⟩ : ∃ p, w.heap.size = p := ⟨_, rfl⟩
  have HP := Lib.hid hp
  have HH : Hid (∀ W, Below p w W → Calls Try.prog 24 #[.slice A n cap] W fun e w' => e = .returned (headR l) ∧ Below W.heap.size W w') := fun W hW => head_any W A n cap l hl (hr.below (hp.symm ▸ hW))
  have HG : Hid (∀ W, Below p w W → Calls Try.prog 27 #[.slice A n cap] W fun e w' => e = .returned (headR l) ∧ Below W.heap.size W w') := fun W hW => rhead_any W A n cap l hl (hr.below (hp.symm ▸ hW))
  obtain ⟨ra, rk, ri, hR⟩ := headR_two l
  rw [hR] at HH HG
  have hra : ((ra : Int) == (ra : Int)) = true := by simp
  have hrk : ((rk : Int) == (rk : Int)) = true := by simp
  have hri : (ri == ri) = true := by simp
  have HD := Lib.hid (fun W => draft_no c hc W)
  have HE := Lib.hid (fun W => rdraft_no c hc W)
  have HSM : Hid (∀ W, Calls Try.prog 17 #[.slice none 0 0, .slice none 0 0] W fun e w' => e = .returned (.bool true) ∧ W = w') := fun W => same_any W none none 0 0 0 0 [] [] rfl rfl (row_nil _ _) (row_nil _ _)
  clear hl hr hn hc hR hp
  go_enter Try.func9, Try.ntmps9
  go_wp2_with fail
  refine (HD.out _).mono ?_
  rintro e w1 ⟨rfl, hb⟩
  have HB1 : Hid (Below p w w1) := HP.out ▸ hb
  clear hb
  go_wp2_with fail
  refine (HE.out _).mono ?_
  rintro e w2 ⟨rfl, hb⟩
  have HB2 : Hid (Below p w w2) := HB1.out.trans (hb.mono (HP.out ▸ HB1.out.size))
  clear hb
  go_wp2_with fail
  refine (HSM.out _).mono ?_
  rintro e w' ⟨rfl, rfl⟩
  go_wp2_with fail
  refine (HH.out _ HB2.out).mono ?_
  rintro e w3 ⟨rfl, hb⟩
  have HB3 : Hid (Below p w w3) := HB2.out.trans (hb.mono (HP.out ▸ HB2.out.size))
  clear hb
  go_wp2_with fail
  refine (HG.out _ HB3.out).mono ?_
  rintro e w4 ⟨rfl, hb⟩
  have HB4 : Hid (Below p w w4) := HB3.out.trans (hb.mono (HP.out ▸ HB3.out.size))
  clear hb
  go_wp2_with fail
  refine (over_nil w4 p (HP.out ▸ HB4.out.size)).mono ?_
  rintro e w5 ⟨rfl, hb⟩
  have HB5 : Hid (Below p w w5) := HB4.out.trans hb
  clear hb
  go_wp2_with fail
  refine (HD.out _).mono ?_
  rintro e w6 ⟨rfl, hb⟩
  have HB6 : Hid (Below p w w6) := HB5.out.trans (hb.mono (HP.out ▸ HB5.out.size))
  clear hb
  go_wp2_with fail
  refine (HE.out _).mono ?_
  rintro e w7 ⟨rfl, hb⟩
  have HB7 : Hid (Below p w w7) := HB6.out.trans (hb.mono (HP.out ▸ HB6.out.size))
  clear hb
  go_wp2_with fail
  refine (HSM.out _).mono ?_
  rintro e w' ⟨rfl, rfl⟩
  go_wp2_with fail
  refine (HAW.out _).mono ?_
  rintro e w8 ⟨rfl, hb⟩
  have HB8 : Hid (Below p w w8) := HB7.out.trans (hb.mono (HP.out ▸ HB7.out.size))
  clear hb
  go_wp2
  go_ret
  exact ⟨rfl, by rw [HP.out]; exact HB8.out⟩
set_option maxHeartbeats 4000000 in
set_option maxRecDepth 100000 in
theorem walk_yes (c : Int) (A : Option Addr) (n cap : Nat) (l : List UInt8) (w : World) (hl : l.length = n) (hr : Row w A l) (hn : n ≤ 1024) (hc : clsB c = true) :
    Calls Try.prog 9 #[.int .i64 c, .slice A n cap] w fun e w' => e = .returned (.bool true) ∧ Below w.heap.size w w' := by
  have HAW := Lib.hid awake_any
  have hn4 : ¬ (1024 : Int) < (n : Int) := by omega
  obtain ⟨p, hp⟩ : ∃ p, w.heap.size = p := ⟨_, rfl⟩
  have HP := Lib.hid hp
  have HH : Hid (∀ W, Below p w W → Calls Try.prog 24 #[.slice A n cap] W fun e w' => e = .returned (headR l) ∧ Below W.heap.size W w') := fun W hW => head_any W A n cap l hl (hr.below (hp.symm ▸ hW))
  have HG : Hid (∀ W, Below p w W → Calls Try.prog 27 #[.slice A n cap] W fun e w' => e = .returned (headR l) ∧ Below W.heap.size W w') := fun W hW => rhead_any W A n cap l hl (hr.below (hp.symm ▸ hW))
  obtain ⟨ra, rk, ri, hR⟩ := headR_two l
  rw [hR] at HH HG
  have hra : ((ra : Int) == (ra : Int)) = true := by simp
  have hrk : ((rk : Int) == (rk : Int)) = true := by simp
  have hri : (ri == ri) = true := by simp
  have hm : mayB (draftBV c) = true := by rw [draft_may, hc]
  have hlen : ((linesL (draftBV c)).take 64).length = 64 := by
    have h1 := linesL_len hm
    have h2 := spanN_rest (mayB_cl hm)
    rw [List.length_take]
    omega
  have HD := Lib.hid (fun W => draft_yes c hc W)
  have HE := Lib.hid (fun W => rdraft_yes c hc W)
  unfold RowTo at HD
  unfold LineTo at HE
  rw [hlen] at HD
  have HSM : Hid (∀ W g g' cp cp', Row W (some ⟨g, 0, none⟩) ((linesL (draftBV c)).take 64) → Row W (some ⟨g', 0, none⟩) ((linesL (draftBV c)).take 64) → Calls Try.prog 17 #[.slice (some ⟨g, 0, none⟩) 64 cp, .slice (some ⟨g', 0, none⟩) 64 cp'] W fun e w' => e = .returned (.bool true) ∧ W = w') := fun W g g' cp cp' h1 h2 => by
    have := same_any W (some ⟨g, 0, none⟩) (some ⟨g', 0, none⟩) 64 64 cp cp' _ _ hlen hlen h1 h2
    rw [show ((linesL (draftBV c)).take 64 == (linesL (draftBV c)).take 64) = true by simp] at this
    exact this
  have HLL := Lib.hid hlen
  generalize (linesL (draftBV c)).take 64 = L at *
  clear hl hr hn hc hR hp hm hlen
  go_enter Try.func9, Try.ntmps9
  go_wp2_with fail
  refine (HD.out _).mono ?_
  rintro e w1 ⟨V, rfl, hown, hb⟩
  obtain ⟨g, cp, rfl, hcp, hgp, hgl, hrow⟩ := own_form hown (by omega) (by omega)
  have HO1 : Hid (w1.ownsRow p 5 1 (.slice (some ⟨g, 0, none⟩) 64 cp) 64 (enc L)) := HP.out ▸ hown
  have HR1 := Lib.hid hrow
  have HGP : Hid (p ≤ g) := HP.out ▸ hgp
  have HB1 : Hid (Below p w w1) := HP.out ▸ hb
  clear hb hown hrow hgp hgl
  go_wp2_with fail
  refine (HE.out _).mono ?_
  rintro e w2 ⟨g2, cp2, rfl, hg2, hrow, hb⟩
  have HR2 := Lib.hid hrow
  have HR12 := Lib.hid (HR1.out.below hb)
  have HO2 := Lib.hid (own_keep HO1.out hb)
  have HB2 : Hid (Below p w w2) := HB1.out.trans (hb.mono (HP.out ▸ HB1.out.size))
  clear hb hrow hg2
  go_wp2_with fail
  refine (HSM.out _ _ _ _ _ HR12.out HR2.out).mono ?_
  rintro e w' ⟨rfl, rfl⟩
  go_wp2_with fail
  refine (HH.out _ HB2.out).mono ?_
  rintro e w3 ⟨rfl, hb⟩
  have HO3 := Lib.hid (own_keep HO2.out hb)
  have HB3 : Hid (Below p w w3) := HB2.out.trans (hb.mono (HP.out ▸ HB2.out.size))
  clear hb
  go_wp2_with fail
  refine (HG.out _ HB3.out).mono ?_
  rintro e w4 ⟨rfl, hb⟩
  have HO4 := Lib.hid (own_keep HO3.out hb)
  have HB4 : Hid (Below p w w4) := HB3.out.trans (hb.mono (HP.out ▸ HB3.out.size))
  clear hb
  go_wp2_with fail
  refine (over_row w4 p g 64 cp L HLL.out (by omega) HO4.out (HP.out ▸ HB4.out.size) HGP.out).mono ?_
  rintro e w5 ⟨rfl, hb⟩
  have HB5 : Hid (Below p w w5) := HB4.out.trans hb
  clear hb
  go_wp2_with fail
  refine (HD.out _).mono ?_
  rintro e w6 ⟨V, rfl, hown, hb⟩
  obtain ⟨g6, cp6, rfl, hcp6, hgp6, hgl6, hrow⟩ := own_form hown (by omega) (by omega)
  have HR6 := Lib.hid hrow
  have HB6 : Hid (Below p w w6) := HB5.out.trans (hb.mono (HP.out ▸ HB5.out.size))
  clear hb hown hrow hgp6 hgl6
  go_wp2_with fail
  refine (HE.out _).mono ?_
  rintro e w7 ⟨g7, cp7, rfl, hg7, hrow, hb⟩
  have HR7 := Lib.hid hrow
  have HR67 := Lib.hid (HR6.out.below hb)
  have HB7 : Hid (Below p w w7) := HB6.out.trans (hb.mono (HP.out ▸ HB6.out.size))
  clear hb hrow hg7
  go_wp2_with fail
  refine (HSM.out _ _ _ _ _ HR67.out HR7.out).mono ?_
  rintro e w' ⟨rfl, rfl⟩
  go_wp2_with fail
  refine (HAW.out _).mono ?_
  rintro e w8 ⟨rfl, hb⟩
  have HB8 : Hid (Below p w w8) := HB7.out.trans (hb.mono (HP.out ▸ HB7.out.size))
  clear hb
  go_wp2
  go_ret
  exact ⟨rfl, by rw [HP.out]; exact HB8.out⟩
theorem walk (c : Int) (A : Option Addr) (n cap : Nat) (zs : List Int) (w : World) (_ : (Lit.int .i64 c).wf = true) (hr : IsRow .u8 w A n cap zs) :
    Calls Try.prog 9 #[.int .i64 c, .slice A n cap] w fun e w' => e = .returned (.bool true) ∧ Below w.heap.size w w' := by
  rcases Nat.lt_or_ge 1024 n with h | h
  · exact walk_long c A n cap w h
  · obtain ⟨l, hl, hrow⟩ := row_any hr (by omega)
    cases hc : clsB c with
    | false => exact walk_no c A n cap l w hl hrow h hc
    | true => exact walk_yes c A n cap l w hl hrow h hc

set_option maxRecDepth 100000 in
theorem lifted (os : Os) (started : os.Started) (H : Type) (enc : TypeId × Value → H) :
    ReturnsInHanded {} Try.checked os 9 .any (Rows.blockHeadsSpec.pre6 enc Try.prog Try.f9 Rows.blockHeadsRow.domain false) (Rows.blockHeadsSpec.post enc Try.prog Try.f9 false true false false) := by
  refine returnsInHanded_of_change (C := Try.checked) own started (by kernel_rfl) Try.func9
    (ChangeSpec.witness6 (enc := enc) (C := Try.checked) false ⟨#[], #[.int .i64 0, .slice none 0 0], []⟩ 8 (by kernel_rfl) (by kernel_rfl) (by kernel_rfl) (by kernel_rfl)) ?_
  intro W base args ds gs before hval0 hW hcnd _
  have hval : ∀ (j : Nat) t v, Try.f9.params[j]? = some t → args[j]? = some v → Value.okWide Try.prog W .any base t v := hval0
  have hW' := hW
  obtain ⟨p, q, hA0, hV, rfl, hfz, hnd⟩ := hW
  have hA : DataW.TrodAll enc Try.prog W 0 (fun _ => true) true Try.f9.params.toList args.toList ds p := hA0
  rw [Try.params9] at hA hval
  obtain ⟨v0, vs0, d0, ds0, p0, q0, hargs, rfl, rfl, h0, r0⟩ := trodAll_cons hA
  obtain ⟨v1, vs1, d1, ds1, p1, q1, rfl, rfl, rfl, h1, r1⟩ := trodAll_cons r0
  obtain ⟨rfl, rfl, rfl⟩ := trodAll_nil r1
  obtain rfl : args = #[v0, v1] := by cases args; simp_all
  obtain ⟨rfl, rfl⟩ := trodVars_none hV
  obtain ⟨a0, rfl, rfl, rfl, w0⟩ := open_int Try.underlying3 (hval 0 3 v0 rfl rfl) h0
  obtain ⟨a1, len1, cap1, rfl⟩ := okWide_slice Try.underlying27 (hval 1 27 v1 rfl rfl)
  have k1 := h1
  have lt1 : ∀ x ∈ p1, x.block < W.heap.size := by obtain ⟨m, hm⟩ := k1; exact DataW.trod_lt m _ _ _ hm
  obtain ⟨z1, w1⟩ : ∃ zs, IsRow .u8 W a1 len1 cap1 zs := by
    obtain ⟨fuel, hf⟩ := h1
    rcases open_ints Try.underlying27 Try.underlying5 (by kernel_rfl) hf with ⟨hcs, _⟩ | ⟨x, l, c, zs, hcs, _, hl, hm, hz, _, hcell, hwz⟩
    · simp [Value.cells] at hcs
      obtain ⟨rfl, rfl, rfl⟩ := hcs
      exact ⟨[], .inl ⟨rfl, rfl, rfl, rfl⟩⟩
    · simp [Value.cells] at hcs
      obtain ⟨rfl, rfl, rfl⟩ := hcs
      exact ⟨zs, .inr ⟨_, rfl, hl, hm, by simpa using hz, hcell, hwz⟩⟩
  clear hA0 hval0
  refine (walk a0 a1 len1 cap1 z1 W w0 w1).mono fun e W' ⟨he, bel⟩ => ?_
  subst he
  exact ⟨_, rfl, _, _, _, [], _, [], hW', trodAll_mk1 (shut_bool Try.underlying4 _), (trodAll_cons_mk (shut_int Try.underlying3 w0) (trodAll_cons_mk (Below.trod laidOut (by kernel_rfl) (of_decide_eq_true (by kernel_rfl)) k1 bel lt1) trodAll_mk0)), rfl, bel.frame _, fun h => by cases h⟩

theorem over : Rows.blockHeadsRow.holds Try.pinned (OpenSpec.ofChange Rows.blockHeadsSpec) :=
  OpenClaim.holds_of_wide 9 Try.f9 rfl rfl rfl rfl rfl rfl rfl ⟨rfl, rfl, rfl, rfl, rfl⟩ rfl rfl rfl rfl rfl (by kernel_rfl) Try.func9 (by kernel_rfl)
    (of_decide_eq_true (by kernel_rfl)) (by unfold Func.isWrapper; first | (rw [if_pos (by decide +kernel)]; kernel_rfl) | (rw [if_neg (by decide +kernel)]; exact ⟨rfl, rfl⟩))
    (fun os started H enc _ => lifted os started H enc)

theorem proved : Rows.BlockHeadsSaid := over
#print axioms proved
end Go.Proofs.Ytokobelmoanneaa.blockHeads
