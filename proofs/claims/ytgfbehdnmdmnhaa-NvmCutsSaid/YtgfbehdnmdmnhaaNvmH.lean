/-
  Proved here: what package nvm's Copy leaves: a device of its own with the same lines and counts.
  Conditions: a device of at most 258 lines.
-/
import Derived.Test.YtgfbehdnmdmnhaaNvmG
import Derived.Lib.SliceRun
namespace Go.Proofs.Ytgfbehdnmdmnhaa
open Go Go.RowKit

theorem flat_one {st : List Cl} : ∀ u ∈ flat st, u.oneCell' = true := by
  intro u hu
  simp only [flat, List.mem_flatMap, Cl.cells, List.mem_append, List.mem_singleton] at hu
  obtain ⟨c, _, h | h | h | h⟩ := hu
  · exact enc_one u h
  · exact enc_one u h
  · exact enc_one u h
  · rw [h]; rfl
/-- What Clone leaves. -/
def Cloned (T : TypeId) (w : World) (st : List Cl) (e : Ending) (w' : World) : Prop :=
  ∃ g cap, e = .returned (.slice (some ⟨g, 0, none⟩) st.length cap) ∧ st.length ≤ cap ∧ w.heap.size ≤ g ∧ (∃ rest, w'.heap[g]? = some (.cells (flat st ++ rest).toArray T (0, 0))) ∧ Below w.heap.size w w'
theorem clone_made {w : World} {p q : Nat} {st : List Cl} {cs : List Int} (h : DvP w p q st cs) (c : Nat) :
    ∃ g cap w', (Builtin.append_ #[64, 64] 64 #[.slice (some ⟨w.heap.size, 0, none⟩) 0 0, .slice (some ⟨q, 0, none⟩) st.length c]).run Try.prog (w.alloc (.cells #[] 79)) = .ok (.slice (some ⟨g, 0, none⟩) st.length cap) w' ∧
      Cloned 79 w st (.returned (.slice (some ⟨g, 0, none⟩) st.length cap)) w' := by
  obtain ⟨i, hi, hz, hs, hy⟩ : ∃ i, Try.prog.info? 79 = some i ∧ i.zero = some (.agg Cl.zero.cells.toArray) ∧ i.size = 193 ∧ i.bytes = 193 := by
    obtain ⟨i, h1, h2⟩ := Option.map_eq_some_iff.1 cell_info
    simp only [Prod.mk.injEq] at h2
    exact ⟨i, h1, h2.1, h2.2.1, h2.2.2⟩
  have hb1 : Below w.heap.size w (w.alloc (.cells #[] 79)) := (Below.refl _ _).alloc (Nat.le_refl _) _
  have hd := h.below hb1
  obtain ⟨r, er⟩ := hd.row
  have hn := h.len
  obtain ⟨v', w', h1, h2, h3, h4, _⟩ := run_append_own_at (P := Try.prog) (w := w.alloc (.cells #[] 79)) w.heap.size 64 64 79 i _ 193 193 Try.underlying64 hi hz hs hy
    (by rw [show (Value.agg Cl.zero.cells.toArray).cells = Cl.zero.cells.toArray from rfl, List.size_toArray, Cl.cells_len Cl.zero_ok]) (by omega) (.slice (some ⟨w.heap.size, 0, none⟩) 0 0) 0 [] (World.ownsRow_made w #[] 0 (Nat.le_refl _) (by decide) rfl)
    ⟨q, 0, none⟩ st.length c (flat st) (flat_len h.oks) (fun j u hu => by
      rw [add_plain, Nat.zero_add]
      have hj := (List.getElem?_eq_some_iff.1 hu).1
      simp [World.cell?, er, List.getElem?_append_left hj, hu]) flat_one (by unfold maxLen; omega) (by omega) (by simp)
  rw [Nat.zero_add, List.nil_append] at h2
  rcases h2.2 with ⟨e, _⟩ | ⟨g, cap, cur, e, hg, hh, hc, _, hcs, htk⟩
  · have := (h4.1 e).1
    cases this
  · subst e
    refine ⟨g, cap, w', h1, g, cap, rfl, hc, hg, ⟨cur.toList.drop (st.length * 193), ?_⟩, ?_⟩
    · rw [hh, ← htk, List.take_append_drop]
    · exact hb1.grown h3 (by simp) (fun k hk => by simp [Value.ownBlock] at hk; omega)
set_option maxHeartbeats 400000 in
set_option maxRecDepth 100000 in
theorem clone_ok {w : World} {p q : Nat} {st : List Cl} {cs : List Int} (h : DvP w p q st cs) (c : Nat) : Calls Try.prog 34 #[.slice (some ⟨q, 0, none⟩) st.length c] w (Cloned 79 w st) := by
  obtain ⟨g, cap, w', hrun, hcl⟩ := clone_made h c
  have HRUN := Lib.hid hrun
  have HC := Lib.hid hcl
  obtain ⟨n, hn'⟩ : ∃ n, st.length = n := ⟨_, rfl⟩
  rw [hn'] at HRUN HC ⊢
  generalize Cloned 79 w st = R at *
  have heq : ∀ w1 : World, (binOp .eql 64 (.slice (some ⟨q, 0, none⟩) n c) (.slice none 0 0)).run Try.prog w1 = .ok (.bool false) w1 := fun w1 => Lib.run_eql_slice_nil w1 _ _ _ _ _ _ _ Try.underlying64
  clear h hn' hrun hcl
  go_enter Try.func34, Try.ntmps34
  go_wp2_with (at_builtin; refine wpList_app rfl (.tmp 5) (.tmp 6) 64 rfl rfl rfl HRUN.out ?_)
  exact HC.out
/-- What Copy leaves. -/
def Copied (w : World) (st : List Cl) (cs : List Int) (e : Ending) (w' : World) : Prop :=
  ∃ p q, e = .returned (.pointer (some ⟨p, 0, none⟩)) ∧ w.heap.size ≤ p ∧ w.heap.size ≤ q ∧ DvP w' p q st cs ∧ Below w.heap.size w w'
theorem zeros_set (cs : List Int) (k : Nat) (hk : k < 5) (h5 : cs.length = 5) : (cs.take k ++ List.replicate (5 - k) 0).set k (cs.getD k 0) = cs.take (k + 1) ++ List.replicate (5 - (k + 1)) 0 := by
  obtain ⟨a, b, c, d, e, rfl⟩ := five_of h5
  match k, hk with
  | 0, _ => rfl
  | 1, _ => rfl
  | 2, _ => rfl
  | 3, _ => rfl
  | 4, _ => rfl
def upTo (cs : List Int) (k : Nat) : List Int := cs.take k ++ List.replicate (5 - k) 0
theorem upTo_all {cs : List Int} (h5 : cs.length = 5) : upTo cs 5 = cs := by simp [upTo, List.take_of_length_le, h5]
/-- One count taken over. -/
theorem count_over {w : World} {B p q p' q' : Nat} {st : List Cl} {cs : List Int} (h : DvP w p q st cs) (k : Nat) (hk : k < 5) (hp : p < B) (hq : q < B) (hp' : B ≤ p') (h' : DvP w p' q' st (upTo cs k)) (j : Nat) (hj : k + 1 = j) (x : Int) (hx : cs.getD k 0 = x) :
    Calls Try.prog 35 #[.pointer (some ⟨p', j, none⟩), .int .i64 x] w fun e w' => e = .returned (.tuple #[]) ∧ DvP w' p q st cs ∧ DvP w' p' q' st (upTo cs (k + 1)) ∧ Below B w w' := by
  subst hx
  subst hj
  have hc := h'.count k hk
  refine (astore_ok p' (k + 1) (cs.getD k 0) _ w hc.1 hc.2).mono ?_
  rintro e w' ⟨rfl, rfl⟩
  have hb : Below B w (w.setCell ⟨p', k + 1, none⟩ (.int .i64 (cs.getD k 0))) := (Below.refl _ _).setCell hp' _
  refine ⟨rfl, h.same (hb.block p hp) (hb.block q hq), ?_, hb⟩
  have := h'.setCount k (cs.getD k 0)
  unfold upTo at this ⊢
  rw [zeros_set cs k hk h.five] at this
  exact this
set_option maxHeartbeats 1600000 in
set_option maxRecDepth 100000 in
theorem copy_ok {w : World} {p q : Nat} {st : List Cl} {cs : List Int} (h : DvP w p q st cs) : Calls Try.prog 15 #[.pointer (some ⟨p, 0, none⟩)] w (Copied w st cs) := by
  obtain ⟨cap, hsl, hcap⟩ := h.slice
  have HC := Lib.hid (clone_ok h cap)
  have HD := Lib.hid h
  have HP := Lib.hid h.lt_p
  have HQ := Lib.hid h.lt_q
  obtain ⟨n, hn'⟩ : ∃ n, st.length = n := ⟨_, rfl⟩
  have HN := Lib.hid hn'
  rw [hn'] at hsl HC
  clear h hn' hcap
  go_enter Try.func15, Try.ntmps15
  go_wp2_with fail
  refine HC.out.mono ?_
  rintro e w1 ⟨g, cap1, rfl, hc1, hg, hrow, hb⟩
  have HB := Lib.hid hb
  have HG := Lib.hid hg
  have HROW := Lib.hid hrow
  have HC1 := Lib.hid hc1
  rw [HN.out]
  clear hb hg hrow hc1 hsl HC
  go_wp2_with fail
  obtain ⟨W, hW⟩ : ∃ W, w1.alloc (.cells #[.slice (some ⟨g, 0, none⟩) n cap1, .int .i64 0, .int .i64 0, .int .i64 0, .int .i64 0, .int .i64 0] 71) = W := ⟨_, rfl⟩
  obtain ⟨p', hp'⟩ : ∃ p', w1.heap.size = p' := ⟨_, rfl⟩
  rw [hW, hp']
  have hbW : Below w1.heap.size w1 W := hW ▸ (Below.refl _ _).alloc (Nat.le_refl _) _
  have HBW : Hid (Below w.heap.size w W) := HB.out.trans (hbW.mono HB.out.size)
  have HD1 : Hid (DvP W p q st cs) := (HD.out.below HB.out).below hbW
  have HP' : Hid (w.heap.size ≤ p') := by have := HB.out.size; show _ ≤ _; omega
  have HE0 : Hid (DvP W p' g st (upTo cs 0)) := by
    obtain ⟨r, hr⟩ := HROW.out
    have hlt := lt_of_heap hr
    refine ⟨HD.out.oks, HD.out.len, rfl, by omega, ⟨cap1, ?_, HC1.out⟩, ⟨r, (hbW.block g hlt).trans hr⟩⟩
    rw [← hW, ← hp', HN.out]
    show (w1.heap.push _)[w1.heap.size]? = _
    simp [upTo]
  clear hbW hW hp'
  obtain ⟨x0, hx0⟩ : ∃ x, cs.getD 0 0 = x := ⟨_, rfl⟩
  have HX0 := Lib.hid hx0
  have HA0 : Hid (W.drew.cell? ⟨p, 0 + 1, none⟩ = some (.int .i64 x0)) := by have := (HD1.out.drew.count 0 (by decide)).1; rw [hx0] at this; exact this
  clear hx0
  refine wp_region_still_tail 7 (by kernel_rfl) (by kernel_rfl) ?_
  change wpStill _ _ W.drew _ _ _
  simp only [List.take_succ_cons, List.take_zero, List.drop_succ_cons, List.drop_zero]
  iterate 6 still_step
  still_call (aload' p (0 + 1) x0 W.drew HA0.out)
  refine wpStill_nil ?_
  go_wp2_with fail
  refine (count_over (B := w.heap.size) HD1.out.drew 0 (by decide) HP.out HQ.out HP'.out HE0.out.drew (0 + 1) rfl x0 HX0.out).mono ?_
  rintro e W1 ⟨rfl, hd, he, hb⟩
  have HD2 := Lib.hid hd
  have HE1 := Lib.hid he
  have HBW1 : Hid (Below w.heap.size w W1) := HBW.out.drew.trans hb
  clear hd he hb
  go_wp2_with fail
  obtain ⟨x1, hx1⟩ : ∃ x, cs.getD 1 0 = x := ⟨_, rfl⟩
  have HX1 := Lib.hid hx1
  have HA1 : Hid (W1.drew.cell? ⟨p, 1 + 1, none⟩ = some (.int .i64 x1)) := by have := (HD2.out.drew.count 1 (by decide)).1; rw [hx1] at this; exact this
  clear hx1
  refine wp_region_still_tail 7 (by kernel_rfl) (by kernel_rfl) ?_
  change wpStill _ _ W1.drew _ _ _
  simp only [List.take_succ_cons, List.take_zero, List.drop_succ_cons, List.drop_zero]
  iterate 6 still_step
  still_call (aload' p (1 + 1) x1 W1.drew HA1.out)
  refine wpStill_nil ?_
  go_wp2_with fail
  refine (count_over (B := w.heap.size) HD2.out.drew 1 (by decide) HP.out HQ.out HP'.out HE1.out.drew (1 + 1) rfl x1 HX1.out).mono ?_
  rintro e W2 ⟨rfl, hd, he, hb⟩
  have HD3 := Lib.hid hd
  have HE2 := Lib.hid he
  have HBW2 : Hid (Below w.heap.size w W2) := HBW1.out.drew.trans hb
  clear hd he hb
  go_wp2_with fail
  obtain ⟨x2, hx2⟩ : ∃ x, cs.getD 2 0 = x := ⟨_, rfl⟩
  have HX2 := Lib.hid hx2
  have HA2 : Hid (W2.drew.cell? ⟨p, 2 + 1, none⟩ = some (.int .i64 x2)) := by have := (HD3.out.drew.count 2 (by decide)).1; rw [hx2] at this; exact this
  clear hx2
  refine wp_region_still_tail 7 (by kernel_rfl) (by kernel_rfl) ?_
  change wpStill _ _ W2.drew _ _ _
  simp only [List.take_succ_cons, List.take_zero, List.drop_succ_cons, List.drop_zero]
  iterate 6 still_step
  still_call (aload' p (2 + 1) x2 W2.drew HA2.out)
  refine wpStill_nil ?_
  go_wp2_with fail
  refine (count_over (B := w.heap.size) HD3.out.drew 2 (by decide) HP.out HQ.out HP'.out HE2.out.drew (2 + 1) rfl x2 HX2.out).mono ?_
  rintro e W3 ⟨rfl, hd, he, hb⟩
  have HD4 := Lib.hid hd
  have HE3 := Lib.hid he
  have HBW3 : Hid (Below w.heap.size w W3) := HBW2.out.drew.trans hb
  clear hd he hb
  go_wp2_with fail
  obtain ⟨x3, hx3⟩ : ∃ x, cs.getD 3 0 = x := ⟨_, rfl⟩
  have HX3 := Lib.hid hx3
  have HA3 : Hid (W3.drew.cell? ⟨p, 3 + 1, none⟩ = some (.int .i64 x3)) := by have := (HD4.out.drew.count 3 (by decide)).1; rw [hx3] at this; exact this
  clear hx3
  refine wp_region_still_tail 7 (by kernel_rfl) (by kernel_rfl) ?_
  change wpStill _ _ W3.drew _ _ _
  simp only [List.take_succ_cons, List.take_zero, List.drop_succ_cons, List.drop_zero]
  iterate 6 still_step
  still_call (aload' p (3 + 1) x3 W3.drew HA3.out)
  refine wpStill_nil ?_
  go_wp2_with fail
  refine (count_over (B := w.heap.size) HD4.out.drew 3 (by decide) HP.out HQ.out HP'.out HE3.out.drew (3 + 1) rfl x3 HX3.out).mono ?_
  rintro e W4 ⟨rfl, hd, he, hb⟩
  have HD5 := Lib.hid hd
  have HE4 := Lib.hid he
  have HBW4 : Hid (Below w.heap.size w W4) := HBW3.out.drew.trans hb
  clear hd he hb
  go_wp2_with fail
  obtain ⟨x4, hx4⟩ : ∃ x, cs.getD 4 0 = x := ⟨_, rfl⟩
  have HX4 := Lib.hid hx4
  have HA4 : Hid (W4.drew.cell? ⟨p, 4 + 1, none⟩ = some (.int .i64 x4)) := by have := (HD5.out.drew.count 4 (by decide)).1; rw [hx4] at this; exact this
  clear hx4
  refine wp_region_still_tail 7 (by kernel_rfl) (by kernel_rfl) ?_
  change wpStill _ _ W4.drew _ _ _
  simp only [List.take_succ_cons, List.take_zero, List.drop_succ_cons, List.drop_zero]
  iterate 6 still_step
  still_call (aload' p (4 + 1) x4 W4.drew HA4.out)
  refine wpStill_nil ?_
  go_wp2_with fail
  refine (count_over (B := w.heap.size) HD5.out.drew 4 (by decide) HP.out HQ.out HP'.out HE4.out.drew (4 + 1) rfl x4 HX4.out).mono ?_
  rintro e W5 ⟨rfl, hd, he, hb⟩
  have HD6 := Lib.hid hd
  have HE5 := Lib.hid he
  have HBW5 : Hid (Below w.heap.size w W5) := HBW4.out.drew.trans hb
  clear hd he hb
  go_wp2_with fail
  go_ret
  refine ⟨p', g, rfl, HP'.out, HG.out, ?_, HBW5.out⟩
  have := HE5.out
  rw [upTo_all HD.out.five] at this
  exact this

end Go.Proofs.Ytgfbehdnmdmnhaa
