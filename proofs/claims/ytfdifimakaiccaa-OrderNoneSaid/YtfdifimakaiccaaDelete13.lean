/-
  Proved here: what slices.Delete leaves of a row of links.
  Conditions: at most 2^20 links.
-/
import Derived.Test.YtfdifimakaiccaaCells13
namespace Go.Proofs.Ytfdifimakaiccaa
open Go Go.RowKit
set_option maxRecDepth 100000

set_option maxHeartbeats 1600000 in
set_option maxRecDepth 100000 in
theorem delete_some {w : World} {g n cap : Nat} {l : List Ln} (hn : l.length = n) (hown : w.ownsRow 0 33 5 (.slice (some ⟨g, 0, none⟩) n cap) n (encL l)) (hl : n ≤ 1048576) (i : Nat) (hi : i < n) :
    Calls Try.prog 27 #[.slice (some ⟨g, 0, none⟩) n cap, .int .i64 (i : Int), .int .i64 ((i : Int) + 1)] w fun e w' => e = .returned (.slice (some ⟨g, 0, none⟩) (n - 1) cap) ∧ w'.ownsRow 0 33 5 (.slice (some ⟨g, 0, none⟩) (n - 1) cap) (n - 1) (encL (l.take i ++ l.drop (i + 1))) ∧ w.grownBy w' (some g) := by
  obtain ⟨inf, hinf, _, hs5, _⟩ := link_info'
  obtain ⟨cur, hb1, hb2, hb3, hb4, hb5⟩ := own_block hown
  have hcell : ∀ j u, (encL l)[j]? = some u → w.cell? ⟨g, j, none⟩ = some u := fun j u hu => by
    have := hown.cells (g := g) rfl j u hu
    rwa [add_plain, Nat.zero_add] at this
  have happ : ∀ a2 c : Nat, (i + 1 < n → a2 = (i + 1) * 5) → ∃ w1, (Builtin.append_ #[28, 28] 28 #[.slice (some ⟨g, 0, none⟩) i cap, .slice (some ⟨g, a2, none⟩) (n - (i + 1)) c]).run Try.prog w.drew = .ok (.slice (some ⟨g, 0, none⟩) (n - 1) cap) w1 ∧
      w1.ownsRow 0 33 5 (.slice (some ⟨g, 0, none⟩) (n - 1) cap) (n - 1) (encL (l.take i ++ l.drop (i + 1))) ∧ w.grownBy w1 (some g) := fun a2 c ha => by
    have h1 := own_take hown (Nat.le_of_lt hi)
    obtain ⟨w1, e1, e2, e3⟩ := run_append_fits (P := Try.prog) w.drew 0 28 28 33 inf 5 Try.underlying28 hinf hs5 g i cap _ (own_keep (w := w) h1 ((Below.refl _ _).drew)) ⟨g, a2, none⟩ (n - (i + 1)) c (encL (l.drop (i + 1)))
      (by rw [encL_len, List.length_drop, hn]) (fun j u hu => by
        rw [add_plain]
        have hj : j < (l.drop (i + 1)).length * 5 := by rw [← encL_len]; exact (List.getElem?_eq_some_iff.1 hu).1
        rw [List.length_drop, hn] at hj
        obtain rfl := ha (by omega)
        rw [← encL_drop, List.getElem?_drop] at hu
        exact hcell _ u hu) encL_one (by omega)
    rw [show i + (n - (i + 1)) = n - 1 by omega, encL_append] at *
    exact ⟨w1, e1, e2, ⟨e3.os, e3.tape, e3.output, e3.size, e3.block⟩⟩
  have hcl : (i : Int) + 1 ≤ (n : Int) := by omega
  have hne : ((i : Int) == (i : Int) + 1) = false := by simp; omega
  have hw1 : IntKind.i64.wrap ((i : Int) + 1) = (i : Int) + 1 := by rw [IntKind.wrap_i64]; omega
  have htn : ((i : Int) + 1).toNat = i + 1 := by omega
  have hb0 : (0 : Int) ≤ (i : Int) + 1 := by omega
  have hb1' : (i : Int) ≤ (i : Int) + 1 := by omega
  have hnc : (n : Int) ≤ (cap : Int) := by omega
  have hni : ¬ n = i := by omega
  have hmx : cap ≤ 9223372036854775807 := hb3
  have hic : (i : Int) ≤ (cap : Int) := by omega
  obtain ⟨m, hm⟩ : ∃ m, m + 1 = n := ⟨n - 1, by omega⟩
  have hm1 : n - 1 = m := by omega
  have hnm : n - m = 1 := by omega
  have hcm : ¬ cap = m := by omega
  have hmn : (m : Int) ≤ (n : Int) := by omega
  by_cases hcap : cap = i + 1
  · subst hcap
    obtain ⟨w1, e1, e2, e3⟩ := happ 0 0 (by omega)
    obtain ⟨cur1, q1, q2, q3, q4, q5⟩ := own_block e2
    rw [hm1] at e1 e2 ⊢
    have hclr := run_clearL w1 0 g (m * 5) ((i + 1) - m) cur1 q1 (by omega)
    have E1 := Lib.hid e1
    have EC := Lib.hid hclr
    have HFIN : Hid ((w1.setCells g (m * 5) Ln.zero.cells).ownsRow 0 33 5 (.slice (some ⟨g, 0, none⟩) m (i + 1)) m (encL (l.take i ++ l.drop (i + 1))) ∧ w.grownBy (w1.setCells g (m * 5) Ln.zero.cells) (some g)) := ⟨own_behind e2 _ (Nat.le_refl _) (by show m * 5 + 5 ≤ _; omega), ⟨e3.os, e3.tape, e3.output, Nat.le_trans e3.size (grown_setCells g _ _ w1).size, fun k hk hne => ((grown_setCells g _ _ w1).block k (Nat.lt_of_lt_of_le hk e3.size) hne).trans (e3.block k hk hne)⟩⟩
    clear e1 e2 e3 hclr q1 q2 q3 q4 q5 happ hcell hb1 hb2 hb3 hb4 hb5 hown
    go_enter Try.func27, Try.ntmps27
    go_wp2
    go_region_law (refine step_app9 rfl (.tmp 22) (.tmp 25) 28 rfl (by simp [Act.eval, Act.put]) (by simp [Act.eval, Act.put]) E1.out ?_)
    go_wp2
    rw [EC.out]
    simp only [Result.andThen]
    rw [Oper.upon_value]
    go_wp2
    go_ret
    exact ⟨rfl, HFIN.out⟩
  · obtain ⟨w1, e1, e2, e3⟩ := happ ((i + 1) * 5) (cap - (i + 1)) (fun _ => rfl)
    obtain ⟨cur1, q1, q2, q3, q4, q5⟩ := own_block e2
    rw [hm1] at e1 e2 ⊢
    have hclr := run_clearL w1 0 g (m * 5) (cap - m) cur1 q1 (by omega)
    have E1 := Lib.hid e1
    have EC := Lib.hid hclr
    have HFIN : Hid ((w1.setCells g (m * 5) Ln.zero.cells).ownsRow 0 33 5 (.slice (some ⟨g, 0, none⟩) m cap) m (encL (l.take i ++ l.drop (i + 1))) ∧ w.grownBy (w1.setCells g (m * 5) Ln.zero.cells) (some g)) := ⟨own_behind e2 _ (Nat.le_refl _) (by show m * 5 + 5 ≤ _; omega), ⟨e3.os, e3.tape, e3.output, Nat.le_trans e3.size (grown_setCells g _ _ w1).size, fun k hk hne => ((grown_setCells g _ _ w1).block k (Nat.lt_of_lt_of_le hk e3.size) hne).trans (e3.block k hk hne)⟩⟩
    clear e1 e2 e3 hclr q1 q2 q3 q4 q5 happ hcell hb1 hb2 hb3 hb4 hb5 hown
    go_enter Try.func27, Try.ntmps27
    go_wp2
    go_region_law (refine step_app9 rfl (.tmp 22) (.tmp 25) 28 rfl (by simp [Act.eval, Act.put]) (by simp [Act.eval, Act.put]) E1.out ?_)
    go_wp2
    rw [EC.out]
    simp only [Result.andThen]
    rw [Oper.upon_value]
    go_wp2
    go_ret
    exact ⟨rfl, HFIN.out⟩
theorem delete_any {w : World} {v : Value} {l : List Ln} (hown : w.ownsRow 0 33 5 v l.length (encL l)) (hl : l.length ≤ 1048576) (i : Nat) (hi : i < l.length) :
    Calls Try.prog 27 #[v, .int .i64 (i : Int), .int .i64 ((i : Int) + 1)] w fun e w' => ∃ u, e = .returned u ∧ w'.ownsRow 0 33 5 u (l.take i ++ l.drop (i + 1)).length (encL (l.take i ++ l.drop (i + 1))) ∧ w.grownBy w' v.ownBlock ∧ ∀ k, u.ownBlock = some k → v.ownBlock = some k ∨ w.heap.size ≤ k := by
  rcases hown.2 with ⟨_, e0⟩ | ⟨g, cap, cur, e, _⟩
  · omega
  · subst e
    refine (delete_some rfl hown hl i hi).mono ?_
    rintro e w' ⟨rfl, h1, h2⟩
    exact ⟨_, rfl, by rw [show (l.take i ++ l.drop (i + 1)).length = l.length - 1 by simp; omega]; exact h1, h2, fun k hk => .inl hk⟩

end Go.Proofs.Ytfdifimakaiccaa
