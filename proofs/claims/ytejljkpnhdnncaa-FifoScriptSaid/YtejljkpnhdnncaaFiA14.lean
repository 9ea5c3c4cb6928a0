/-
  Proved here: what the list's New, Len, place and head answer.
  Conditions: at most 4,095 places.
-/
import Derived.Test.YtejljkpnhdnncaaFiMem14
import Derived.Deep.QuietTactic
import Derived.BigQuiet
import Derived.IntWalk
import Derived.WalkSmall
import Derived.ChangeKeysEq
import Derived.StillTailTactics
import Derived.Lib.SliceRun
namespace Go.Proofs.Ytejljkpnhdnncaa
open Go Go.RowKit
set_option maxRecDepth 100000

set_option maxHeartbeats 400000 in
theorem finew_any (w : World) : Calls Try.prog 7 #[] w fun e w' => e = .returned (.pointer (some ⟨w.heap.size, 0, none⟩)) ∧ Fi w' w.heap.size (.slice none 0 0) 0 [] [] ∧ Below w.heap.size w w' := by
  have HR := Lib.hid (fi_new w)
  go_enter Try.func7, Try.ntmps7
  go_wp2
  go_ret
  exact ⟨rfl, HR.out, (Below.refl _ _).alloc (Nat.le_refl _) _⟩
set_option maxHeartbeats 400000 in
theorem filen_any {w : World} {p f : Nat} {v : Value} {P L : List Ln} (h : Fi w p v f P L) : Calls Try.prog 11 #[.pointer (some ⟨p, 0, none⟩)] w fun e w' => e = .returned (.int .i64 (L.length : Nat)) ∧ w = w' := by
  obtain ⟨_, _, c2⟩ := h.cells
  generalize L.length = n at *
  clear h
  go_enter Try.func11, Try.ntmps11
  go_wp2
  go_ret
  exact ⟨rfl, rfl⟩
set_option maxHeartbeats 400000 in
/-- What 'place' reads: the places' number and where the first link lies. -/
theorem place_of {w : World} {p f n i : Nat} {A : Option Addr} {cap : Nat} (c0 : w.cell? ⟨p, 0, none⟩ = some (.slice A n cap)) (c1 : w.cell? ⟨p, 1, none⟩ = some (.int .i64 (f : Nat))) (hn : 0 < n) (hn2 : n ≤ 4095) (hf : f < n) (hi : i ≤ n) :
    Calls Try.prog 20 #[.pointer (some ⟨p, 0, none⟩), .int .i64 (i : Nat)] w fun e w' => e = .returned (.int .i64 (((f + i) % n : Nat) : Int)) ∧ ∃ k, w' = w.drewN k := by
  have H : Hid (((f : Int) + (i : Int)) % (n : Int) = (((f + i) % n : Nat) : Int)) := rfl
  have hz : ((n : Int) == 0) = false := by simp; omega
  generalize (f + i) % n = r at *
  go_enter Try.func20, Try.ntmps20
  go_wp2
  go_quiet (fail)
  go_wp2
  go_ret
  exact ⟨int_eq H.out, _, rfl⟩
theorem heap_set5 {w : World} {g : Nat} {T : TypeId} {z0 z1 z2 z3 z4 : Value} (h : w.heap[g]? = some (.cells #[z0, z1, z2, z3, z4] T (0, 0))) (a b c d e : Value) : (((((w.setCell ⟨g, 0, none⟩ a).setCell ⟨g, 1, none⟩ b).setCell ⟨g, 2, none⟩ c).setCell ⟨g, 3, none⟩ d).setCell ⟨g, 4, none⟩ e).heap[g]? = some (.cells #[a, b, c, d, e] T (0, 0)) := by
  have h0 := heap_setCell_same w g 0 _ T a h
  have h1 := heap_setCell_same _ g 1 _ T b h0
  have h2 := heap_setCell_same _ g 2 _ T c h1
  have h3 := heap_setCell_same _ g 3 _ T d h2
  have h4 := heap_setCell_same _ g 4 _ T e h3
  simpa using h4
theorem below_set5 {B g : Nat} {w0 w : World} (h : Below B w0 w) (hg : B ≤ g) (o : Nat) (a b c d e : Value) : Below B w0 (((((w.setCell ⟨g, o, none⟩ a).setCell ⟨g, o + 1, none⟩ b).setCell ⟨g, o + 2, none⟩ c).setCell ⟨g, o + 3, none⟩ d).setCell ⟨g, o + 4, none⟩ e) :=
  ((((h.setCell hg _).setCell hg _).setCell hg _).setCell hg _).setCell hg _
theorem frozenL {w : World} {g : Nat} {T : TypeId} {cs : Array Value} (h : w.heap[g]? = some (.cells cs T (0, 0))) : w.frozen? ⟨g, 0, none⟩ = false ∧ w.frozen? ⟨g, 1, none⟩ = false ∧ w.frozen? ⟨g, 2, none⟩ = false ∧ w.frozen? ⟨g, 3, none⟩ = false ∧ w.frozen? ⟨g, 4, none⟩ = false := by
  refine ⟨?_, ?_, ?_, ?_, ?_⟩ <;> simp [World.frozen?, h]
/-- What Head and Pop answer. -/
def hdV (L : List Ln) : Value := .tuple #[(L.head?.getD Ln.zero).agg, .bool L.head?.isSome]
set_option maxHeartbeats 1600000 in
theorem rhead_no {w : World} {p f : Nat} {v : Value} {P : List Ln} (h : Fi w p v f P []) : Calls Try.prog 16 #[.pointer (some ⟨p, 0, none⟩)] w fun e w' => e = .returned (hdV []) ∧ Below w.heap.size w w' := by
  obtain ⟨_, _, c2⟩ := h.cells
  obtain ⟨g, hg⟩ : ∃ g, w.heap.size = g := ⟨_, rfl⟩
  have hpg : p < g := hg ▸ h.lt (.inl rfl)
  have HG := Lib.hid hg
  have HZ := Lib.hid zero_link
  have HEZ : Hid (∀ (w' : World) (g : Nat), w'.heap[g]? = some (.cells #[.string ⟨#[]⟩, .int .u64 0, .int .u64 0, .int .i64 0, .int .i64 0] 29 (0, 0)) → LBox w' g Ln.zero) := fun w' g h => h
  rw [hg]
  clear h
  go_enter Try.func16, Try.ntmps16
  go_wp2_with (first
    | ((with_reducible show wpList _ _ _ (⟨some 2, .alloc _, _, _, _, _⟩ :: _) _ _); refine wpList_alloc_var (o := ⟨some 2, _, _, _, _, _⟩) rfl 29 rfl g HG.out _ HZ.out ?_; intro w2 H2 B2; have e2 : w2.cell? ⟨p, 2, none⟩ = some (.int .i64 0) := (B2.out.cell (p := ⟨p, 2, none⟩) hpg).trans c2; obtain ⟨g2, hg2⟩ : ∃ g2, w2.heap.size = g2 := ⟨_, rfl⟩; have HG2 := Lib.hid hg2; have HL2 : Hid (g < g2) := hg2 ▸ lt_of_heap H2.out; clear hg2)
    | ((with_reducible show wpList _ _ _ (⟨some 4, .alloc _, _, _, _, _⟩ :: _) _ _); refine wpList_alloc_var (o := ⟨some 4, _, _, _, _, _⟩) rfl 29 rfl g2 HG2.out _ HZ.out ?_; intro w4 H4 B4; have H24 := Lib.hid ((B4.out.block g HL2.out).trans H2.out); obtain ⟨q0, q1, q2, q3, q4⟩ := cellsL H4.out)
    | ((with_reducible show wpList _ _ _ (⟨none, .store _ (.tmp 2) _, _, _, _, _⟩ :: _) _ _); refine wpList_store_whole (o := ⟨none, .store 29 (.tmp 2) (.tmp 10), _, _, _, _⟩) rfl _ _ _ rfl rfl g #[.string ⟨#[]⟩, .int .u64 0, .int .u64 0, .int .i64 0, .int .i64 0] rfl rfl 29 _ H24.out size_link rfl (onesL _ _ _ _ _) ?_; intro w5 H5 B5)
    | fail)
  refine bodyPost_ret (results_l2 rfl rfl rfl (HEZ.out _ _ H5.out)) rfl ?_
  exact ⟨rfl, B2.out.trans ((B4.out.mono (Nat.le_of_lt HL2.out)).trans B5.out)⟩
set_option maxHeartbeats 1600000 in
theorem rhead_yes {w : World} {p f : Nat} {v : Value} {P L : List Ln} {x : Ln} (h : Fi w p v f P (x :: L)) : Calls Try.prog 16 #[.pointer (some ⟨p, 0, none⟩)] w fun e w' => e = .returned (hdV (x :: L)) ∧ Below w.heap.size w w' := by
  obtain ⟨A, cap, rfl, _, hr⟩ := h.reads
  obtain ⟨c0, c1, c2⟩ := h.cells
  have hz : ((((x :: L).length : Nat) : Int) == 0) = false := by simp; omega
  obtain ⟨hfl, hfx⟩ := h.ring.head
  obtain ⟨g, hg⟩ : ∃ g, w.heap.size = g := ⟨_, rfl⟩
  have hpg : p < g := hg ▸ h.lt (.inl rfl)
  have HG := Lib.hid hg
  have HZ := Lib.hid zero_link
  obtain ⟨b, off, rfl, hbg, d0, d1, d2, d3, d4⟩ := hr.at_ hfx
  rw [hg] at hbg ⊢
  have HEB : Hid (∀ (w' : World) (g : Nat), w'.heap[g]? = some (.cells #[.string x.str, .int .u64 (x.id : Nat), .int .u64 (x.ver : Nat), .int .i64 x.line, .int .i64 x.cl] 29 (0, 0)) → LBox w' g x) := fun w' g h => h
  have HV : Hid (hdV (x :: L) = .tuple #[x.agg, .bool true]) := rfl
  generalize hdV (x :: L) = V at *
  generalize (x :: L).length = n at *
  generalize P.length = m at *
  have hfm : (f : Int) < (m : Int) := by omega
  obtain ⟨X, hX⟩ : ∃ X, x.agg = X := ⟨_, rfl⟩
  rw [hX] at HV
  have HX := Lib.hid hX
  clear h hr hfx hfl hX
  generalize x.str = x0 at *
  generalize (x.id : Int) = x1 at *
  generalize (x.ver : Int) = x2 at *
  generalize x.line = x3 at *
  generalize x.cl = x4 at *
  go_enter Try.func16, Try.ntmps16
  go_wp2_with (first
    | ((with_reducible show wpList _ _ _ (⟨some 2, .alloc _, _, _, _, _⟩ :: _) _ _); refine wpList_alloc_var (o := ⟨some 2, _, _, _, _, _⟩) rfl 29 rfl g HG.out _ HZ.out ?_; intro w2 H2 B2; have e0 := (B2.out.cell (p := ⟨p, 0, none⟩) hpg).trans c0; have e1 := (B2.out.cell (p := ⟨p, 1, none⟩) hpg).trans c1; have e2 := (B2.out.cell (p := ⟨p, 2, none⟩) hpg).trans c2; have s0 := (B2.out.cell (p := ⟨b, off + f * 5, none⟩) hbg).trans d0; have s1 := (B2.out.cell (p := ⟨b, off + f * 5 + 1, none⟩) hbg).trans d1; have s2 := (B2.out.cell (p := ⟨b, off + f * 5 + 2, none⟩) hbg).trans d2; have s3 := (B2.out.cell (p := ⟨b, off + f * 5 + 3, none⟩) hbg).trans d3; have s4 := (B2.out.cell (p := ⟨b, off + f * 5 + 4, none⟩) hbg).trans d4; obtain ⟨q0, q1, q2, q3, q4⟩ := cellsL H2.out; obtain ⟨f0, f1, f2, f3, f4⟩ := frozenL H2.out)
    | fail)
  go_region
  go_wp2
  refine bodyPost_ret (results_l2 rfl rfl rfl (HEB.out _ _ (by exact heap_set5 H2.out _ _ _ _ _))) rfl ?_
  rw [HX.out, HV.out]
  exact ⟨rfl, (below_set5 B2.out (Nat.le_refl _) 0 _ _ _ _ _).drew⟩

end Go.Proofs.Ytejljkpnhdnncaa
