/-
    Proved here: what package block's Draft answers; the statements' own block.
  Conditions: none.
-/
import Derived.Test.YtokobelmoanneaaBlockL
namespace Go.Proofs.Ytokobelmoanneaa
open Go Go.RowKit

def draftBV (c : Int) : BV := ⟨c, 0, 0, 0, 0, ⟨#[]⟩, ⟨#[]⟩⟩
theorem draft_may (c : Int) : mayB (draftBV c) = clsB c := by
  unfold mayB clsB draftBV isDraftB
  by_cases h1 : 0 ≤ c <;> by_cases h2 : c ≤ 3 <;> simp [h1, h2, ByteArray.size]
theorem draft_okB (c : Int) : (draftBV c).ok := ⟨by show (0 : Nat) < _; omega, by show (0 : Nat) < _; omega, by show (0 : Nat) < _; omega⟩
set_option maxHeartbeats 400000 in
set_option maxRecDepth 100000 in
theorem draft_no (c : Int) (h : clsB c = false) (w : World) : Calls Try.prog 25 #[.int .i64 c] w fun e w' => e = .returned (.slice none 0 0) ∧ Below w.heap.size w w' := by
  have HE := Lib.hid (fun W => enc_no (draftBV c) (by simp [draftBV, ByteArray.size]) (by simp [draftBV, ByteArray.size]) (by rw [draft_may, h]) W)
  rw [BV.agg] at HE
  simp only [draftBV] at HE
  go_enter Try.func25, Try.ntmps25
  go_wp2_with fail
  refine (HE.out _).mono ?_
  rintro e w1 ⟨rfl, hb⟩
  have HB := Lib.hid hb
  clear hb
  go_wp2
  go_ret
  exact ⟨rfl, HB.out⟩
set_option maxHeartbeats 400000 in
set_option maxRecDepth 100000 in
theorem draft_yes (c : Int) (h : clsB c = true) (w : World) : Calls Try.prog 25 #[.int .i64 c] w (RowTo w ((linesL (draftBV c)).take 64)) := by
  have hm : mayB (draftBV c) = true := by rw [draft_may, h]
  have HE := Lib.hid (fun W => enc_ok (draftBV c) (draft_okB c) hm W)
  have hl := linesL_len hm
  have hsp := spanN_rest (mayB_cl hm)
  have hsc := spanN_cases (draftBV c).cl
  have hl64 : 64 ≤ (linesL (draftBV c)).length := by omega
  have hl512 : (linesL (draftBV c)).length ≤ 512 := by omega
  obtain ⟨n, hn⟩ : ∃ n, (linesL (draftBV c)).length = n := ⟨_, rfl⟩
  have HN := Lib.hid hn
  rw [hn] at hl64 hl512
  unfold LinesTo at HE
  rw [BV.agg, hn] at HE
  generalize linesL (draftBV c) = L at *
  simp only [draftBV] at HE
  clear hn hl hsp hsc hm
  go_enter Try.func25, Try.ntmps25
  go_wp2_with fail
  refine (HE.out _).mono ?_
  rintro e w1 ⟨V, rfl, hown, hb⟩
  obtain ⟨g, cap, rfl, hcap, hgp, hgl, hrow⟩ := own_form hown (by omega) (by omega)
  have hrow2 := hrow.part 0 64 (by rw [HN.out]; omega)
  rw [List.drop_zero, Nat.zero_add] at hrow2
  have HR := Lib.hid hrow2
  have HB := Lib.hid hb
  have h64c : 64 ≤ cap := by omega
  clear hown hb hrow hrow2
  go_wp2_with fail
  refine (clone_any w1 ⟨g, 0, none⟩ 64 cap (L.take 64) (by rw [List.length_take, HN.out]; omega) HR.out).mono ?_
  rintro e w2 ⟨V2, rfl, hown, hb⟩
  have HO := Lib.hid (own_mono hown HB.out.size)
  have HB2 := Lib.hid (HB.out.trans (hb.mono HB.out.size))
  clear hown hb
  go_wp2
  go_ret
  exact ⟨V2, rfl, HO.out, HB2.out⟩
def oneBV : BV := ⟨0, 1, 1, 1, 1, ⟨#[97]⟩, ⟨#[98]⟩⟩
theorem one_may : mayB oneBV = true := by decide +kernel
theorem one_ok : oneBV.ok := ⟨by show (1 : Nat) < _; omega, by show (1 : Nat) < _; omega, by show (1 : Nat) < _; omega⟩
theorem one_len : (linesL oneBV).length = 64 := by rw [linesL_len one_may]; rfl
theorem one_0 : (linesL oneBV).getD 0 0 = 1 := lines_tag oneBV
theorem one_2 : (linesL oneBV).getD 2 0 = 1 := by rw [head_at oneBV 2 (by omega)]; rfl
/-- One result, a block in a variable of its own. -/
theorem results_box1 {fn : Func} {t : Tmp} (hf : fn.results = #[.cell t 24]) {tmps : Array Value} {g : Nat} (ht : tmps.getD t undef = .pointer (some ⟨g, 0, none⟩)) {w : World} {b : BV} (h : Box w g b) :
    (results fn tmps).run Try.prog w = .ok b.agg w := by
  have hl := h.load
  have ht' : tmps[t]?.getD undef = .pointer (some ⟨g, 0, none⟩) := by simpa using ht
  simp [results, hf, ht', asAddr, hl]
set_option maxHeartbeats 400000 in
set_option maxRecDepth 100000 in
theorem one_any (w : World) : Calls Try.prog 33 #[] w fun e w' => e = .returned oneBV.agg ∧ Below w.heap.size w w' := by
  obtain ⟨p, hp⟩ : ∃ p, w.heap.size = p := ⟨_, rfl⟩
  have HP := Lib.hid hp
  have HZ := Lib.hid zero_block
  have HAC := Lib.hid (all_cells oneBV)
  clear hp
  go_enter Try.func33, Try.ntmps33
  go_wp2_with (first
    | ((with_reducible show wpList _ _ _ (⟨some 0, .alloc _, _, _, _, _⟩ :: _) _ _); refine wpList_alloc_var (o := ⟨some 0, _, _, _, _, _⟩) rfl 24 rfl p HP.out _ HZ.out ?_; intro w1 HA1 HB1)
    | ((with_reducible show wpList _ _ _ (⟨none, .store _ _ _, _, _, _, _⟩ :: _) _ _); refine wpList_store_whole (o := ⟨none, .store 24 (.tmp 0) (.tmp 1), _, _, _, _⟩) rfl _ _ _ rfl rfl p oneBV.cells.toArray rfl rfl 24 _ HA1.out size_block rfl HAC.out ?_; intro w6 HA6 HB6))
  refine bodyPost_ret (results_box1 rfl rfl HA6.out) rfl ⟨rfl, ?_⟩
  rw [HP.out]
  exact HB1.out.trans HB6.out

end Go.Proofs.Ytokobelmoanneaa
