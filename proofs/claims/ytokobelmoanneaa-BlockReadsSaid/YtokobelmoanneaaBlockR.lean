/-
    Proved here: what chapter 6's own Encode and Draft answer.
  Conditions: texts of at most 2,000 bytes.
-/
import Derived.Test.YtokobelmoanneaaBlockQ
import Derived.Test.YtokobelmoanneaaBlockC
namespace Go.Proofs.Ytokobelmoanneaa
open Go Go.RowKit

set_option maxHeartbeats 400000 in
set_option maxRecDepth 100000 in
theorem renc_no (b : BV) (h1 : b.key.size ≤ 2000) (h2 : b.val.size ≤ 2000) (hm : mayB b = false) (w : World) : Calls Try.prog 16 #[b.agg] w fun e w' => e = .returned (.tuple #[.slice none 0 0, .int .i64 3]) ∧ Below w.heap.size w w' := by
  have HM := Lib.hid (fun W => rmay_any b h1 h2 W)
  rw [hm] at HM
  rw [BV.agg] at HM ⊢
  obtain ⟨cl, kd, id, ver, ep, key, val⟩ := b
  simp only at *
  clear hm
  go_enter Try.func16, Try.ntmps16
  go_wp2_with fail
  refine (HM.out _).mono ?_
  rintro e w2 ⟨rfl, hb⟩
  have HB := Lib.hid hb
  clear hb
  go_wp2
  go_ret2
  exact ⟨rfl, below_box HB.out⟩
set_option maxHeartbeats 400000 in
set_option maxRecDepth 100000 in
theorem renc_ok (b : BV) (ho : b.ok) (hm : mayB b = true) (w : World) : Calls Try.prog 16 #[b.agg] w (LinesTo w (linesL b)) := by
  obtain ⟨hks, hvs, _⟩ := mayB_sizes hm
  have HM := Lib.hid (fun W => rmay_any b (by omega) (by omega) W)
  rw [hm] at HM
  have HLI := Lib.hid (fun W => rlines_any b ho hm W)
  have HN := Lib.hid (box_new w b)
  obtain ⟨p, hp⟩ : ∃ p, w.heap.size = p := ⟨_, rfl⟩
  have HP := Lib.hid hp
  rw [BV.agg] at HM HLI ⊢
  obtain ⟨w0, hw0⟩ : ∃ w0, w.alloc (.cells #[.int .i64 b.cl, .int .i64 b.kd, .int .u64 (b.id : Nat), .int .u64 (b.ver : Nat), .int .u64 (b.ep : Nat), .string b.key, .string b.val] 24) = w0 := ⟨_, rfl⟩
  rw [hw0, hp] at HN
  have HB0 : Hid (Below p w w0) := (by rw [← hp, ← hw0]; exact (Below.refl _ _).alloc (Nat.le_refl _) _)
  generalize linesL b = L at *
  obtain ⟨cl, kd, id, ver, ep, key, val⟩ := b
  simp only at *
  clear hm ho
  obtain ⟨c0, c1, c2, c3, c4, c5, c6⟩ := HN.out.cells
  go_enter Try.func16, Try.ntmps16
  go_wp2_with fail
  refine (HM.out _).mono ?_
  rintro e w2 ⟨rfl, hb⟩
  have HB2 : Hid (Below p w w2) := HB0.out.trans (hb.mono (Nat.le_of_lt HN.out.lt))
  have HN2 := Lib.hid (HN.out.below hb HN.out.lt)
  clear hb c0 c1 c2 c3 c4 c5 c6
  obtain ⟨c0, c1, c2, c3, c4, c5, c6⟩ := HN2.out.cells
  go_wp2_with fail
  refine (HLI.out _).mono ?_
  rintro e w3 ⟨V, rfl, hown, hb⟩
  have HO := Lib.hid (own_mono hown (HP.out ▸ HB2.out.size))
  have HB3 : Hid (Below p w w3) := HB2.out.trans (hb.mono (HP.out ▸ HB2.out.size))
  clear hb hown
  go_wp2
  go_ret2
  exact ⟨V, rfl, by rw [HP.out]; exact HP.out ▸ HO.out, by rw [HP.out]; exact HB3.out⟩
/-- What chapter 6's own Draft leaves: a line of a row of its own. -/
def LineTo (w : World) (l : List UInt8) (e : Ending) (w' : World) : Prop :=
  ∃ g cap, e = .returned (.slice (some ⟨g, 0, none⟩) 64 cap) ∧ w.heap.size ≤ g ∧ Row w' (some ⟨g, 0, none⟩) l ∧ Below w.heap.size w w'
theorem clsB_zero (c : Int) : ((spanN c : Int) == 0) = !clsB c := by
  have := clsB_span c
  rw [← this]
  have h := spanN_cases c
  rcases h with h | h | h | h | h <;> rw [h] <;> decide
set_option maxHeartbeats 400000 in
set_option maxRecDepth 100000 in
theorem rdraft_no (c : Int) (h : clsB c = false) (w : World) : Calls Try.prog 26 #[.int .i64 c] w fun e w' => e = .returned (.slice none 0 0) ∧ Below w.heap.size w w' := by
  have HS := Lib.hid (rspan_any c w)
  have hz := clsB_zero c
  rw [h] at hz
  generalize spanN c = s at *
  go_enter Try.func26, Try.ntmps26
  go_wp2_with fail
  refine HS.out.mono ?_
  rintro e w' ⟨rfl, rfl⟩
  have hz2 : ((s : Int) == 0) = true := hz
  go_wp2
  go_ret
  exact ⟨rfl, Below.refl _ _⟩
set_option maxHeartbeats 400000 in
set_option maxRecDepth 100000 in
theorem rdraft_yes (c : Int) (h : clsB c = true) (w : World) : Calls Try.prog 26 #[.int .i64 c] w (LineTo w ((linesL (draftBV c)).take 64)) := by
  have hm : mayB (draftBV c) = true := by rw [draft_may, h]
  have HE := Lib.hid (fun W => rlines_any (draftBV c) (draft_okB c) hm W)
  have HS := Lib.hid (rspan_any c w)
  have hz := clsB_zero c
  rw [h] at hz
  have hl := linesL_len hm
  have hsp := spanN_rest (mayB_cl hm)
  have hsc := spanN_cases (draftBV c).cl
  have hl64 : 64 ≤ (linesL (draftBV c)).length := by omega
  have hl512 : (linesL (draftBV c)).length ≤ 512 := by omega
  obtain ⟨n, hn⟩ : ∃ n, (linesL (draftBV c)).length = n := ⟨_, rfl⟩
  have HN := Lib.hid hn
  rw [hn] at hl64 hl512
  unfold RowTo at HE
  rw [BV.agg, hn] at HE
  generalize linesL (draftBV c) = L at *
  simp only [draftBV] at HE
  clear hn hl hsp hsc hm
  have hz2 : ((spanN c : Int) == 0) = false := hz
  generalize spanN c = s at *
  clear hz
  go_enter Try.func26, Try.ntmps26
  go_wp2_with fail
  refine HS.out.mono ?_
  rintro e w' ⟨rfl, rfl⟩
  go_wp2_with fail
  refine (HE.out _).mono ?_
  rintro e w1 ⟨V, rfl, hown, hb⟩
  obtain ⟨g, cap, rfl, hcap, hgp, hgl, hrow⟩ := own_form hown (by omega) (by omega)
  have hrow2 := hrow.part 0 64 (by rw [HN.out]; omega)
  rw [List.drop_zero, Nat.zero_add] at hrow2
  have HR := Lib.hid hrow2
  have HB := Lib.hid hb
  have h64c : 64 ≤ cap := by omega
  clear hown hb hrow hrow2
  go_wp2
  go_ret
  exact ⟨g, cap, rfl, hgp, HR.out, HB.out⟩

end Go.Proofs.Ytokobelmoanneaa
