/-
  Proved here: which calls are good, as chapter 15's own tells it.
  Conditions: a group's calls have no group; rows of at most 2^20 calls.
-/
import Derived.Test.YtimpigponjkfkaaRGood15
namespace Go.Proofs.Ytimpigponjkfkaa
open Go Go.RowKit
set_option maxRecDepth 100000

theorem longK_eq (s : ByteArray) : longK s = decide ((16 : Int) < s.size) := rfl
theorem longV_eq (s : ByteArray) : longV s = decide ((400 : Int) < s.size) := rfl
set_option maxHeartbeats 1600000 in
theorem rlong_not (x : Cal) (w : World) (h7 : (x.kd == 7) = false) : Calls Try.prog 39 #[.agg #[.int .i64 x.kd, .string x.key, .string x.val, .string x.to_, .slice x.ga x.gn x.gc]] w fun e w' => e = .returned (.bool (longF x)) ∧ Below w.heap.size w w' := by
  rw [longF_eq]
  have e1 := longK_eq x.key
  have e2 := longV_eq x.val
  have e3 := longK_eq x.to_
  rw [e1, e2, e3]
  clear e1 e2 e3
  generalize x.kd = kd at *
  generalize x.key = s1 at *
  generalize x.val = s2 at *
  generalize x.to_ = s3 at *
  generalize x.ga = x4 at *
  generalize x.gn = x5 at *
  generalize x.gc = x6 at *
  obtain ⟨z, hz⟩ : ∃ z, longN kd (decide ((16 : Int) < s1.size)) (decide ((400 : Int) < s2.size)) (decide ((16 : Int) < s3.size)) = z := ⟨_, rfl⟩
  have HZ := Lib.hid hz
  rw [hz]
  clear hz
  rcases kinds kd with rfl | rfl | rfl | rfl | rfl | rfl | rfl | rfl | ⟨k1, k2, k3, k4, k5, k6, k7, k8⟩
  case inr.inr.inr.inr.inr.inr.inl => cases h7
  case inr.inl =>
    by_cases ha : (16 : Int) < s1.size
    all_goals
      go_enter Try.func39, Try.ntmps39
      go_wp2
      go_ret
      refine ⟨?_, (Below.refl _ _).alloc (Nat.le_refl _) _⟩
      rw [← HZ.out]
      unfold longN
      simp [ha]
      try (intro h; omega)
  case inr.inr.inr.inr.inr.inl =>
    by_cases ha : (16 : Int) < s1.size
    all_goals
      go_enter Try.func39, Try.ntmps39
      go_wp2
      go_ret
      refine ⟨?_, (Below.refl _ _).alloc (Nat.le_refl _) _⟩
      rw [← HZ.out]
      unfold longN
      simp [ha]
      try (intro h; omega)
  all_goals
    go_enter Try.func39, Try.ntmps39
    go_wp2
    go_ret
    refine ⟨?_, (Below.refl _ _).alloc (Nat.le_refl _) _⟩
    rw [← HZ.out]
    unfold longN
    first | rfl | (simp [*])
set_option maxHeartbeats 1600000 in
theorem rlong_grp (c : Cal) (G : List Cal) (w : World) (hG : Grp w c G) (h7 : c.kd = 7) (hp : ∀ W, ∀ x ∈ G, Calls Try.prog 39 #[.agg #[.int .i64 x.kd, .string x.key, .string x.val, .string x.to_, .slice x.ga x.gn x.gc]] W fun e w' => e = .returned (.bool (longF x)) ∧ Below W.heap.size W w') : Calls Try.prog 39 #[.agg #[.int .i64 c.kd, .string c.key, .string c.val, .string c.to_, .slice c.ga c.gn c.gc]] w fun e w' => e = .returned (.bool (G.any longF)) ∧ Below w.heap.size w w' := by
  obtain ⟨z, hz⟩ : ∃ z, G.any longF = z := ⟨_, rfl⟩
  rw [hz]
  obtain ⟨g, hg⟩ : ∃ g, w.heap.size = g := ⟨_, rfl⟩
  obtain ⟨w1, hw1⟩ : ∃ w1, w.alloc (.cells #[.int .i64 c.kd, .string c.key, .string c.val, .string c.to_, .slice c.ga c.gn c.gc] 24) = w1 := ⟨_, rfl⟩
  have HXg : Hid (CBox w1 g c) := by rw [← hw1, ← hg]; exact heap_alloc_new w _
  have HBg : Hid (Below g w w1) := by rw [← hw1, ← hg]; exact (Below.refl _ _).alloc (Nat.le_refl _) _
  have HGg : Hid (w.heap.size = g) := hg
  have hG1 := hG.below (w' := w1) (hg ▸ HBg.out)
  rw [hg]
  have HL : Hid (g < w1.heap.size) := HXg.out.lt
  obtain ⟨c0, c1, c2, c3, c4⟩ := HXg.out.at_
  rw [h7] at *
  have hn := hG.len
  have hR := hG1.row
  have hmx : c.gn ≤ 1048576 := by have := hR.1; omega
  generalize c.gn = n at *
  generalize c.ga = A at *
  generalize c.gc = cap at *
  generalize c.key = q1 at *
  generalize c.val = q2 at *
  generalize c.to_ = q3 at *
  obtain ⟨B, hB⟩ : ∃ B, w1.heap.size = B := ⟨_, rfl⟩
  have HBS := Lib.hid hB
  have HR := Lib.hid hR
  have HN := Lib.hid hn
  have HZ := Lib.hid hz
  have HLB : Hid (g ≤ B) := hB ▸ Nat.le_of_lt HL.out
  have HC4 : Hid (∀ W, Below B w1 W → W.cell? ⟨g, 4, none⟩ = some (.slice A n cap)) := fun W hW => (hW.cell (p := ⟨g, 4, none⟩) (hB ▸ HL.out)).trans c4
  have HP := Lib.hid hp
  clear hB hR hn hz hp hG hG1 h7 HXg
  go_enter Try.func39, Try.ntmps39
  go_wp2
  go_loopg [3] n (fun gk s3 wx => ∃ i : Nat, i + gk = n ∧ s3 = .int .i64 i ∧ Hid (Below B w1 wx) ∧ Hid (∀ j y, j < i → G[j]? = some y → longF y = false))
  case atStart => exact ⟨0, by omega, rfl, Below.refl _ _, fun j y hj => by omega⟩
  case round =>
    obtain ⟨i, hig, rfl, HW, HF⟩ := hrel
    have e4 := HC4.out wr HW.out
    clear hg hw1 c0 c1 c2 c3 c4
    cases gk with
    | zero =>
      obtain rfl : i = n := by omega
      have hii : ¬ (i : Int) < (i : Int) := by omega
      obtain rfl : false = z := by
        rw [← HZ.out]
        symm
        rw [List.any_eq_false]
        intro y hy
        obtain ⟨t, ht⟩ := List.getElem?_of_mem hy
        rw [HF.out t y (by have := (List.getElem?_eq_some_iff.1 ht).1; have := HN.out; omega) ht]
        decide
      go_wp2
      go_ret
      exact ⟨rfl, HBg.out.trans (HW.out.mono HLB.out)⟩
    | succ gk =>
      have hii : (i : Int) < (n : Int) := by omega
      have hil : i < G.length := by have := HN.out; omega
      have hgi := List.getElem?_eq_getElem hil
      have HPX := Lib.hid (HP.out wr _ (List.getElem_mem hil))
      generalize G[i] = x at *
      obtain ⟨b, off, rfl, -, c0, c1, c2, c3, c4⟩ := callAt (HR.out.below (HBS.out.symm ▸ HW.out)) hgi
      have HBB : Hid (B ≤ wr.heap.size) := by have := HW.out.size; have := HBS.out; show _ ≤ _; omega
      have HF2 : Hid (longF x = false → ∀ j y, j < i + 1 → G[j]? = some y → longF y = false) := fun h j y hj hy => by
        rcases Nat.lt_or_ge j i with hh | hh
        · exact HF.out j y hh hy
        · obtain rfl : j = i := by omega
          rw [hgi] at hy
          cases hy
          exact h
      have HF3 : Hid (longF x = true → z = true) := fun h => by rw [← HZ.out]; exact List.any_eq_true.2 ⟨x, List.mem_of_getElem? hgi, h⟩
      clear hgi hil
      generalize longF x = f at *
      generalize x.kd = x0 at *
      generalize x.key = x1 at *
      generalize x.val = x2 at *
      generalize x.to_ = x3 at *
      generalize x.ga = x4 at *
      generalize x.gn = x5 at *
      generalize x.gc = x6 at *
      cases f with
      | true =>
        obtain rfl := HF3.out rfl
        go_wp2_with fail
        refine HPX.out.mono ?_
        rintro e v ⟨rfl, hb⟩
        have HV : Hid (Below B w1 v) := HW.out.trans (hb.mono HBB.out)
        clear hb c0 c1 c2 c3 c4
        go_wp2
        go_ret
        exact ⟨rfl, HBg.out.trans (HV.out.mono HLB.out)⟩
      | false =>
        have HF4 := Lib.hid (HF2.out rfl)
        go_wp2_with fail
        refine HPX.out.mono ?_
        rintro e v ⟨rfl, hb⟩
        have HV : Hid (Below B w1 v) := HW.out.trans (hb.mono HBB.out)
        clear hb c0 c1 c2 c3 c4
        go_wp2
        go_roundg gk
        case measure => omega
        case rel => exact ⟨i + 1, by omega, by go_num, HV.out, HF4⟩
theorem rlong_flat (x : Cal) (w : World) (h : x.gn = 0 ∧ x.gc ≤ maxLen ∧ (x.ga = none → x.gc = 0)) : Calls Try.prog 39 #[.agg #[.int .i64 x.kd, .string x.key, .string x.val, .string x.to_, .slice x.ga x.gn x.gc]] w fun e w' => e = .returned (.bool (longF x)) ∧ Below w.heap.size w w' := by
  cases h7 : x.kd == 7 with
  | false => exact rlong_not x w h7
  | true =>
    have h7' : x.kd = 7 := by simpa using h7
    rw [longF_7 h7']
    exact rlong_grp x [] w (grp_flat w h) h7' (fun W x hx => by cases hx)
theorem rlong_any (c : Cal) (G : List Cal) (w : World) (hG : Grp w c G) : Calls Try.prog 39 #[.agg #[.int .i64 c.kd, .string c.key, .string c.val, .string c.to_, .slice c.ga c.gn c.gc]] w fun e w' => e = .returned (.bool (longC c G)) ∧ Below w.heap.size w w' := by
  unfold longC
  cases h7 : c.kd == 7 with
  | false => exact rlong_not c w h7
  | true => exact rlong_grp c G w hG (by simpa using h7) (fun W x hx => rlong_flat x W (hG.flat x hx))
def shC (c : Cal) (G : List Cal) : Int := if formC c G = true then 0 else 1
theorem shape_any (c : Cal) (G : List Cal) (w : World) (hG : Grp w c G) : Calls Try.prog 38 #[.agg #[.int .i64 c.kd, .string c.key, .string c.val, .string c.to_, .slice c.ga c.gn c.gc], .bool false] w fun e w' => e = .returned (.int .i64 (shC c G)) ∧ Below w.heap.size w w' := by
  unfold shC formC
  cases h7 : c.kd == 7 with
  | false => exact shapef_any c false w h7
  | true => exact shape_grp c G w hG (by simpa using h7)
set_option maxHeartbeats 800000 in
theorem rgood_any (c : Cal) (G : List Cal) (w : World) (hG : Grp w c G) : Calls Try.prog 16 #[.agg #[.int .i64 c.kd, .string c.key, .string c.val, .string c.to_, .slice c.ga c.gn c.gc]] w fun e w' => e = .returned (.int .i64 (goodN c G)) ∧ Below w.heap.size w w' := by
  obtain ⟨g, hg⟩ : ∃ g, w.heap.size = g := ⟨_, rfl⟩
  obtain ⟨w1, hw1⟩ : ∃ w1, w.alloc (.cells #[.int .i64 c.kd, .string c.key, .string c.val, .string c.to_, .slice c.ga c.gn c.gc] 24) = w1 := ⟨_, rfl⟩
  have HXg : Hid (CBox w1 g c) := by rw [← hw1, ← hg]; exact heap_alloc_new w _
  have HBg : Hid (Below g w w1) := by rw [← hw1, ← hg]; exact (Below.refl _ _).alloc (Nat.le_refl _) _
  have HGg : Hid (w.heap.size = g) := hg
  have hG1 := hG.below (w' := w1) (hg ▸ HBg.out)
  rw [hg]
  have HF := Lib.hid (shape_any c G w1 hG1)
  have HT : Hid (∀ w2, Below w1.heap.size w1 w2 → Calls Try.prog 39 #[.agg #[.int .i64 c.kd, .string c.key, .string c.val, .string c.to_, .slice c.ga c.gn c.gc]] w2 fun e w' => e = .returned (.bool (longC c G)) ∧ Below w2.heap.size w2 w') := fun w2 hb => rlong_any c G w2 (hG1.below hb)
  have HL : Hid (g ≤ w1.heap.size) := Nat.le_of_lt HXg.out.lt
  obtain ⟨c0, c1, c2, c3, c4⟩ := HXg.out.at_
  obtain ⟨z, hz⟩ : ∃ z, goodN c G = z := ⟨_, rfl⟩
  have HZ : Hid ((if formC c G = true then (if longC c G = true then (5 : Int) else 0) else 1) = z) := hz
  rw [hz]
  unfold shC at HF
  generalize formC c G = f at *
  generalize longC c G = l at *
  clear hG hG1 hz
  cases f with
  | false =>
    obtain rfl : (1 : Int) = z := HZ.out
    have HF2 : Hid (Calls Try.prog 38 #[.agg #[.int .i64 c.kd, .string c.key, .string c.val, .string c.to_, .slice c.ga c.gn c.gc], .bool false] w1 fun e w' => e = .returned (.int .i64 1) ∧ Below w1.heap.size w1 w') := HF.out
    go_enter Try.func16, Try.ntmps16
    go_wp2_with fail
    refine HF2.out.mono ?_
    clear hg hw1
    rintro e w2 ⟨rfl, hb2⟩
    have HB2 : Hid (Below g w w2) := HBg.out.trans (hb2.mono HL.out)
    clear hb2 c0 c1 c2 c3 c4
    go_wp2
    go_ret
    exact ⟨rfl, HB2.out⟩
  | true =>
    have HF2 : Hid (Calls Try.prog 38 #[.agg #[.int .i64 c.kd, .string c.key, .string c.val, .string c.to_, .slice c.ga c.gn c.gc], .bool false] w1 fun e w' => e = .returned (.int .i64 0) ∧ Below w1.heap.size w1 w') := HF.out
    cases l
    case' false => obtain rfl : (0 : Int) = z := HZ.out
    case' true => obtain rfl : (5 : Int) = z := HZ.out
    all_goals
      go_enter Try.func16, Try.ntmps16
      go_wp2_with fail
      refine HF2.out.mono ?_
      clear hg hw1
      rintro e w2 ⟨rfl, hb2⟩
      have HB2 : Hid (Below g w w2) := HBg.out.trans (hb2.mono HL.out)
      have HL2 : Hid (g ≤ w2.heap.size) := Nat.le_trans HL.out hb2.size
      have HT2 := Lib.hid (HT.out w2 hb2)
      have HX2 := Lib.hid (HXg.out.below hb2 HXg.out.lt)
      clear c0 c1 c2 c3 c4 hb2
      obtain ⟨d0, d1, d2, d3, d4⟩ := HX2.out.at_
      go_wp2_with fail
      refine HT2.out.mono ?_
      rintro e w3 ⟨rfl, hb3⟩
      have HB3 : Hid (Below g w w3) := HB2.out.trans (hb3.mono HL2.out)
      clear hb3 d0 d1 d2 d3 d4
      go_wp2
      go_ret
      exact ⟨rfl, HB3.out⟩

end Go.Proofs.Ytimpigponjkfkaa
