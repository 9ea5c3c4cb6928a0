/-
  Proved here: what is said of one call, and of its keys among others, by the program.
  Conditions: rows of at most 2^20 calls.
-/
import Derived.Test.YtpmgnhijiodbaaaCall15
namespace Go.Proofs.Ytpmgnhijiodbaaa
open Go Go.RowKit
set_option maxRecDepth 100000

theorem kinds (kd : Int) : kd = 1 ∨ kd = 2 ∨ kd = 3 ∨ kd = 4 ∨ kd = 5 ∨ kd = 6 ∨ kd = 7 ∨ kd = 8 ∨ ((kd == 1) = false ∧ (kd == 2) = false ∧ (kd == 3) = false ∧ (kd == 4) = false ∧ (kd == 5) = false ∧ (kd == 6) = false ∧ (kd == 7) = false ∧ (kd == 8) = false) := by
  simp only [beq_eq_false_iff_ne]
  omega
/-- What is said of a kind and a key. -/
def formK (kd : Int) (s : ByteArray) : Bool := if kd == 1 || kd == 2 || kd == 3 then !s.toList.isEmpty else kd == 4 || kd == 5 || kd == 6 || kd == 8
set_option maxHeartbeats 800000 in
theorem formf_any (x : Cal) (w : World) (h7 : (x.kd == 7) = false) : Calls Try.prog 34 #[.agg #[.int .i64 x.kd, .string x.key, .string x.val, .string x.to_, .slice x.ga x.gn x.gc]] w fun e w' => e = .returned (.bool (formF x)) ∧ Below w.heap.size w w' := by
  have hz : formF x = formK x.kd x.key := rfl
  rw [hz]
  clear hz
  generalize x.kd = kd at *
  generalize x.key = s1 at *
  generalize x.val = s2 at *
  generalize x.to_ = s3 at *
  generalize x.ga = x4 at *
  generalize x.gn = x5 at *
  generalize x.gc = x6 at *
  obtain ⟨z, hz⟩ : ∃ z, formK kd s1 = z := ⟨_, rfl⟩
  have HZ := Lib.hid hz
  rw [hz]
  clear hz
  rcases kinds kd with rfl | rfl | rfl | rfl | rfl | rfl | rfl | rfl | ⟨k1, k2, k3, k4, k5, k6, k7, k8⟩
  case inr.inr.inr.inr.inr.inr.inl => cases h7
  all_goals
    go_enter Try.func34, Try.ntmps34
    go_wp2
    go_ret
    refine ⟨?_, (Below.refl _ _).alloc (Nat.le_refl _) _⟩
    rw [← HZ.out]
    unfold formK
    first | rfl | (simp [*])
set_option maxHeartbeats 800000 in
theorem member_any (x : Cal) (w : World) : Calls Try.prog 68 #[.agg #[.int .i64 x.kd, .string x.key, .string x.val, .string x.to_, .slice x.ga x.gn x.gc]] w fun e w' => e = .returned (.bool (memB x)) ∧ Below w.heap.size w w' := by
  have HC := Lib.hid (fun w1 => chg_any x w1)
  have HF : Hid ((chgB x || x.kd == 4) = true → ∀ w1, Calls Try.prog 34 #[.agg #[.int .i64 x.kd, .string x.key, .string x.val, .string x.to_, .slice x.ga x.gn x.gc]] w1 fun e w' => e = .returned (.bool (memB x)) ∧ Below w1.heap.size w1 w') := fun h w1 => by
    have h7 : (x.kd == 7) = false := by
      unfold chgB at h
      simp only [Bool.or_eq_true, beq_iff_eq] at h
      simp only [beq_eq_false_iff_ne]
      omega
    have := formf_any x w1 h7
    have e : formF x = memB x := by
      unfold chgB at h
      unfold formF memB chgB
      simp only [Bool.or_eq_true, beq_iff_eq] at h
      rcases h with (h | h) | h <;> simp [h]
    rwa [e] at this
  have HN : Hid (chgB x = false → (x.kd == 4) = false → memB x = false) := fun h1 h2 => by unfold memB; rw [h1, h2]; rfl
  obtain ⟨g, hg⟩ : ∃ g, w.heap.size = g := ⟨_, rfl⟩
  obtain ⟨w1, hw1⟩ : ∃ w1, w.alloc (.cells #[.int .i64 x.kd, .string x.key, .string x.val, .string x.to_, .slice x.ga x.gn x.gc] 31) = w1 := ⟨_, rfl⟩
  have HXg : Hid (CBox w1 g x) := by rw [← hw1, ← hg]; exact heap_alloc_new w _
  have HBg : Hid (Below g w w1) := by rw [← hw1, ← hg]; exact (Below.refl _ _).alloc (Nat.le_refl _) _
  have HGg : Hid (w.heap.size = g) := hg
  rw [hg]
  obtain ⟨c0, c1, c2, c3, c4⟩ := HXg.out.at_
  generalize memB x = m at *
  generalize chgB x = z at *
  cases z with
  | true =>
    have HF2 := Lib.hid (HF.out rfl)
    go_enter Try.func68, Try.ntmps68
    go_wp2_with fail
    refine (HC.out w1).mono ?_
    clear hg hw1 c0 c1 c2 c3 c4
    rintro e w2 ⟨rfl, hb2⟩
    have HB2 : Hid (Below g w w2) := HBg.out.trans (hb2.mono (Nat.le_of_lt HXg.out.lt))
    have HL2 : Hid (g ≤ w2.heap.size) := Nat.le_trans (Nat.le_of_lt HXg.out.lt) hb2.size
    obtain ⟨c0, c1, c2, c3, c4⟩ := (HXg.out.below hb2 HXg.out.lt).at_
    clear hb2
    go_wp2_with fail
    refine (HF2.out w2).mono ?_
    rintro e w3 ⟨rfl, hb3⟩
    have HB3 : Hid (Below g w w3) := HB2.out.trans (hb3.mono HL2.out)
    clear hb3 c0 c1 c2 c3 c4
    go_wp2
    go_ret
    exact ⟨rfl, HB3.out⟩
  | false =>
    by_cases h4 : x.kd = 4
    · have h4b : (x.kd == 4) = true := by simpa using h4
      have HF2 := Lib.hid (HF.out (by simpa using h4))
      clear h4
      go_enter Try.func68, Try.ntmps68
      go_wp2_with fail
      refine (HC.out w1).mono ?_
      clear hg hw1 c0 c1 c2 c3 c4
      rintro e w2 ⟨rfl, hb2⟩
      have HB2 : Hid (Below g w w2) := HBg.out.trans (hb2.mono (Nat.le_of_lt HXg.out.lt))
      have HL2 : Hid (g ≤ w2.heap.size) := Nat.le_trans (Nat.le_of_lt HXg.out.lt) hb2.size
      obtain ⟨c0, c1, c2, c3, c4⟩ := (HXg.out.below hb2 HXg.out.lt).at_
      clear hb2
      go_wp2_with fail
      refine (HF2.out w2).mono ?_
      rintro e w3 ⟨rfl, hb3⟩
      have HB3 : Hid (Below g w w3) := HB2.out.trans (hb3.mono HL2.out)
      clear hb3 c0 c1 c2 c3 c4
      go_wp2
      go_ret
      exact ⟨rfl, HB3.out⟩
    · have h4b : (x.kd == 4) = false := by simpa using h4
      obtain rfl := HN.out rfl h4b
      clear h4
      go_enter Try.func68, Try.ntmps68
      go_wp2_with fail
      refine (HC.out w1).mono ?_
      clear hg hw1 c0 c1 c2 c3 c4
      rintro e w2 ⟨rfl, hb2⟩
      have HB2 : Hid (Below g w w2) := HBg.out.trans (hb2.mono (Nat.le_of_lt HXg.out.lt))
      obtain ⟨c0, c1, c2, c3, c4⟩ := (HXg.out.below hb2 HXg.out.lt).at_
      clear hb2
      go_wp2
      go_ret
      exact ⟨rfl, HB2.out⟩
set_option maxHeartbeats 800000 in
theorem shares_any (c : Cal) (w : World) (A : Option Addr) (l : List Cal) (n cap : Nat) (hn : l.length = n) (hr : RC.Row w A l) : Calls Try.prog 69 #[.slice A n cap, .agg #[.int .i64 c.kd, .string c.key, .string c.val, .string c.to_, .slice c.ga c.gn c.gc]] w fun e w' => e = .returned (.bool (sharesB l c)) ∧ Below w.heap.size w w' := by
  have HC := Lib.hid (fun w1 => chg_any c w1)
  obtain ⟨g, hg⟩ : ∃ g, w.heap.size = g := ⟨_, rfl⟩
  obtain ⟨w1, hw1⟩ : ∃ w1, w.alloc (.cells #[.int .i64 c.kd, .string c.key, .string c.val, .string c.to_, .slice c.ga c.gn c.gc] 31) = w1 := ⟨_, rfl⟩
  have HXg : Hid (CBox w1 g c) := by rw [← hw1, ← hg]; exact heap_alloc_new w _
  have HBg : Hid (Below g w w1) := by rw [← hw1, ← hg]; exact (Below.refl _ _).alloc (Nat.le_refl _) _
  have HGg : Hid (w.heap.size = g) := hg
  have hr1 := hr.below (w' := w1) (hg ▸ HBg.out)
  rw [hg]
  have HK : Hid (∀ w2, Below w1.heap.size w1 w2 → Calls Try.prog 61 #[.slice A n cap, .func (.func 83) #[] #[.pointer (some ⟨g, 0, none⟩)]] w2 fun e w' => e = .returned (.bool (l.any (shB c))) ∧ Below w2.heap.size w2 w') := fun w2 hb => by
    have hx2 := HXg.out.below hb HXg.out.lt
    exact containsc_any n cap hn (hr1.below hb) 83 #[.pointer (some ⟨g, 0, none⟩)] #[] (shB c) rfl (enters_of Try.func83 (by kernel_rfl) rfl) (fun W hW x _ => shares1_any c x g W (hx2.below hW hx2.lt))
  unfold sharesB
  obtain ⟨c0, c1, c2, c3, c4⟩ := HXg.out.at_
  generalize l.any (shB c) = y at *
  generalize chgB c = z at *
  clear hr1 hr
  go_enter Try.func69, Try.ntmps69
  go_wp2_with fail
  refine (HC.out w1).mono ?_
  clear hg hw1 c0 c1 c2 c3 c4
  rintro e w2 ⟨rfl, hb2⟩
  have HB2 : Hid (Below g w w2) := HBg.out.trans (hb2.mono (Nat.le_of_lt HXg.out.lt))
  have HL2 : Hid (g ≤ w2.heap.size) := Nat.le_trans (Nat.le_of_lt HXg.out.lt) hb2.size
  have HK2 := Lib.hid (HK.out w2 hb2)
  clear hb2
  cases z with
  | true =>
    go_wp2_with fail
    refine HK2.out.mono ?_
    rintro e w3 ⟨rfl, hb3⟩
    have HB3 : Hid (Below g w w3) := HB2.out.trans (hb3.mono HL2.out)
    clear hb3
    go_wp2
    go_ret
    exact ⟨rfl, HB3.out⟩
  | false =>
    go_wp2
    go_ret
    exact ⟨rfl, HB2.out⟩

end Go.Proofs.Ytpmgnhijiodbaaa
