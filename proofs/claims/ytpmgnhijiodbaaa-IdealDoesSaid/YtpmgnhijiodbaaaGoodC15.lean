/-
  Proved here: which calls are good, as the program tells it.
  Conditions: a group's calls have no group; rows of at most 2^20 calls.
-/
import Derived.Test.YtpmgnhijiodbaaaGroup15
namespace Go.Proofs.Ytpmgnhijiodbaaa
open Go Go.RowKit
set_option maxRecDepth 100000

/-- A call's group in memory; its calls have none. -/
structure Grp (w : World) (c : Cal) (G : List Cal) : Prop where
  row : RC.Row w c.ga G
  len : G.length = c.gn
  cap : c.gn ≤ c.gc
  mx : c.gc ≤ maxLen
  nil : c.ga = none → c.gc = 0
  flat : ∀ x ∈ G, x.gn = 0 ∧ x.gc ≤ maxLen ∧ (x.ga = none → x.gc = 0)
theorem Grp.below {w w' : World} {c : Cal} {G : List Cal} (h : Grp w c G) (hb : Below w.heap.size w w') : Grp w' c G := ⟨h.row.below hb, h.len, h.cap, h.mx, h.nil, h.flat⟩
theorem grp_flat {x : Cal} (w : World) (h : x.gn = 0 ∧ x.gc ≤ maxLen ∧ (x.ga = none → x.gc = 0)) : Grp w x [] := ⟨RC.row_nil _ _, h.1.symm, by rw [h.1]; exact Nat.zero_le _, h.2.1, h.2.2, fun x hx => by cases hx⟩
def formC (c : Cal) (G : List Cal) : Bool := if c.kd == 7 then grpB G else formF c
def longC (c : Cal) (G : List Cal) : Bool := if c.kd == 7 then G.any longF else longF c
def goodN (c : Cal) (G : List Cal) : Int := if formC c G = true then (if longC c G = true then 5 else 0) else 1
set_option maxHeartbeats 800000 in
theorem formed_grp (c : Cal) (G : List Cal) (w : World) (hG : Grp w c G) (h7 : c.kd = 7) : Calls Try.prog 34 #[.agg #[.int .i64 c.kd, .string c.key, .string c.val, .string c.to_, .slice c.ga c.gn c.gc]] w fun e w' => e = .returned (.bool (grpB G)) ∧ Below w.heap.size w w' := by
  obtain ⟨g, hg⟩ : ∃ g, w.heap.size = g := ⟨_, rfl⟩
  obtain ⟨w1, hw1⟩ : ∃ w1, w.alloc (.cells #[.int .i64 c.kd, .string c.key, .string c.val, .string c.to_, .slice c.ga c.gn c.gc] 31) = w1 := ⟨_, rfl⟩
  have HXg : Hid (CBox w1 g c) := by rw [← hw1, ← hg]; exact heap_alloc_new w _
  have HBg : Hid (Below g w w1) := by rw [← hw1, ← hg]; exact (Below.refl _ _).alloc (Nat.le_refl _) _
  have HGg : Hid (w.heap.size = g) := hg
  have hG1 := hG.below (w' := w1) (hg ▸ HBg.out)
  rw [hg]
  have HK := Lib.hid (group_any w1 c.ga G c.gn c.gc hG.len hG1.row hG.cap hG.mx)
  have HL : Hid (g ≤ w1.heap.size) := Nat.le_of_lt HXg.out.lt
  obtain ⟨c0, c1, c2, c3, c4⟩ := HXg.out.at_
  rw [h7] at *
  generalize grpB G = z at *
  clear hG hG1 h7
  go_enter Try.func34, Try.ntmps34
  go_wp2_with fail
  refine HK.out.mono ?_
  clear hg hw1
  rintro e w2 ⟨rfl, hb2⟩
  have HB2 : Hid (Below g w w2) := HBg.out.trans (hb2.mono HL.out)
  clear hb2 c0 c1 c2 c3 c4
  go_wp2
  go_ret
  exact ⟨rfl, HB2.out⟩
theorem formed_any (c : Cal) (G : List Cal) (w : World) (hG : Grp w c G) : Calls Try.prog 34 #[.agg #[.int .i64 c.kd, .string c.key, .string c.val, .string c.to_, .slice c.ga c.gn c.gc]] w fun e w' => e = .returned (.bool (formC c G)) ∧ Below w.heap.size w w' := by
  unfold formC
  cases h7 : c.kd == 7 with
  | false => exact formf_any c w h7
  | true => exact formed_grp c G w hG (by simpa using h7)
/-- What is said of a kind and its texts. -/
def longN (kd : Int) (a b c : Bool) : Bool := if kd == 1 || kd == 3 then a else if kd == 2 then a || b else if kd == 4 then b else if kd == 6 then a || c else false
theorem longF_eq (x : Cal) : longF x = longN x.kd (longK x.key) (longV x.val) (longK x.to_) := rfl
set_option maxHeartbeats 1600000 in
theorem toobig_not (x : Cal) (w : World) (h7 : (x.kd == 7) = false) : Calls Try.prog 35 #[.agg #[.int .i64 x.kd, .string x.key, .string x.val, .string x.to_, .slice x.ga x.gn x.gc]] w fun e w' => e = .returned (.bool (longF x)) ∧ Below w.heap.size w w' := by
  have HA := Lib.hid (fun w1 => longk_any x.key w1)
  have HV := Lib.hid (fun w1 => longv_any x.val w1)
  have HT := Lib.hid (fun w1 => longk_any x.to_ w1)
  rw [longF_eq]
  generalize longK x.key = a at *
  generalize longV x.val = b at *
  generalize longK x.to_ = d at *
  generalize x.kd = kd at *
  generalize x.key = s1 at *
  generalize x.val = s2 at *
  generalize x.to_ = s3 at *
  generalize x.ga = x4 at *
  generalize x.gn = x5 at *
  generalize x.gc = x6 at *
  obtain ⟨z, hz⟩ : ∃ z, longN kd a b d = z := ⟨_, rfl⟩
  have HZ := Lib.hid hz
  rw [hz]
  clear hz
  rcases kinds kd with rfl | rfl | rfl | rfl | rfl | rfl | rfl | rfl | ⟨k1, k2, k3, k4, k5, k6, k7, k8⟩
  case inr.inr.inr.inr.inr.inr.inl => cases h7
  case inl =>
    go_enter Try.func35, Try.ntmps35
    go_wp2_with fail
    refine (HA.out _).mono ?_
    rintro e w2 ⟨rfl, rfl⟩
    go_wp2
    go_ret
    exact ⟨by rw [← HZ.out]; rfl, (Below.refl _ _).alloc (Nat.le_refl _) _⟩
  case inr.inr.inl =>
    go_enter Try.func35, Try.ntmps35
    go_wp2_with fail
    refine (HA.out _).mono ?_
    rintro e w2 ⟨rfl, rfl⟩
    go_wp2
    go_ret
    exact ⟨by rw [← HZ.out]; rfl, (Below.refl _ _).alloc (Nat.le_refl _) _⟩
  case inr.inr.inr.inl =>
    go_enter Try.func35, Try.ntmps35
    go_wp2_with fail
    refine (HV.out _).mono ?_
    rintro e w2 ⟨rfl, rfl⟩
    go_wp2
    go_ret
    exact ⟨by rw [← HZ.out]; rfl, (Below.refl _ _).alloc (Nat.le_refl _) _⟩
  case inr.inl =>
    cases a
    · go_enter Try.func35, Try.ntmps35
      go_wp2_with fail
      refine (HA.out _).mono ?_
      rintro e w2 ⟨rfl, rfl⟩
      go_wp2_with fail
      refine (HV.out _).mono ?_
      rintro e w2 ⟨rfl, rfl⟩
      go_wp2
      go_ret
      exact ⟨by rw [← HZ.out]; rfl, (Below.refl _ _).alloc (Nat.le_refl _) _⟩
    · go_enter Try.func35, Try.ntmps35
      go_wp2_with fail
      refine (HA.out _).mono ?_
      rintro e w2 ⟨rfl, rfl⟩
      go_wp2
      go_ret
      exact ⟨by rw [← HZ.out]; rfl, (Below.refl _ _).alloc (Nat.le_refl _) _⟩
  case inr.inr.inr.inr.inr.inl =>
    cases a
    · go_enter Try.func35, Try.ntmps35
      go_wp2_with fail
      refine (HA.out _).mono ?_
      rintro e w2 ⟨rfl, rfl⟩
      go_wp2_with fail
      refine (HT.out _).mono ?_
      rintro e w2 ⟨rfl, rfl⟩
      go_wp2
      go_ret
      exact ⟨by rw [← HZ.out]; rfl, (Below.refl _ _).alloc (Nat.le_refl _) _⟩
    · go_enter Try.func35, Try.ntmps35
      go_wp2_with fail
      refine (HA.out _).mono ?_
      rintro e w2 ⟨rfl, rfl⟩
      go_wp2
      go_ret
      exact ⟨by rw [← HZ.out]; rfl, (Below.refl _ _).alloc (Nat.le_refl _) _⟩
  all_goals
    go_enter Try.func35, Try.ntmps35
    go_wp2
    go_ret
    refine ⟨?_, (Below.refl _ _).alloc (Nat.le_refl _) _⟩
    rw [← HZ.out]
    unfold longN
    first | rfl | (simp [*])
set_option maxHeartbeats 800000 in
/-- A group's longest, given what is said of its calls. -/
theorem toobig_grp (c : Cal) (G : List Cal) (w : World) (hG : Grp w c G) (h7 : c.kd = 7) (hp : ∀ W, ∀ x ∈ G, Calls Try.prog 35 #[.agg #[.int .i64 x.kd, .string x.key, .string x.val, .string x.to_, .slice x.ga x.gn x.gc]] W fun e w' => e = .returned (.bool (longF x)) ∧ Below W.heap.size W w') : Calls Try.prog 35 #[.agg #[.int .i64 c.kd, .string c.key, .string c.val, .string c.to_, .slice c.ga c.gn c.gc]] w fun e w' => e = .returned (.bool (G.any longF)) ∧ Below w.heap.size w w' := by
  obtain ⟨g, hg⟩ : ∃ g, w.heap.size = g := ⟨_, rfl⟩
  obtain ⟨w1, hw1⟩ : ∃ w1, w.alloc (.cells #[.int .i64 c.kd, .string c.key, .string c.val, .string c.to_, .slice c.ga c.gn c.gc] 31) = w1 := ⟨_, rfl⟩
  have HXg : Hid (CBox w1 g c) := by rw [← hw1, ← hg]; exact heap_alloc_new w _
  have HBg : Hid (Below g w w1) := by rw [← hw1, ← hg]; exact (Below.refl _ _).alloc (Nat.le_refl _) _
  have HGg : Hid (w.heap.size = g) := hg
  have hG1 := hG.below (w' := w1) (hg ▸ HBg.out)
  rw [hg]
  have HK : Hid (Calls Try.prog 61 #[.slice c.ga c.gn c.gc, .func (.func 35) #[] #[]] w1 fun e w' => e = .returned (.bool (G.any longF)) ∧ Below w1.heap.size w1 w') :=
    containsc_any c.gn c.gc hG.len hG1.row 35 #[] #[] longF rfl (enters_of Try.func35 (by kernel_rfl) rfl) (fun W _ x hx => hp W x hx)
  have HL : Hid (g ≤ w1.heap.size) := Nat.le_of_lt HXg.out.lt
  obtain ⟨c0, c1, c2, c3, c4⟩ := HXg.out.at_
  rw [h7] at *
  generalize G.any longF = z at *
  clear hG hG1 hp h7
  go_enter Try.func35, Try.ntmps35
  go_wp2_with fail
  refine HK.out.mono ?_
  clear hg hw1
  rintro e w2 ⟨rfl, hb2⟩
  have HB2 : Hid (Below g w w2) := HBg.out.trans (hb2.mono HL.out)
  clear hb2 c0 c1 c2 c3 c4
  go_wp2
  go_ret
  exact ⟨rfl, HB2.out⟩
theorem longF_7 {x : Cal} (h : x.kd = 7) : longF x = false := by unfold longF; rw [h]; rfl
theorem toobig_flat (x : Cal) (w : World) (h : x.gn = 0 ∧ x.gc ≤ maxLen ∧ (x.ga = none → x.gc = 0)) : Calls Try.prog 35 #[.agg #[.int .i64 x.kd, .string x.key, .string x.val, .string x.to_, .slice x.ga x.gn x.gc]] w fun e w' => e = .returned (.bool (longF x)) ∧ Below w.heap.size w w' := by
  cases h7 : x.kd == 7 with
  | false => exact toobig_not x w h7
  | true =>
    have h7' : x.kd = 7 := by simpa using h7
    rw [longF_7 h7']
    exact toobig_grp x [] w (grp_flat w h) h7' (fun W x hx => by cases hx)
theorem toobig_any (c : Cal) (G : List Cal) (w : World) (hG : Grp w c G) : Calls Try.prog 35 #[.agg #[.int .i64 c.kd, .string c.key, .string c.val, .string c.to_, .slice c.ga c.gn c.gc]] w fun e w' => e = .returned (.bool (longC c G)) ∧ Below w.heap.size w w' := by
  unfold longC
  cases h7 : c.kd == 7 with
  | false => exact toobig_not c w h7
  | true => exact toobig_grp c G w hG (by simpa using h7) (fun W x hx => toobig_flat x W (hG.flat x hx))
set_option maxHeartbeats 800000 in
theorem good_any (c : Cal) (G : List Cal) (w : World) (hG : Grp w c G) : Calls Try.prog 16 #[.agg #[.int .i64 c.kd, .string c.key, .string c.val, .string c.to_, .slice c.ga c.gn c.gc]] w fun e w' => e = .returned (.int .i64 (goodN c G)) ∧ Below w.heap.size w w' := by
  obtain ⟨g, hg⟩ : ∃ g, w.heap.size = g := ⟨_, rfl⟩
  obtain ⟨w1, hw1⟩ : ∃ w1, w.alloc (.cells #[.int .i64 c.kd, .string c.key, .string c.val, .string c.to_, .slice c.ga c.gn c.gc] 31) = w1 := ⟨_, rfl⟩
  have HXg : Hid (CBox w1 g c) := by rw [← hw1, ← hg]; exact heap_alloc_new w _
  have HBg : Hid (Below g w w1) := by rw [← hw1, ← hg]; exact (Below.refl _ _).alloc (Nat.le_refl _) _
  have HGg : Hid (w.heap.size = g) := hg
  have hG1 := hG.below (w' := w1) (hg ▸ HBg.out)
  rw [hg]
  have HF := Lib.hid (formed_any c G w1 hG1)
  have HT : Hid (∀ w2, Below w1.heap.size w1 w2 → Calls Try.prog 35 #[.agg #[.int .i64 c.kd, .string c.key, .string c.val, .string c.to_, .slice c.ga c.gn c.gc]] w2 fun e w' => e = .returned (.bool (longC c G)) ∧ Below w2.heap.size w2 w') := fun w2 hb => toobig_any c G w2 (hG1.below hb)
  have HL : Hid (g ≤ w1.heap.size) := Nat.le_of_lt HXg.out.lt
  obtain ⟨c0, c1, c2, c3, c4⟩ := HXg.out.at_
  obtain ⟨z, hz⟩ : ∃ z, goodN c G = z := ⟨_, rfl⟩
  have HZ : Hid ((if formC c G = true then (if longC c G = true then (5 : Int) else 0) else 1) = z) := hz
  rw [hz]
  generalize formC c G = f at *
  generalize longC c G = l at *
  clear hG hG1 hz
  cases f with
  | false =>
    obtain rfl : (1 : Int) = z := HZ.out
    go_enter Try.func16, Try.ntmps16
    go_wp2_with fail
    refine HF.out.mono ?_
    clear hg hw1
    rintro e w2 ⟨rfl, hb2⟩
    have HB2 : Hid (Below g w w2) := HBg.out.trans (hb2.mono HL.out)
    clear hb2 c0 c1 c2 c3 c4
    go_wp2
    go_ret
    exact ⟨rfl, HB2.out⟩
  | true =>
    cases l
    case' false => obtain rfl : (0 : Int) = z := HZ.out
    case' true => obtain rfl : (5 : Int) = z := HZ.out
    all_goals
      go_enter Try.func16, Try.ntmps16
      go_wp2_with fail
      refine HF.out.mono ?_
      clear hg hw1
      rintro e w2 ⟨rfl, hb2⟩
      have HB2 : Hid (Below g w w2) := HBg.out.trans (hb2.mono HL.out)
      have HL2 : Hid (g ≤ w2.heap.size) := Nat.le_trans HL.out hb2.size
      have HT2 := Lib.hid (HT.out w2 hb2)
      have HX2 := Lib.hid (HXg.out.below hb2 HXg.out.lt)
      clear c0 c1 c2 c3 c4 hb2
      obtain ⟨d0, d1, d2, d3, d4⟩ := HX2.out.at_
      go_wp2_with fail
      refine HT2.out.mono ?_
      rintro e w3 ⟨rfl, hb3⟩
      have HB3 : Hid (Below g w w3) := HB2.out.trans (hb3.mono HL2.out)
      clear hb3 d0 d1 d2 d3 d4
      go_wp2
      go_ret
      exact ⟨rfl, HB3.out⟩

end Go.Proofs.Ytpmgnhijiodbaaa
