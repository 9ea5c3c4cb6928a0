/-
  Proved here: two answers, two calls that are the same.
  Conditions: rows of at most 2^20.
-/
import Derived.Test.YtimpigponjkfkaaCCallB15
import Derived.Test.YtimpigponjkfkaaGot15
import Derived.Deep.CutRange
import Derived.Deep.RegionHeld3
namespace Go.Proofs.Ytimpigponjkfkaa
open Go Go.RowKit
set_option maxRecDepth 100000

set_option maxHeartbeats 800000 in
/-- Two answers that say the same. -/
theorem samea_any {w : World} {A B A2 B2 : Option Addr} {n c m d c2 d2 : Nat} {L : List Kv} {H : List Bool} (cd : Int) (f : Bool) (v : ByteArray) (ep : Int) (hn : L.length = n) (hm : H.length = m) (h1 : RP.Row w A L) (h2 : RP.Row w A2 L) (h3 : RB.Row w B H) (h4 : RB.Row w B2 H) :
    Calls Try.prog 24 #[.agg #[.int .i64 cd, .bool f, .string v, .slice A n c, .slice B m d, .int .u64 ep], .agg #[.int .i64 cd, .bool f, .string v, .slice A2 n c2, .slice B2 m d2, .int .u64 ep]] w fun e w' => e = .returned (.bool true) ∧ Below w.heap.size w w' := by
  obtain ⟨g, hg⟩ : ∃ g, w.heap.size = g := ⟨_, rfl⟩
  obtain ⟨w1, hw1⟩ : ∃ w1, w.alloc (.cells #[.int .i64 cd, .bool f, .string v, .slice A n c, .slice B m d, .int .u64 ep] 40) = w1 := ⟨_, rfl⟩
  have HS1 : Hid (w1.heap[g]? = some (.cells #[.int .i64 cd, .bool f, .string v, .slice A n c, .slice B m d, .int .u64 ep] 40 (0, 0))) := by rw [← hw1, ← hg]; exact heap_alloc_new w _
  have HB1 : Hid (Below g w w1) := by rw [← hw1, ← hg]; exact (Below.refl _ _).alloc (Nat.le_refl _) _
  obtain ⟨g2, hg2⟩ : ∃ g, w1.heap.size = g := ⟨_, rfl⟩
  obtain ⟨w2, hw2⟩ : ∃ w2, w1.alloc (.cells #[.int .i64 cd, .bool f, .string v, .slice A2 n c2, .slice B2 m d2, .int .u64 ep] 40) = w2 := ⟨_, rfl⟩
  have HLT : Hid (g < g2) := by rw [← hg2]; exact lt_of_heap HS1.out
  have HS2 : Hid (w2.heap[g2]? = some (.cells #[.int .i64 cd, .bool f, .string v, .slice A2 n c2, .slice B2 m d2, .int .u64 ep] 40 (0, 0))) := by rw [← hw2, ← hg2]; exact heap_alloc_new w1 _
  have HB2' : Hid (Below g2 w1 w2) := by rw [← hw2, ← hg2]; exact (Below.refl _ _).alloc (Nat.le_refl _) _
  have HS12 : Hid (w2.heap[g]? = some (.cells #[.int .i64 cd, .bool f, .string v, .slice A n c, .slice B m d, .int .u64 ep] 40 (0, 0))) := (HB2'.out.block g HLT.out).trans HS1.out
  have HB2 : Hid (Below g w w2) := HB1.out.trans (HB2'.out.mono (Nat.le_of_lt HLT.out))
  have HSP : Hid (∀ k', Calls Try.prog 33 #[.slice A n c, .slice A2 n c2] (w2.drewN k') fun e w' => e = .returned (.bool true) ∧ ∃ k, w' = (w2.drewN k').drewN k) := fun k' => samep_any _ A A2 n c c2 L hn (h1.below (hg.symm ▸ below_drewN HB2.out k')) (h2.below (hg.symm ▸ below_drewN HB2.out k'))
  have HST : Hid (∀ k', Calls Try.prog 48 #[.slice B m d, .slice B2 m d2] (w2.drewN k') fun e w' => e = .returned (.bool true) ∧ ∃ k, w' = (w2.drewN k').drewN k) := fun k' => sameb_any _ B B2 m d d2 H hm (h3.below (hg.symm ▸ below_drewN HB2.out k')) (h4.below (hg.symm ▸ below_drewN HB2.out k'))
  obtain ⟨p0, p1, p2, p3, p4, p5⟩ := cells6 HS12.out
  obtain ⟨q0, q1, q2, q3, q4, q5⟩ := cells6 HS2.out
  have e1 : (cd == cd) = true := by simp
  have e2 : (f == f) = true := by simp
  have e3 : (v.toList == v.toList) = true := by simp
  have e4 : (ep == ep) = true := by simp
  rw [hg]
  clear h1 h2 h3 h4 hn hm
  go_enter Try.func24, Try.ntmps24
  go_wp2_with fail
  refine (HSP.out 0).mono ?_
  clear hw1 hw2 hg hg2
  rintro e w3 ⟨rfl, k3, rfl⟩
  have e0 : (w2.drewN 0).drewN k3 = w2.drewN k3 := below_drewN0 w2 k3
  rw [e0]
  go_wp2_with fail
  refine (HST.out k3).mono ?_
  rintro e w4 ⟨rfl, k4, rfl⟩
  go_wp2
  go_ret
  exact ⟨rfl, below_drewN HB2.out _⟩
/-- Two calls of groups in variables of their own. -/
def TwoC (w : World) (z y : Cal) (s6 s7 : Value) (wx : World) : Prop :=
  ∃ gx gy, s6 = .pointer (some ⟨gx, 0, none⟩) ∧ s7 = .pointer (some ⟨gy, 0, none⟩) ∧ wx.heap[gx]? = some (.cells #[.int .i64 z.kd, .string z.key, .string z.val, .string z.to_, .slice z.ga z.gn z.gc] 24 (0, 0)) ∧ wx.heap[gy]? = some (.cells #[.int .i64 y.kd, .string y.key, .string y.val, .string y.to_, .slice y.ga y.gn y.gc] 24 (0, 0)) ∧ Below w.heap.size w wx
abbrev objC (a b c d e : Value) : Obj := .cells #[a, b, c, d, e] 24 (0, 0)
theorem two_1 (w : World) (z y : Cal) : TwoC w z y (.pointer (some ⟨w.heap.size, 0, none⟩)) (.pointer (some ⟨w.heap.size + 1, 0, none⟩)) ((w.drew.alloc (objC (.int .i64 z.kd) (.string z.key) (.string z.val) (.string z.to_) (.slice z.ga z.gn z.gc))).alloc (objC (.int .i64 y.kd) (.string y.key) (.string y.val) (.string y.to_) (.slice y.ga y.gn y.gc))) :=
  ⟨_, _, rfl, rfl, alloc_old (heap_alloc_new w.drew _), alloc_two w.drew _ _, ((Below.refl _ _).drew.alloc (Nat.le_refl _) _).alloc (by simp) _⟩
theorem two_2 (w : World) (z y : Cal) : TwoC w z y (.pointer (some ⟨w.heap.size + 1, 0, none⟩)) (.pointer (some ⟨w.heap.size, 0, none⟩)) ((w.drew.alloc (objC (.int .i64 y.kd) (.string y.key) (.string y.val) (.string y.to_) (.slice y.ga y.gn y.gc))).alloc (objC (.int .i64 z.kd) (.string z.key) (.string z.val) (.string z.to_) (.slice z.ga z.gn z.gc))) :=
  ⟨_, _, rfl, rfl, alloc_two w.drew _ _, alloc_old (heap_alloc_new w.drew _), ((Below.refl _ _).drew.alloc (Nat.le_refl _) _).alloc (by simp) _⟩
set_option maxHeartbeats 3200000 in
theorem samec_any {w : World} {p q : Option Addr} {n cp cq : Nat} {G M : List Cal} (kd : Int) (key val to_ : ByteArray) (hn : G.length = n) (hM : RC.Row w p M) (hG : RC.Row w q G) (ha : AlikeL G M) :
    Calls Try.prog 59 #[.agg #[.int .i64 kd, .string key, .string val, .string to_, .slice p n cp], .agg #[.int .i64 kd, .string key, .string val, .string to_, .slice q n cq]] w fun e w' => e = .returned (.bool true) ∧ Below w.heap.size w w' := by
  obtain ⟨g, hg⟩ : ∃ g, w.heap.size = g := ⟨_, rfl⟩
  obtain ⟨w1, hw1⟩ : ∃ w1, w.alloc (.cells #[.int .i64 kd, .string key, .string val, .string to_, .slice p n cp] 24) = w1 := ⟨_, rfl⟩
  have HS1 : Hid (w1.heap[g]? = some (.cells #[.int .i64 kd, .string key, .string val, .string to_, .slice p n cp] 24 (0, 0))) := by rw [← hw1, ← hg]; exact heap_alloc_new w _
  have HB1 : Hid (Below g w w1) := by rw [← hw1, ← hg]; exact (Below.refl _ _).alloc (Nat.le_refl _) _
  obtain ⟨g2, hg2⟩ : ∃ g, w1.heap.size = g := ⟨_, rfl⟩
  obtain ⟨w2, hw2⟩ : ∃ w2, w1.alloc (.cells #[.int .i64 kd, .string key, .string val, .string to_, .slice q n cq] 24) = w2 := ⟨_, rfl⟩
  have HLT : Hid (g < g2) := by rw [← hg2]; exact lt_of_heap HS1.out
  have HS2 : Hid (w2.heap[g2]? = some (.cells #[.int .i64 kd, .string key, .string val, .string to_, .slice q n cq] 24 (0, 0))) := by rw [← hw2, ← hg2]; exact heap_alloc_new w1 _
  have HB2' : Hid (Below g2 w1 w2) := by rw [← hw2, ← hg2]; exact (Below.refl _ _).alloc (Nat.le_refl _) _
  have HS12 : Hid (w2.heap[g]? = some (.cells #[.int .i64 kd, .string key, .string val, .string to_, .slice p n cp] 24 (0, 0))) := (HB2'.out.block g HLT.out).trans HS1.out
  have HB2 : Hid (Below g w w2) := HB1.out.trans (HB2'.out.mono (Nat.le_of_lt HLT.out))
  have HRM : Hid (RC.Row w2 p M) := hM.below (hg.symm ▸ HB2.out)
  have HRG : Hid (RC.Row w2 q G) := hG.below (hg.symm ▸ HB2.out)
  have HAL := Lib.hid ha
  have HNL := Lib.hid hn
  have hnb : n ≤ 1048576 := by have := hG.1; omega
  obtain ⟨gz, hgz⟩ : ∃ z, w2.heap.size = z := ⟨_, rfl⟩
  have HGZ := Lib.hid hgz
  have HL1 : Hid (g < gz) := by rw [← hgz]; exact lt_of_heap HS12.out
  have HL2 : Hid (g2 < gz) := by rw [← hgz]; exact lt_of_heap HS2.out
  obtain ⟨p0, p1, p2, p3, p4⟩ := cells5 HS12.out
  obtain ⟨q0, q1, q2, q3, q4⟩ := cells5 HS2.out
  rw [hg]
  clear hM hG ha hn hgz
  go_enter Try.func59, Try.ntmps59
  go_wp2_with fail
  clear p0 p1 p2 p3 p4 q0 q1 q2 q3 q4 hw1 hw2 hg hg2
  go_loopg [5] n (fun gk s5 wx => ∃ i : Nat, i + gk = n ∧ s5 = .int .i64 i ∧ Hid (Below gz w2 wx))
  case atStart => exact ⟨0, by omega, rfl, Below.refl _ _⟩
  case round =>
    obtain ⟨i, hig, rfl, HW⟩ := hrel
    have HSa := Lib.hid ((HW.out.block g HL1.out).trans HS12.out)
    have HSb := Lib.hid ((HW.out.block g2 HL2.out).trans HS2.out)
    have HZr : Hid (gz ≤ wr.heap.size) := by have := HW.out.size; have := HGZ.out; show _ ≤ _; omega
    obtain ⟨-, -, -, -, p4⟩ := cells5 HSa.out
    obtain ⟨-, -, -, -, q4⟩ := cells5 HSb.out
    cases gk with
    | zero =>
      obtain rfl : i = n := by omega
      have hii : ¬ (i : Int) < (i : Int) := by omega
      go_wp2
      go_ret
      exact ⟨rfl, HB2.out.trans (HW.out.mono (Nat.le_of_lt HL1.out))⟩
    | succ gk =>
      have hii : (i : Int) < (n : Int) := by omega
      have hi0 : (0 : Int) ≤ (i : Int) := by omega
      obtain ⟨y, hy⟩ : ∃ y, G[i]? = some y := ⟨_, List.getElem?_eq_getElem (by have := HNL.out; omega)⟩
      obtain ⟨z, hz, al⟩ := HAL.out.2.1 i y hy
      obtain ⟨b1, o1, e1, hb1, k0, k1, k2, k3, k4⟩ := callAt (HRM.out.below (HGZ.out.symm ▸ HW.out)) hz
      obtain ⟨b2, o2, e2, hb2, l0, l1, l2, l3, l4⟩ := callAt (HRG.out.below (HGZ.out.symm ▸ HW.out)) hy
      subst e1
      subst e2
      have AL := Lib.hid al
      have hN1 : ¬ wr.heap.size = g := by have := HZr.out; have := HL1.out; omega
      have hN2 : ¬ wr.heap.size = g2 := by have := HZr.out; have := HL2.out; omega
      have hN3 : ¬ wr.heap.size = b1 := by omega
      have hN4 : ¬ wr.heap.size = b2 := by omega
      have hM1 : ¬ wr.heap.size + 1 = g := by have := HZr.out; have := HL1.out; omega
      have hM2 : ¬ wr.heap.size + 1 = g2 := by have := HZr.out; have := HL2.out; omega
      have hM3 : ¬ wr.heap.size + 1 = b1 := by omega
      have hM4 : ¬ wr.heap.size + 1 = b2 := by omega
      clear hy hz al hb1 hb2
      go_upto_region 6 with fail
      go_cut [6, 7] from 43 to 94 (fun s6 s7 wx => TwoC wr z y s6 s7 wx)
      case first =>
        go_region_held3 (fun v => v.cell? ⟨g, 4, none⟩ = some (.slice (some ⟨b1, o1, none⟩) n cp) ∧ v.cell? ⟨g2, 4, none⟩ = some (.slice (some ⟨b2, o2, none⟩) n cq) ∧ v.cell? ⟨b1, o1 + i * 5, none⟩ = some (.int .i64 z.kd) ∧ v.cell? ⟨b1, o1 + i * 5 + 1, none⟩ = some (.string z.key) ∧ v.cell? ⟨b1, o1 + i * 5 + 2, none⟩ = some (.string z.val) ∧ v.cell? ⟨b1, o1 + i * 5 + 3, none⟩ = some (.string z.to_) ∧ v.cell? ⟨b1, o1 + i * 5 + 4, none⟩ = some (.slice z.ga z.gn z.gc) ∧ v.cell? ⟨b2, o2 + i * 5, none⟩ = some (.int .i64 y.kd) ∧ v.cell? ⟨b2, o2 + i * 5 + 1, none⟩ = some (.string y.key) ∧ v.cell? ⟨b2, o2 + i * 5 + 2, none⟩ = some (.string y.val) ∧ v.cell? ⟨b2, o2 + i * 5 + 3, none⟩ = some (.string y.to_) ∧ v.cell? ⟨b2, o2 + i * 5 + 4, none⟩ = some (.slice y.ga y.gn y.gc)) (go_keep) (fail)
        · go_wp2
          go_meet
          case rel => exact two_1 wr z y
        · go_wp2
          go_meet
          case rel => exact two_2 wr z y
      case rest =>
        obtain ⟨gx, gy, rfl, rfl, hX, hY, hb⟩ := hcut
        obtain ⟨a1, a2, a3, a4, a5⟩ := AL.out
        have HB := Lib.hid hb
        obtain ⟨kd1, key1, val1, to1, ga1, gn1, gc1⟩ := z
        obtain ⟨kd2, key2, val2, to2, ga2, gn2, gc2⟩ := y
        dsimp only at a1 a2 a3 a4 a5 hX hY
        subst a1 a2 a3 a4 a5
        obtain ⟨x0, x1, x2, x3, x4⟩ := cells5 hX
        obtain ⟨y0, y1, y2, y3, y4⟩ := cells5 hY
        clear hX hY hb AL
        go_wp2
        go_roundg gk
        case measure => omega
        case rel => exact ⟨i + 1, by omega, by go_num, HW.out.trans (HB.out.mono HZr.out)⟩

end Go.Proofs.Ytimpigponjkfkaa
