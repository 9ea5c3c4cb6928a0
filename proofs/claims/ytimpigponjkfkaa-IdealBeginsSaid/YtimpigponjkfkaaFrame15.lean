/-
  Proved here: the first frame of a call, and when two such frames are the same.
  Conditions: rows of at most 2^20.
-/
import Derived.Test.YtimpigponjkfkaaSameC15
import Derived.Test.YtimpigponjkfkaaLent
import Derived.Deep.RegionHeld3
namespace Go.Proofs.Ytimpigponjkfkaa
open Go Go.RowKit
set_option maxRecDepth 100000

/-- A frame's cells: but for its call and its line all are noughts. -/
def frC (kd : Int) (a b c : ByteArray) (p : Option Addr) (n m : Nat) (ln : Int) : List Value := [.int .i64 kd, .string a, .string b, .string c, .slice p n m, .int .i64 0, .int .u64 0, .string ⟨#[]⟩, .bool false, .int .i64 0, .bool false, .string ⟨#[]⟩, .int .u64 0, .int .u64 0, .int .i64 0, .int .i64 0, .int .i64 ln, .int .i64 0, .int .i64 0, .slice none 0 0, .int .i64 0, .slice none 0 0, .int .i64 0, .bool false, .string ⟨#[]⟩, .slice none 0 0, .slice none 0 0, .int .u64 0]
theorem frame_info : (Try.prog.info? 70).map (fun i => (i.zero, i.size, i.bytes)) = some (some (.agg (frC 0 ⟨#[]⟩ ⟨#[]⟩ ⟨#[]⟩ none 0 0 0).toArray), 28, 352) := by kernel_rfl
theorem zero_frame : (Try.prog.info? 70).bind (·.zero) = some (.agg #[.int .i64 0, .string ⟨#[]⟩, .string ⟨#[]⟩, .string ⟨#[]⟩, .slice none 0 0, .int .i64 0, .int .u64 0, .string ⟨#[]⟩, .bool false, .int .i64 0, .bool false, .string ⟨#[]⟩, .int .u64 0, .int .u64 0, .int .i64 0, .int .i64 0, .int .i64 0, .int .i64 0, .int .i64 0, .slice none 0 0, .int .i64 0, .slice none 0 0, .int .i64 0, .bool false, .string ⟨#[]⟩, .slice none 0 0, .slice none 0 0, .int .u64 0]) := by
  obtain ⟨i, e⟩ : ∃ i, Try.prog.info? 70 = some i := by
    cases h : Try.prog.info? 70 with
    | none => have := frame_info; rw [h] at this; cases this
    | some i => exact ⟨i, rfl⟩
  have := frame_info
  rw [e] at this ⊢
  injection this with h
  injection h with h1 h2
theorem size_frame : (Try.prog.info? 70).map (·.size) = some 28 := by
  obtain ⟨i, e⟩ : ∃ i, Try.prog.info? 70 = some i := by
    cases h : Try.prog.info? 70 with
    | none => have := frame_info; rw [h] at this; cases this
    | some i => exact ⟨i, rfl⟩
  have := frame_info
  rw [e] at this ⊢
  injection this with h
  injection h with h1 h2
  injection h2 with h3 h4
  show some i.size = some 28
  rw [h3]
def FBox (w : World) (g : Nat) (kd : Int) (a b c : ByteArray) (p : Option Addr) (n m : Nat) (ln : Int) : Prop := w.heap[g]? = some (.cells (frC kd a b c p n m ln).toArray 70 (0, 0))
theorem FBox.at_ {w : World} {g : Nat} {kd : Int} {a b c : ByteArray} {p : Option Addr} {n m : Nat} {ln : Int} (h : FBox w g kd a b c p n m ln) : ∀ j v, (frC kd a b c p n m ln)[j]? = some v → w.cell? ⟨g, j, none⟩ = some v := fun j v hj => by
  unfold FBox at h
  simp [World.cell?, h]
  simpa using hj
theorem parts_nil (w : World) : Calls Try.prog 58 #[.slice none 0 0, .slice none 0 0] w fun e w' => e = .returned (.bool true) ∧ w = w' := by
  go_enter Try.func58, Try.ntmps58
  go_wp2_with fail
  go_loopg [5] 0 (fun gk s5 wx => gk = 0 ∧ s5 = .int .i64 0 ∧ wx = w)
  case atStart => exact ⟨rfl, rfl, rfl⟩
  case round =>
    obtain ⟨rfl, rfl, rfl⟩ := hrel
    go_wp2
    go_ret
    exact ⟨rfl, rfl⟩
theorem bytes_nil (w : World) : Calls Try.prog 57 #[.slice none 0 0, .slice none 0 0] w fun e w' => e = .returned (.bool true) ∧ w = w' := same_any w none none 0 0 0 0 [] [] rfl rfl (row_nil _ _) (row_nil _ _)
theorem frC_one (kd : Int) (a b c : ByteArray) (p : Option Addr) (n m : Nat) (ln : Int) : (frC kd a b c p n m ln).toArray.all (·.oneCell') = true := all_oneCell_toArray (cs := frC kd a b c p n m ln) (fun u hu => by
  simp only [frC, List.mem_cons, List.not_mem_nil, or_false] at hu
  rcases hu with rfl | rfl | rfl | rfl | rfl | rfl | rfl | rfl | rfl | rfl | rfl | rfl | rfl | rfl | rfl | rfl | rfl | rfl | rfl | rfl | rfl | rfl | rfl | rfl | rfl | rfl | rfl | rfl <;> rfl)
def BeginTo (w : World) (x : Cal) (G : List Cal) (e : Ending) (w' : World) : Prop :=
  ∃ A c M, e = .returned (.agg (frC x.kd x.key x.val x.to_ A x.gn c (-1)).toArray) ∧ w'.ownsRow w.heap.size RC.tE RC.k (.slice A x.gn c) x.gn (RC.enc M) ∧ AlikeL G M ∧ Below w.heap.size w w'
set_option maxHeartbeats 3200000 in
theorem begin_any (x : Cal) (G : List Cal) (w : World) (hG : Grp w x G) : Calls Try.prog 35 #[.agg #[.int .i64 x.kd, .string x.key, .string x.val, .string x.to_, .slice x.ga x.gn x.gc]] w (BeginTo w x G) := by
  obtain ⟨g, hg⟩ : ∃ g, w.heap.size = g := ⟨_, rfl⟩
  obtain ⟨w1, hw1⟩ : ∃ w1, w.alloc (.cells #[.int .i64 x.kd, .string x.key, .string x.val, .string x.to_, .slice x.ga x.gn x.gc] 24) = w1 := ⟨_, rfl⟩
  have HXg : Hid (CBox w1 g x) := by rw [← hw1, ← hg]; exact heap_alloc_new w _
  have HBg : Hid (Below g w w1) := by rw [← hw1, ← hg]; exact (Below.refl _ _).alloc (Nat.le_refl _) _
  have HGg : Hid (w.heap.size = g) := hg
  obtain ⟨g1, hg1⟩ : ∃ g1, w1.heap.size = g1 := ⟨_, rfl⟩
  have HG1 := Lib.hid hg1
  have HL : Hid (g < g1) := hg1 ▸ lt_of_heap HXg.out
  have HZF := Lib.hid zero_frame
  have HCC : Hid (∀ v, Below g1 w1 v → Calls Try.prog 60 #[.agg #[.int .i64 x.kd, .string x.key, .string x.val, .string x.to_, .slice x.ga x.gn x.gc]] v (CopyC v x G)) := fun v hv => copycall_any x G v ((hG.below (hg ▸ HBg.out)).below (hg1.symm ▸ hv))
  have HFIN : Hid (∀ A c M v W, g1 < v.heap.size → Below g1 w1 v → v.ownsRow (g1 + 1) RC.tE RC.k (.slice A x.gn c) x.gn (RC.enc M) → AlikeL G M → Turns g1 g1 v W → BeginTo w x G (.returned (.agg (frC x.kd x.key x.val x.to_ A x.gn c (-1)).toArray)) W) := fun A c M v W hlt hv ho ha ht => by
    have hgl := HL.out
    refine ⟨A, c, M, rfl, own_mono (own_same ho (fun k hk => ht.block k (by have := own_ge ho k hk; omega) (by have := own_ge ho k hk; omega) (own_ltN ho hk))) (by rw [hg]; omega), ha, ?_⟩
    rw [hg]
    exact (HBg.out.trans (hv.mono (Nat.le_of_lt hgl))).trans (turn_below ht (Nat.le_of_lt hgl) (by omega))
  obtain ⟨R, hR⟩ : ∃ R, BeginTo w x G = R := ⟨_, rfl⟩
  rw [hR] at HFIN ⊢
  obtain ⟨c0, c1, c2, c3, c4⟩ := HXg.out.at_
  clear hG hR hg1
  go_enter Try.func35, Try.ntmps35
  go_wp2_with (first
    | ((with_reducible show wpList _ _ _ (⟨some 2, .alloc _, _, _, _, _⟩ :: _) _ _); refine wpList_alloc_var (o := ⟨some 2, _, _, _, _, _⟩) rfl 70 rfl g1 HG1.out _ HZF.out ?_; intro v1 H1 B1; have HV := Lib.hid ((B1.out.block g HL.out).trans HXg.out); clear c0 c1 c2 c3 c4; obtain ⟨c0, c1, c2, c3, c4⟩ := cells5 HV.out)
    | fail)
  clear hg hw1
  refine (HCC.out _ B1.out).mono ?_
  rintro e v2 ⟨A2, c2', M, rfl, ho, ha, hb⟩
  have HO := Lib.hid (own_mono ho (lt_of_heap H1.out))
  have HA := Lib.hid ha
  have HBX := Lib.hid hb
  have HZX := Lib.hid ((hb.block g1 (lt_of_heap H1.out)).trans H1.out)
  clear c0 c1 c2 c3 c4 ho ha hb
  go_wp2_with (first
    | ((with_reducible show wpList _ _ _ (⟨none, .store _ (.tmp 2) _, _, _, _, _⟩ :: _) _ _); refine wpList_store_only (o := ⟨none, .store 70 (.tmp 2) (.tmp 5), _, _, _, _⟩) rfl _ _ _ rfl rfl g1 (frC x.kd x.key x.val x.to_ A2 x.gn c2' (-1)).toArray rfl rfl 70 _ HZX.out size_frame rfl (frC_one _ _ _ _ _ _ _ _) ?_; intro v9 X9 T9)
    | fail)
  refine bodyPost_ret (results_v1 (cs := frC x.kd x.key x.val x.to_ A2 x.gn c2' (-1)) rfl Try.underlying70 rfl X9.out size_frame) rfl ?_
  exact HFIN.out _ _ _ _ _ (lt_of_heap HZX.out) (B1.out.trans (HBX.out.mono (Nat.le_of_lt (lt_of_heap H1.out)))) HO.out HA.out T9.out
set_option maxHeartbeats 6400000 in
theorem samef_any {w : World} {p q : Option Addr} {n cp cq : Nat} {G M : List Cal} (kd : Int) (key val to_ : ByteArray) (ln : Int) (hn : G.length = n) (hM : RC.Row w p M) (hG : RC.Row w q G) (ha : AlikeL G M) :
    Calls Try.prog 34 #[.agg (frC kd key val to_ p n cp ln).toArray, .agg (frC kd key val to_ q n cq ln).toArray] w fun e w' => e = .returned (.bool true) ∧ Below w.heap.size w w' := by
  obtain ⟨g, hg⟩ : ∃ g, w.heap.size = g := ⟨_, rfl⟩
  obtain ⟨w1, hw1⟩ : ∃ w1, w.alloc (.cells (frC kd key val to_ p n cp ln).toArray 70) = w1 := ⟨_, rfl⟩
  have HS1 : Hid (FBox w1 g kd key val to_ p n cp ln) := by rw [← hw1, ← hg]; exact heap_alloc_new w _
  have HB1 : Hid (Below g w w1) := by rw [← hw1, ← hg]; exact (Below.refl _ _).alloc (Nat.le_refl _) _
  obtain ⟨g2, hg2⟩ : ∃ g, w1.heap.size = g := ⟨_, rfl⟩
  obtain ⟨w2, hw2⟩ : ∃ w2, w1.alloc (.cells (frC kd key val to_ q n cq ln).toArray 70) = w2 := ⟨_, rfl⟩
  have HLT : Hid (g < g2) := by rw [← hg2]; exact lt_of_heap HS1.out
  have HS2 : Hid (FBox w2 g2 kd key val to_ q n cq ln) := by rw [← hw2, ← hg2]; exact heap_alloc_new w1 _
  have HB2' : Hid (Below g2 w1 w2) := by rw [← hw2, ← hg2]; exact (Below.refl _ _).alloc (Nat.le_refl _) _
  have HS12 : Hid (FBox w2 g kd key val to_ p n cp ln) := (HB2'.out.block g HLT.out).trans HS1.out
  have HB2 : Hid (Below g w w2) := HB1.out.trans (HB2'.out.mono (Nat.le_of_lt HLT.out))
  have HRM : Hid (∀ v, Below g w v → RC.Row v p M) := fun v hv => hM.below (hg.symm ▸ hv)
  have HRG : Hid (∀ v, Below g w v → RC.Row v q G) := fun v hv => hG.below (hg.symm ▸ hv)
  have HSN := Lib.hid bytes_nil
  have HPN := Lib.hid parts_nil
  have HSA : Hid (∀ v, Calls Try.prog 24 #[.agg #[.int .i64 0, .bool false, .string ⟨#[]⟩, .slice none 0 0, .slice none 0 0, .int .u64 0], .agg #[.int .i64 0, .bool false, .string ⟨#[]⟩, .slice none 0 0, .slice none 0 0, .int .u64 0]] v fun e w' => e = .returned (.bool true) ∧ Below v.heap.size v w') := fun v => samea_any 0 false ⟨#[]⟩ 0 rfl rfl (RP.row_nil _ _) (RP.row_nil _ _) (RB.row_nil _ _) (RB.row_nil _ _)
  have HSC : Hid (∀ v, Below g w v → Calls Try.prog 59 #[.agg #[.int .i64 kd, .string key, .string val, .string to_, .slice p n cp], .agg #[.int .i64 kd, .string key, .string val, .string to_, .slice q n cq]] v fun e w' => e = .returned (.bool true) ∧ Below v.heap.size v w') := fun v hv => samec_any kd key val to_ hn (HRM.out v hv) (HRG.out v hv) ha
  have p0 := HS12.out.at_ 0 _ rfl
  have p1 := HS12.out.at_ 1 _ rfl
  have p2 := HS12.out.at_ 2 _ rfl
  have p3 := HS12.out.at_ 3 _ rfl
  have p4 := HS12.out.at_ 4 _ rfl
  have p5 := HS12.out.at_ 5 _ rfl
  have p6 := HS12.out.at_ 6 _ rfl
  have p7 := HS12.out.at_ 7 _ rfl
  have p8 := HS12.out.at_ 8 _ rfl
  have p9 := HS12.out.at_ 9 _ rfl
  have p10 := HS12.out.at_ 10 _ rfl
  have p11 := HS12.out.at_ 11 _ rfl
  have p12 := HS12.out.at_ 12 _ rfl
  have p13 := HS12.out.at_ 13 _ rfl
  have p14 := HS12.out.at_ 14 _ rfl
  have p15 := HS12.out.at_ 15 _ rfl
  have p16 := HS12.out.at_ 16 _ rfl
  have p17 := HS12.out.at_ 17 _ rfl
  have p18 := HS12.out.at_ 18 _ rfl
  have p19 := HS12.out.at_ 19 _ rfl
  have p20 := HS12.out.at_ 20 _ rfl
  have p21 := HS12.out.at_ 21 _ rfl
  have p22 := HS12.out.at_ 22 _ rfl
  have p23 := HS12.out.at_ 23 _ rfl
  have p24 := HS12.out.at_ 24 _ rfl
  have p25 := HS12.out.at_ 25 _ rfl
  have p26 := HS12.out.at_ 26 _ rfl
  have p27 := HS12.out.at_ 27 _ rfl
  have q0 := HS2.out.at_ 0 _ rfl
  have q1 := HS2.out.at_ 1 _ rfl
  have q2 := HS2.out.at_ 2 _ rfl
  have q3 := HS2.out.at_ 3 _ rfl
  have q4 := HS2.out.at_ 4 _ rfl
  have q5 := HS2.out.at_ 5 _ rfl
  have q6 := HS2.out.at_ 6 _ rfl
  have q7 := HS2.out.at_ 7 _ rfl
  have q8 := HS2.out.at_ 8 _ rfl
  have q9 := HS2.out.at_ 9 _ rfl
  have q10 := HS2.out.at_ 10 _ rfl
  have q11 := HS2.out.at_ 11 _ rfl
  have q12 := HS2.out.at_ 12 _ rfl
  have q13 := HS2.out.at_ 13 _ rfl
  have q14 := HS2.out.at_ 14 _ rfl
  have q15 := HS2.out.at_ 15 _ rfl
  have q16 := HS2.out.at_ 16 _ rfl
  have q17 := HS2.out.at_ 17 _ rfl
  have q18 := HS2.out.at_ 18 _ rfl
  have q19 := HS2.out.at_ 19 _ rfl
  have q20 := HS2.out.at_ 20 _ rfl
  have q21 := HS2.out.at_ 21 _ rfl
  have q22 := HS2.out.at_ 22 _ rfl
  have q23 := HS2.out.at_ 23 _ rfl
  have q24 := HS2.out.at_ 24 _ rfl
  have q25 := HS2.out.at_ 25 _ rfl
  have q26 := HS2.out.at_ 26 _ rfl
  have q27 := HS2.out.at_ 27 _ rfl
  rw [hg]
  clear hn hM hG ha
  unfold frC at hw1 hw2 ⊢
  go_enter Try.func34, Try.ntmps34
  go_wp2_with fail
  refine (HSN.out w2).mono ?_
  clear hw1 hw2 hg hg2
  rintro e w3 ⟨rfl, rfl⟩
  go_wp2_with fail
  refine (HPN.out w2).mono ?_
  rintro e w3 ⟨rfl, rfl⟩
  go_wp2_with fail
  refine (HSA.out w2).mono ?_
  clear p0 q0 p1 q1 p2 q2 p3 q3 p4 q4 p5 q5 p6 q6 p7 q7 p8 q8 p9 q9 p10 q10 p11 q11 p12 q12 p13 q13 p14 q14 p15 q15 p16 q16 p17 q17 p18 q18 p19 q19 p20 q20 p21 q21 p22 q22 p23 q23 p24 q24 p25 q25 p26 q26 p27 q27
  rintro e v3 ⟨rfl, hb⟩
  have HT1 : Hid (FBox v3 g kd key val to_ p n cp ln) := (hb.block g (lt_of_heap HS12.out)).trans HS12.out
  have HT2 : Hid (FBox v3 g2 kd key val to_ q n cq ln) := (hb.block g2 (lt_of_heap HS2.out)).trans HS2.out
  have HB3 : Hid (Below g w v3) := HB2.out.trans (hb.mono (Nat.le_of_lt (lt_of_heap HS12.out)))
  have HG3 : Hid (g ≤ v3.heap.size) := Nat.le_of_lt (lt_of_heap HT1.out)
  clear hb
  have p0 := HT1.out.at_ 0 _ rfl
  have p1 := HT1.out.at_ 1 _ rfl
  have p2 := HT1.out.at_ 2 _ rfl
  have p3 := HT1.out.at_ 3 _ rfl
  have p4 := HT1.out.at_ 4 _ rfl
  have q0 := HT2.out.at_ 0 _ rfl
  have q1 := HT2.out.at_ 1 _ rfl
  have q2 := HT2.out.at_ 2 _ rfl
  have q3 := HT2.out.at_ 3 _ rfl
  have q4 := HT2.out.at_ 4 _ rfl
  go_wp2_with fail
  refine (HSC.out v3 HB3.out).mono ?_
  rintro e v4 ⟨rfl, hb⟩
  have HB4 := Lib.hid (HB3.out.trans (hb.mono HG3.out))
  clear hb
  go_wp2
  go_ret
  exact ⟨rfl, HB4.out⟩

end Go.Proofs.Ytimpigponjkfkaa
