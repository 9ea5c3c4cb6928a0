/-
  Proved here: what a put, a del, an enq, a sync leave of a store, and answer.
  Conditions: less than 10^6 pairs and texts.
-/
import Derived.Test.YtpmgnhijiodbaaaCopy15
namespace Go.Proofs.Ytpmgnhijiodbaaa
open Go Go.RowKit
set_option maxRecDepth 100000

theorem bool_info : (Try.prog.info? 4).map (fun i => (i.zero, i.size, i.bytes)) = some (some (.bool false), 1, 1) := by kernel_rfl
theorem bool_info' : ∃ i, Try.prog.info? 4 = some i ∧ i.zero = some (.bool false) ∧ i.size = 1 ∧ i.bytes = 1 := by
  obtain ⟨i, h1, h2⟩ := Option.map_eq_some_iff.1 bool_info
  simp only [Prod.mk.injEq] at h2
  exact ⟨i, h1, h2.1, h2.2.1, h2.2.2⟩
def RB : Rec Bool where
  tE := 4
  tS := 44
  k := 1
  by_ := 1
  zv := .bool false
  cells := fun b => [.bool b]
  hk := by omega
  klen := fun _ => rfl
  one := fun x u hu => by
    simp only [List.mem_cons, List.not_mem_nil, or_false] at hu
    subst hu
    rfl
  und := Try.underlying44
  info := bool_info'
  zk := by kernel_rfl
  small := by omega
/-- What an effect leaves, and answers: the store L, Q; found or not, a value, pairs, hits. -/
def ApTo (w : World) (p : Nat) (v1 v2 : Value) (L : List Kv) (Q : List ByteArray) (f : Bool) (s : ByteArray) (M : List Kv) (H : List Bool) (e : Ending) (w' : World) : Prop :=
  ∃ A c B d, e = .returned (.agg #[.int .i64 0, .bool f, .string s, .slice A M.length c, .slice B H.length d, .int .u64 0]) ∧ w'.ownsRow w.heap.size RP.tE RP.k (.slice A M.length c) M.length (RP.enc M) ∧ w'.ownsRow w.heap.size RB.tE RB.k (.slice B H.length d) H.length (RB.enc H) ∧ ShTo w p v1 v2 L Q w'
theorem ShTo.aside {w a a' w' : World} {p : Nat} {v1 v2 : Value} {L : List Kv} {Q : List ByteArray} (hb : Below w.heap.size w a) (h : ShTo a p v1 v2 L Q a') {x : Nat} (hx1 : w.heap.size ≤ x) (hx2 : x < a.heap.size) (hnx : ¬ shOwn p v1 v2 x) (hs : Stay (fun k => k = x) a' w') : ShTo w p v1 v2 L Q w' := by
  obtain ⟨u1, u2, h1, h2, h3⟩ := h
  refine ⟨u1, u2, h1.stay hs (fun k hk e => ?_), ((Stay.of_below hb).trans h2).new hs (fun i e => .inr (by rw [e]; exact hx1)), fun k hk => (h3 k hk).imp id (Nat.le_trans hb.size)⟩
  subst e
  rcases h3 k hk with e | e
  · exact hnx e
  · omega
theorem stay_of_turns {w w' : World} {g : Nat} (h : Turns g g w w') : Stay (fun k => k = g) w w' := ⟨h.os, h.tape, h.output, h.size, fun k hk hl => h.block k hk hk hl⟩
set_option maxHeartbeats 1600000 in
theorem aput_any {w : World} {p : Nat} {v1 v2 : Value} {L : List Kv} {Q : List ByteArray} (h : Shm w p v1 v2 L Q) (hl : L.length + 1 < 1000000) (c : Cal) : Calls Try.prog 50 #[.pointer (some ⟨p, 0, none⟩), .agg #[.int .i64 c.kd, .string c.key, .string c.val, .string c.to_, .slice c.ga c.gn c.gc]] w (ApTo w p v1 v2 (setK L c.key c.val) (Q) (hasK L c.key) (⟨#[]⟩) [] []) := by
  obtain ⟨g, hg⟩ : ∃ g, w.heap.size = g := ⟨_, rfl⟩
  obtain ⟨w1, hw1⟩ : ∃ w1, w.alloc (.cells #[.int .i64 c.kd, .string c.key, .string c.val, .string c.to_, .slice c.ga c.gn c.gc] 31) = w1 := ⟨_, rfl⟩
  have HXg : Hid (CBox w1 g c) := by rw [← hw1, ← hg]; exact heap_alloc_new w _
  have HBg : Hid (Below g w w1) := by rw [← hw1, ← hg]; exact (Below.refl _ _).alloc (Nat.le_refl _) _
  have HGg : Hid (w.heap.size = g) := hg
  have h1 := h.below (hg ▸ HBg.out)
  obtain ⟨g1, hg1⟩ : ∃ g1, w1.heap.size = g1 := ⟨_, rfl⟩
  have HG1 := Lib.hid hg1
  have HL : Hid (g < g1) := hg1 ▸ HXg.out.lt
  have HZ := Lib.hid zero_answer
  have HNO : Hid (∀ k, shOwn p v1 v2 k → k < g) := fun k hk => hg ▸ h.lt hk
  obtain ⟨R, hR⟩ : ∃ R, ApTo w p v1 v2 (setK L c.key c.val) (Q) (hasK L c.key) (⟨#[]⟩) [] [] = R := ⟨_, rfl⟩
  have HFIN : Hid (∀ a a' W, Below g1 w1 a → g1 < a.heap.size → ShTo a p v1 v2 (setK L c.key c.val) (Q) a' → Turns g1 g1 a' W → R (.returned (.agg #[.int .i64 0, .bool (hasK L c.key), .string (⟨#[]⟩), .slice none 0 0, .slice none 0 0, .int .u64 0])) W) := fun a a' W k1 k2 k3 k4 => by
    rw [← hR]
    exact ⟨none, 0, none, 0, rfl, World.ownsRow_nil _ _ _ _, World.ownsRow_nil _ _ _ _, k3.aside (hg ▸ HBg.out.trans (k1.mono (Nat.le_of_lt HL.out))) (by have := HL.out; omega) k2 (fun e => by have := HNO.out _ e; have := HL.out; omega) (stay_of_turns k4)⟩
  have HAK : Hid (∀ a a' L' Q' o, ShTo a p v1 v2 L' Q' a' → a.heap[g1]? = some o → g1 < a.heap.size → a'.heap[g1]? = some o) := fun a a' L' Q' o k1 k2 k3 => by
    obtain ⟨_, _, _, k4, _⟩ := k1
    exact (k4.block g1 (fun e => by have := HNO.out _ e; have := HL.out; omega) k3).trans k2
  rw [hR]
  obtain ⟨c0, c1, c2, c3, c4⟩ := HXg.out.at_
  have H1 := Lib.hid h1
  clear h h1 hR hg1
  have HLM : Hid (L.length + 1 < 1000000) := hl
  clear hl
  go_enter Try.func50, Try.ntmps50
  go_wp2_with (first
    | ((with_reducible show wpList _ _ _ (⟨some 4, .alloc _, _, _, _, _⟩ :: _) _ _); refine wpList_alloc_var (o := ⟨some 4, _, _, _, _, _⟩) rfl 46 rfl g1 HG1.out _ HZ.out ?_; intro x1 X1 B1; have HX := Lib.hid (CBox.below HXg.out B1.out HL.out); have hlx := lt_of_heap X1.out; have HS1 := Lib.hid (H1.out.below (HG1.out.symm ▸ B1.out)); obtain ⟨d0, d1, d2, d3, d4⟩ := HX.out.at_)
    | fail)
  clear hg hw1 c0 c1 c2 c3 c4
  refine (set15_any HS1.out HLM.out c.key c.val).mono ?_
  rintro e x2 ⟨rfl, ht⟩
  have HT := Lib.hid ht
  have HA := Lib.hid (HAK.out _ _ _ _ _ ht X1.out hlx)
  clear ht d0 d1 d2 d3 d4
  go_wp2_with (first
    | ((with_reducible show wpList _ _ _ (⟨none, .store _ (.tmp 4) _, _, _, _, _⟩ :: _) _ _); refine wpList_store_only (o := ⟨none, .store 46 (.tmp 4) (.tmp 11), _, _, _, _⟩) rfl _ _ _ rfl rfl g1 #[.int .i64 0, .bool (hasK L c.key), .string ⟨#[]⟩, .slice none 0 0, .slice none 0 0, .int .u64 0] rfl rfl 46 _ HA.out size_answer rfl (onesA _ _ _ _ _ _ _ _ _ _) ?_; intro x9 X9 T9)
    | fail)
  refine bodyPost_ret (results_v1 (cs := [.int .i64 0, .bool (hasK L c.key), .string ⟨#[]⟩, .slice none 0 0, .slice none 0 0, .int .u64 0]) rfl Try.underlying46 rfl X9.out size_answer) rfl ?_
  exact HFIN.out _ _ _ B1.out hlx HT.out T9.out
set_option maxHeartbeats 1600000 in
theorem adel_any {w : World} {p : Nat} {v1 v2 : Value} {L : List Kv} {Q : List ByteArray} (h : Shm w p v1 v2 L Q) (c : Cal) : Calls Try.prog 51 #[.pointer (some ⟨p, 0, none⟩), .agg #[.int .i64 c.kd, .string c.key, .string c.val, .string c.to_, .slice c.ga c.gn c.gc]] w (ApTo w p v1 v2 (delK L c.key) (Q) (hasK L c.key) (⟨#[]⟩) [] []) := by
  obtain ⟨g, hg⟩ : ∃ g, w.heap.size = g := ⟨_, rfl⟩
  obtain ⟨w1, hw1⟩ : ∃ w1, w.alloc (.cells #[.int .i64 c.kd, .string c.key, .string c.val, .string c.to_, .slice c.ga c.gn c.gc] 31) = w1 := ⟨_, rfl⟩
  have HXg : Hid (CBox w1 g c) := by rw [← hw1, ← hg]; exact heap_alloc_new w _
  have HBg : Hid (Below g w w1) := by rw [← hw1, ← hg]; exact (Below.refl _ _).alloc (Nat.le_refl _) _
  have HGg : Hid (w.heap.size = g) := hg
  have h1 := h.below (hg ▸ HBg.out)
  obtain ⟨g1, hg1⟩ : ∃ g1, w1.heap.size = g1 := ⟨_, rfl⟩
  have HG1 := Lib.hid hg1
  have HL : Hid (g < g1) := hg1 ▸ HXg.out.lt
  have HZ := Lib.hid zero_answer
  have HNO : Hid (∀ k, shOwn p v1 v2 k → k < g) := fun k hk => hg ▸ h.lt hk
  obtain ⟨R, hR⟩ : ∃ R, ApTo w p v1 v2 (delK L c.key) (Q) (hasK L c.key) (⟨#[]⟩) [] [] = R := ⟨_, rfl⟩
  have HFIN : Hid (∀ a a' W, Below g1 w1 a → g1 < a.heap.size → ShTo a p v1 v2 (delK L c.key) (Q) a' → Turns g1 g1 a' W → R (.returned (.agg #[.int .i64 0, .bool (hasK L c.key), .string (⟨#[]⟩), .slice none 0 0, .slice none 0 0, .int .u64 0])) W) := fun a a' W k1 k2 k3 k4 => by
    rw [← hR]
    exact ⟨none, 0, none, 0, rfl, World.ownsRow_nil _ _ _ _, World.ownsRow_nil _ _ _ _, k3.aside (hg ▸ HBg.out.trans (k1.mono (Nat.le_of_lt HL.out))) (by have := HL.out; omega) k2 (fun e => by have := HNO.out _ e; have := HL.out; omega) (stay_of_turns k4)⟩
  have HAK : Hid (∀ a a' L' Q' o, ShTo a p v1 v2 L' Q' a' → a.heap[g1]? = some o → g1 < a.heap.size → a'.heap[g1]? = some o) := fun a a' L' Q' o k1 k2 k3 => by
    obtain ⟨_, _, _, k4, _⟩ := k1
    exact (k4.block g1 (fun e => by have := HNO.out _ e; have := HL.out; omega) k3).trans k2
  rw [hR]
  obtain ⟨c0, c1, c2, c3, c4⟩ := HXg.out.at_
  have H1 := Lib.hid h1
  clear h h1 hR hg1
  go_enter Try.func51, Try.ntmps51
  go_wp2_with (first
    | ((with_reducible show wpList _ _ _ (⟨some 4, .alloc _, _, _, _, _⟩ :: _) _ _); refine wpList_alloc_var (o := ⟨some 4, _, _, _, _, _⟩) rfl 46 rfl g1 HG1.out _ HZ.out ?_; intro x1 X1 B1; have HX := Lib.hid (CBox.below HXg.out B1.out HL.out); have hlx := lt_of_heap X1.out; have HS1 := Lib.hid (H1.out.below (HG1.out.symm ▸ B1.out)); obtain ⟨d0, d1, d2, d3, d4⟩ := HX.out.at_)
    | fail)
  clear hg hw1 c0 c1 c2 c3 c4
  refine (drop15_any HS1.out c.key).mono ?_
  rintro e x2 ⟨rfl, ht⟩
  have HT := Lib.hid ht
  have HA := Lib.hid (HAK.out _ _ _ _ _ ht X1.out hlx)
  clear ht d0 d1 d2 d3 d4
  go_wp2_with (first
    | ((with_reducible show wpList _ _ _ (⟨none, .store _ (.tmp 4) _, _, _, _, _⟩ :: _) _ _); refine wpList_store_only (o := ⟨none, .store 46 (.tmp 4) (.tmp 9), _, _, _, _⟩) rfl _ _ _ rfl rfl g1 #[.int .i64 0, .bool (hasK L c.key), .string ⟨#[]⟩, .slice none 0 0, .slice none 0 0, .int .u64 0] rfl rfl 46 _ HA.out size_answer rfl (onesA _ _ _ _ _ _ _ _ _ _) ?_; intro x9 X9 T9)
    | fail)
  refine bodyPost_ret (results_v1 (cs := [.int .i64 0, .bool (hasK L c.key), .string ⟨#[]⟩, .slice none 0 0, .slice none 0 0, .int .u64 0]) rfl Try.underlying46 rfl X9.out size_answer) rfl ?_
  exact HFIN.out _ _ _ B1.out hlx HT.out T9.out
set_option maxHeartbeats 1600000 in
theorem aenq_any {w : World} {p : Nat} {v1 v2 : Value} {L : List Kv} {Q : List ByteArray} (h : Shm w p v1 v2 L Q) (hl : Q.length + 1 < 1000000) (c : Cal) : Calls Try.prog 52 #[.pointer (some ⟨p, 0, none⟩), .agg #[.int .i64 c.kd, .string c.key, .string c.val, .string c.to_, .slice c.ga c.gn c.gc]] w (ApTo w p v1 v2 (L) (Q ++ [c.val]) (false) (⟨#[]⟩) [] []) := by
  obtain ⟨g, hg⟩ : ∃ g, w.heap.size = g := ⟨_, rfl⟩
  obtain ⟨w1, hw1⟩ : ∃ w1, w.alloc (.cells #[.int .i64 c.kd, .string c.key, .string c.val, .string c.to_, .slice c.ga c.gn c.gc] 31) = w1 := ⟨_, rfl⟩
  have HXg : Hid (CBox w1 g c) := by rw [← hw1, ← hg]; exact heap_alloc_new w _
  have HBg : Hid (Below g w w1) := by rw [← hw1, ← hg]; exact (Below.refl _ _).alloc (Nat.le_refl _) _
  have HGg : Hid (w.heap.size = g) := hg
  have h1 := h.below (hg ▸ HBg.out)
  obtain ⟨g1, hg1⟩ : ∃ g1, w1.heap.size = g1 := ⟨_, rfl⟩
  have HG1 := Lib.hid hg1
  have HL : Hid (g < g1) := hg1 ▸ HXg.out.lt
  have HZ := Lib.hid zero_answer
  have HNO : Hid (∀ k, shOwn p v1 v2 k → k < g) := fun k hk => hg ▸ h.lt hk
  obtain ⟨R, hR⟩ : ∃ R, ApTo w p v1 v2 (L) (Q ++ [c.val]) (false) (⟨#[]⟩) [] [] = R := ⟨_, rfl⟩
  have HFIN : Hid (∀ a a' W, Below g1 w1 a → g1 < a.heap.size → ShTo a p v1 v2 (L) (Q ++ [c.val]) a' → Turns g1 g1 a' W → R (.returned (.agg #[.int .i64 0, .bool (false), .string (⟨#[]⟩), .slice none 0 0, .slice none 0 0, .int .u64 0])) W) := fun a a' W k1 k2 k3 k4 => by
    rw [← hR]
    exact ⟨none, 0, none, 0, rfl, World.ownsRow_nil _ _ _ _, World.ownsRow_nil _ _ _ _, k3.aside (hg ▸ HBg.out.trans (k1.mono (Nat.le_of_lt HL.out))) (by have := HL.out; omega) k2 (fun e => by have := HNO.out _ e; have := HL.out; omega) (stay_of_turns k4)⟩
  have HAK : Hid (∀ a a' L' Q' o, ShTo a p v1 v2 L' Q' a' → a.heap[g1]? = some o → g1 < a.heap.size → a'.heap[g1]? = some o) := fun a a' L' Q' o k1 k2 k3 => by
    obtain ⟨_, _, _, k4, _⟩ := k1
    exact (k4.block g1 (fun e => by have := HNO.out _ e; have := HL.out; omega) k3).trans k2
  rw [hR]
  obtain ⟨c0, c1, c2, c3, c4⟩ := HXg.out.at_
  have H1 := Lib.hid h1
  clear h h1 hR hg1
  have HLM : Hid (Q.length + 1 < 1000000) := hl
  clear hl
  go_enter Try.func52, Try.ntmps52
  go_wp2_with (first
    | ((with_reducible show wpList _ _ _ (⟨some 4, .alloc _, _, _, _, _⟩ :: _) _ _); refine wpList_alloc_var (o := ⟨some 4, _, _, _, _, _⟩) rfl 46 rfl g1 HG1.out _ HZ.out ?_; intro x1 X1 B1; have HX := Lib.hid (CBox.below HXg.out B1.out HL.out); have hlx := lt_of_heap X1.out; have HS1 := Lib.hid (H1.out.below (HG1.out.symm ▸ B1.out)); obtain ⟨d0, d1, d2, d3, d4⟩ := HX.out.at_)
    | fail)
  clear hg hw1 c0 c1 c2 c3 c4
  refine (push15_any HS1.out HLM.out c.val).mono ?_
  rintro e x2 ⟨rfl, ht⟩
  have HT := Lib.hid ht
  have HA := Lib.hid (HAK.out _ _ _ _ _ ht X1.out hlx)
  clear ht d0 d1 d2 d3 d4
  go_wp2_with (first
    | ((with_reducible show wpList _ _ _ (⟨none, .store _ (.tmp 4) _, _, _, _, _⟩ :: _) _ _); refine wpList_store_only (o := ⟨none, .store 46 (.tmp 4) (.tmp 9), _, _, _, _⟩) rfl _ _ _ rfl rfl g1 #[.int .i64 0, .bool false, .string ⟨#[]⟩, .slice none 0 0, .slice none 0 0, .int .u64 0] rfl rfl 46 _ HA.out size_answer rfl (onesA _ _ _ _ _ _ _ _ _ _) ?_; intro x9 X9 T9)
    | fail)
  refine bodyPost_ret (results_v1 (cs := [.int .i64 0, .bool false, .string ⟨#[]⟩, .slice none 0 0, .slice none 0 0, .int .u64 0]) rfl Try.underlying46 rfl X9.out size_answer) rfl ?_
  exact HFIN.out _ _ _ B1.out hlx HT.out T9.out
set_option maxHeartbeats 1600000 in
theorem async_any {w : World} {p : Nat} {v1 v2 : Value} {L : List Kv} {Q : List ByteArray} (h : Shm w p v1 v2 L Q) (c : Cal) : Calls Try.prog 56 #[.pointer (some ⟨p, 0, none⟩), .agg #[.int .i64 c.kd, .string c.key, .string c.val, .string c.to_, .slice c.ga c.gn c.gc]] w (ApTo w p v1 v2 (L) (Q) (false) (⟨#[]⟩) [] []) := by
  obtain ⟨g, hg⟩ : ∃ g, w.heap.size = g := ⟨_, rfl⟩
  obtain ⟨w1, hw1⟩ : ∃ w1, w.alloc (.cells #[.int .i64 c.kd, .string c.key, .string c.val, .string c.to_, .slice c.ga c.gn c.gc] 31) = w1 := ⟨_, rfl⟩
  have HXg : Hid (CBox w1 g c) := by rw [← hw1, ← hg]; exact heap_alloc_new w _
  have HBg : Hid (Below g w w1) := by rw [← hw1, ← hg]; exact (Below.refl _ _).alloc (Nat.le_refl _) _
  have HGg : Hid (w.heap.size = g) := hg
  have h1 := h.below (hg ▸ HBg.out)
  obtain ⟨g1, hg1⟩ : ∃ g1, w1.heap.size = g1 := ⟨_, rfl⟩
  have HG1 := Lib.hid hg1
  have HL : Hid (g < g1) := hg1 ▸ HXg.out.lt
  have HZ := Lib.hid zero_answer
  have HNO : Hid (∀ k, shOwn p v1 v2 k → k < g) := fun k hk => hg ▸ h.lt hk
  obtain ⟨R, hR⟩ : ∃ R, ApTo w p v1 v2 (L) (Q) (false) (⟨#[]⟩) [] [] = R := ⟨_, rfl⟩
  have HFIN : Hid (∀ a a' W, Below g1 w1 a → g1 < a.heap.size → ShTo a p v1 v2 (L) (Q) a' → Turns g1 g1 a' W → R (.returned (.agg #[.int .i64 0, .bool (false), .string (⟨#[]⟩), .slice none 0 0, .slice none 0 0, .int .u64 0])) W) := fun a a' W k1 k2 k3 k4 => by
    rw [← hR]
    exact ⟨none, 0, none, 0, rfl, World.ownsRow_nil _ _ _ _, World.ownsRow_nil _ _ _ _, k3.aside (hg ▸ HBg.out.trans (k1.mono (Nat.le_of_lt HL.out))) (by have := HL.out; omega) k2 (fun e => by have := HNO.out _ e; have := HL.out; omega) (stay_of_turns k4)⟩
  have HAK : Hid (∀ a a' L' Q' o, ShTo a p v1 v2 L' Q' a' → a.heap[g1]? = some o → g1 < a.heap.size → a'.heap[g1]? = some o) := fun a a' L' Q' o k1 k2 k3 => by
    obtain ⟨_, _, _, k4, _⟩ := k1
    exact (k4.block g1 (fun e => by have := HNO.out _ e; have := HL.out; omega) k3).trans k2
  rw [hR]
  obtain ⟨c0, c1, c2, c3, c4⟩ := HXg.out.at_
  have H1 := Lib.hid h1
  clear h h1 hR hg1
  go_enter Try.func56, Try.ntmps56
  go_wp2_with (first
    | ((with_reducible show wpList _ _ _ (⟨some 4, .alloc _, _, _, _, _⟩ :: _) _ _); refine wpList_alloc_var (o := ⟨some 4, _, _, _, _, _⟩) rfl 46 rfl g1 HG1.out _ HZ.out ?_; intro x1 X1 B1; have HX := Lib.hid (CBox.below HXg.out B1.out HL.out); have hlx := lt_of_heap X1.out; have HS1 := Lib.hid (H1.out.below (HG1.out.symm ▸ B1.out)); obtain ⟨d0, d1, d2, d3, d4⟩ := HX.out.at_)
    | ((with_reducible show wpList _ _ _ (⟨none, .store _ (.tmp 4) _, _, _, _, _⟩ :: _) _ _); refine wpList_store_only (o := ⟨none, .store 46 (.tmp 4) (.tmp 5), _, _, _, _⟩) rfl _ _ _ rfl rfl g1 #[.int .i64 0, .bool false, .string ⟨#[]⟩, .slice none 0 0, .slice none 0 0, .int .u64 0] rfl rfl 46 _ X1.out size_answer rfl (onesA _ _ _ _ _ _ _ _ _ _) ?_; intro x9 X9 T9)
    | fail)
  have HT := Lib.hid (ShTo.refl HS1.out (Below.refl _ _))
  refine bodyPost_ret (results_v1 (cs := [.int .i64 0, .bool false, .string ⟨#[]⟩, .slice none 0 0, .slice none 0 0, .int .u64 0]) rfl Try.underlying46 rfl X9.out size_answer) rfl ?_
  exact HFIN.out _ _ _ B1.out hlx HT.out T9.out

end Go.Proofs.Ytpmgnhijiodbaaa
