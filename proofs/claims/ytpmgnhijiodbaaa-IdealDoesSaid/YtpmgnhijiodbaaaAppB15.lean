/-
  Proved here: what a get and a deq leave of a store, and answer.
  Conditions: less than 10^6 pairs and texts.
-/
import Derived.Test.YtpmgnhijiodbaaaApp15
namespace Go.Proofs.Ytpmgnhijiodbaaa
open Go Go.RowKit
set_option maxRecDepth 100000

theorem Shm.shv {w : World} {p : Nat} {v1 v2 : Value} {L : List Kv} {Q : List ByteArray} (h : Shm w p v1 v2 L Q) : ∃ A c B d, v1 = .slice A L.length c ∧ v2 = .slice B Q.length d ∧ Shv w A L.length c B Q.length d L Q := by
  obtain ⟨A, c1, B, c2, e1, e2, _, _, _, _, r1, r2, z1, z2⟩ := h.forms
  exact ⟨A, c1, B, c2, e1, e2, r1, r2, rfl, rfl, z1, z2⟩
def firstQ (Q : List ByteArray) : ByteArray := Q.headD ⟨#[]⟩
def anyQ (Q : List ByteArray) : Bool := !Q.isEmpty
theorem pop15 {w : World} {p : Nat} {v1 v2 : Value} {L : List Kv} {Q : List ByteArray} (h : Shm w p v1 v2 L Q) : Calls Try.prog 21 #[.pointer (some ⟨p, 0, none⟩)] w fun e w' => e = .returned (.tuple #[.string (firstQ Q), .bool (anyQ Q)]) ∧ ShTo w p v1 v2 L Q.tail w' := by
  cases Q with
  | nil =>
    refine (pop15_nil h).mono ?_
    rintro e w' ⟨rfl, rfl⟩
    exact ⟨rfl, ShTo.refl h (Below.refl _ _)⟩
  | cons x Q => exact pop15_any h
set_option maxHeartbeats 1600000 in
theorem adeq_any {w : World} {p : Nat} {v1 v2 : Value} {L : List Kv} {Q : List ByteArray} (h : Shm w p v1 v2 L Q) (c : Cal) : Calls Try.prog 53 #[.pointer (some ⟨p, 0, none⟩), .agg #[.int .i64 c.kd, .string c.key, .string c.val, .string c.to_, .slice c.ga c.gn c.gc]] w (ApTo w p v1 v2 (L) (Q.tail) (anyQ Q) (firstQ Q) [] []) := by
  obtain ⟨g, hg⟩ : ∃ g, w.heap.size = g := ⟨_, rfl⟩
  obtain ⟨w1, hw1⟩ : ∃ w1, w.alloc (.cells #[.int .i64 c.kd, .string c.key, .string c.val, .string c.to_, .slice c.ga c.gn c.gc] 31) = w1 := ⟨_, rfl⟩
  have HXg : Hid (CBox w1 g c) := by rw [← hw1, ← hg]; exact heap_alloc_new w _
  have HBg : Hid (Below g w w1) := by rw [← hw1, ← hg]; exact (Below.refl _ _).alloc (Nat.le_refl _) _
  have HGg : Hid (w.heap.size = g) := hg
  have h1 := h.below (hg ▸ HBg.out)
  obtain ⟨g1, hg1⟩ : ∃ g1, w1.heap.size = g1 := ⟨_, rfl⟩
  have HG1 := Lib.hid hg1
  have HL : Hid (g < g1) := hg1 ▸ HXg.out.lt
  have HZ := Lib.hid zero_answer
  have HNO : Hid (∀ k, shOwn p v1 v2 k → k < g) := fun k hk => hg ▸ h.lt hk
  obtain ⟨R, hR⟩ : ∃ R, ApTo w p v1 v2 (L) (Q.tail) (anyQ Q) (firstQ Q) [] [] = R := ⟨_, rfl⟩
  have HFIN : Hid (∀ a a' W, Below g1 w1 a → g1 < a.heap.size → ShTo a p v1 v2 (L) (Q.tail) a' → Turns g1 g1 a' W → R (.returned (.agg #[.int .i64 0, .bool (anyQ Q), .string (firstQ Q), .slice none 0 0, .slice none 0 0, .int .u64 0])) W) := fun a a' W k1 k2 k3 k4 => by
    rw [← hR]
    exact ⟨none, 0, none, 0, rfl, World.ownsRow_nil _ _ _ _, World.ownsRow_nil _ _ _ _, k3.aside (hg ▸ HBg.out.trans (k1.mono (Nat.le_of_lt HL.out))) (by have := HL.out; omega) k2 (fun e => by have := HNO.out _ e; have := HL.out; omega) (stay_of_turns k4)⟩
  have HAK : Hid (∀ a a' L' Q' o, ShTo a p v1 v2 L' Q' a' → a.heap[g1]? = some o → g1 < a.heap.size → a'.heap[g1]? = some o) := fun a a' L' Q' o k1 k2 k3 => by
    obtain ⟨_, _, _, k4, _⟩ := k1
    exact (k4.block g1 (fun e => by have := HNO.out _ e; have := HL.out; omega) k3).trans k2
  rw [hR]
  obtain ⟨c0, c1, c2, c3, c4⟩ := HXg.out.at_
  have H1 := Lib.hid h1
  clear h h1 hR hg1
  go_enter Try.func53, Try.ntmps53
  go_wp2_with (first
    | ((with_reducible show wpList _ _ _ (⟨some 4, .alloc _, _, _, _, _⟩ :: _) _ _); refine wpList_alloc_var (o := ⟨some 4, _, _, _, _, _⟩) rfl 46 rfl g1 HG1.out _ HZ.out ?_; intro x1 X1 B1; have HX := Lib.hid (CBox.below HXg.out B1.out HL.out); have hlx := lt_of_heap X1.out; have HS1 := Lib.hid (H1.out.below (HG1.out.symm ▸ B1.out)); obtain ⟨d0, d1, d2, d3, d4⟩ := HX.out.at_)
    | fail)
  clear hg hw1 c0 c1 c2 c3 c4
  refine (pop15 HS1.out).mono ?_
  rintro e x2 ⟨rfl, ht⟩
  have HT := Lib.hid ht
  have HA := Lib.hid (HAK.out _ _ _ _ _ ht X1.out hlx)
  clear ht d0 d1 d2 d3 d4
  go_wp2_with (first
    | ((with_reducible show wpList _ _ _ (⟨none, .store _ (.tmp 4) _, _, _, _, _⟩ :: _) _ _); refine wpList_store_only (o := ⟨none, .store 46 (.tmp 4) (.tmp 14), _, _, _, _⟩) rfl _ _ _ rfl rfl g1 #[.int .i64 0, .bool (anyQ Q), .string (firstQ Q), .slice none 0 0, .slice none 0 0, .int .u64 0] rfl rfl 46 _ HA.out size_answer rfl (onesA _ _ _ _ _ _ _ _ _ _) ?_; intro x9 X9 T9)
    | fail)
  refine bodyPost_ret (results_v1 (cs := [.int .i64 0, .bool (anyQ Q), .string (firstQ Q), .slice none 0 0, .slice none 0 0, .int .u64 0]) rfl Try.underlying46 rfl X9.out size_answer) rfl ?_
  exact HFIN.out _ _ _ B1.out hlx HT.out T9.out
set_option maxHeartbeats 1600000 in
theorem aget_any {w : World} {p : Nat} {v1 v2 : Value} {L : List Kv} {Q : List ByteArray} (h : Shm w p v1 v2 L Q) (c : Cal) : Calls Try.prog 49 #[.pointer (some ⟨p, 0, none⟩), .agg #[.int .i64 c.kd, .string c.key, .string c.val, .string c.to_, .slice c.ga c.gn c.gc]] w (ApTo w p v1 v2 (L) (Q) (hasK L c.key) (valK L c.key) [] []) := by
  obtain ⟨g, hg⟩ : ∃ g, w.heap.size = g := ⟨_, rfl⟩
  obtain ⟨w1, hw1⟩ : ∃ w1, w.alloc (.cells #[.int .i64 c.kd, .string c.key, .string c.val, .string c.to_, .slice c.ga c.gn c.gc] 31) = w1 := ⟨_, rfl⟩
  have HXg : Hid (CBox w1 g c) := by rw [← hw1, ← hg]; exact heap_alloc_new w _
  have HBg : Hid (Below g w w1) := by rw [← hw1, ← hg]; exact (Below.refl _ _).alloc (Nat.le_refl _) _
  have HGg : Hid (w.heap.size = g) := hg
  have h1 := h.below (hg ▸ HBg.out)
  obtain ⟨g1, hg1⟩ : ∃ g1, w1.heap.size = g1 := ⟨_, rfl⟩
  have HG1 := Lib.hid hg1
  have HL : Hid (g < g1) := hg1 ▸ HXg.out.lt
  have HZ := Lib.hid zero_answer
  have HNO : Hid (∀ k, shOwn p v1 v2 k → k < g) := fun k hk => hg ▸ h.lt hk
  obtain ⟨R, hR⟩ : ∃ R, ApTo w p v1 v2 (L) (Q) (hasK L c.key) (valK L c.key) [] [] = R := ⟨_, rfl⟩
  have HFIN : Hid (∀ a a' W, Below g1 w1 a → g1 < a.heap.size → ShTo a p v1 v2 (L) (Q) a' → Turns g1 g1 a' W → R (.returned (.agg #[.int .i64 0, .bool (hasK L c.key), .string (valK L c.key), .slice none 0 0, .slice none 0 0, .int .u64 0])) W) := fun a a' W k1 k2 k3 k4 => by
    rw [← hR]
    exact ⟨none, 0, none, 0, rfl, World.ownsRow_nil _ _ _ _, World.ownsRow_nil _ _ _ _, k3.aside (hg ▸ HBg.out.trans (k1.mono (Nat.le_of_lt HL.out))) (by have := HL.out; omega) k2 (fun e => by have := HNO.out _ e; have := HL.out; omega) (stay_of_turns k4)⟩
  have HAK : Hid (∀ a a' L' Q' o, ShTo a p v1 v2 L' Q' a' → a.heap[g1]? = some o → g1 < a.heap.size → a'.heap[g1]? = some o) := fun a a' L' Q' o k1 k2 k3 => by
    obtain ⟨_, _, _, k4, _⟩ := k1
    exact (k4.block g1 (fun e => by have := HNO.out _ e; have := HL.out; omega) k3).trans k2
  rw [hR]
  obtain ⟨c0, c1, c2, c3, c4⟩ := HXg.out.at_
  have H1 := Lib.hid h1
  clear h h1 hR hg1
  go_enter Try.func49, Try.ntmps49
  go_wp2_with (first
    | ((with_reducible show wpList _ _ _ (⟨some 4, .alloc _, _, _, _, _⟩ :: _) _ _); refine wpList_alloc_var (o := ⟨some 4, _, _, _, _, _⟩) rfl 46 rfl g1 HG1.out _ HZ.out ?_; intro x1 X1 B1; have HX := Lib.hid (CBox.below HXg.out B1.out HL.out); have hlx := lt_of_heap X1.out; have HS1 := Lib.hid (H1.out.below (HG1.out.symm ▸ B1.out)); obtain ⟨d0, d1, d2, d3, d4⟩ := HX.out.at_)
    | fail)
  clear hg hw1 c0 c1 c2 c3 c4
  obtain ⟨A, cc, B, dd, rfl, rfl, hv⟩ := HS1.out.shv
  obtain ⟨p0, p1⟩ := cells2 HS1.out.mem
  have HGE : Hid (∀ W, Below x1.heap.size x1 W → Calls Try.prog 15 #[.agg #[.slice A L.length cc, .slice B Q.length dd], .string c.key] W fun e w' => e = .returned (.tuple #[.string (valK L c.key), .bool (hasK L c.key)]) ∧ Below W.heap.size W w') := fun W hW => get15_any (hv.below hW) c.key
  have HD : Hid (Below x1.heap.size x1 x1.drew) := (Below.refl _ _).drew
  go_wp2
  go_region_held3 (fun w' => w'.cell? ⟨p, 0, none⟩ = some (.slice A L.length cc) ∧ w'.cell? ⟨p, 1, none⟩ = some (.slice B Q.length dd) ∧ w'.cell? ⟨g, 1, none⟩ = some (.string c.key)) (go_keep)
    (first
      | (go_at_call 15; refine (HGE.out _ HD.out).mono ?_; rintro e x2 ⟨rfl, hb⟩; have HT := Lib.hid (ShTo.refl HS1.out (HD.out.trans hb)); have HA := Lib.hid (HAK.out _ _ _ _ _ HT.out X1.out hlx); have HS2 := Lib.hid (HS1.out.below (HD.out.trans hb)); have HX2 := Lib.hid (HX.out.below (HD.out.trans hb) HX.out.lt); clear hb; obtain ⟨q0, q1⟩ := cells2 HS2.out.mem; obtain ⟨e0, e1, e2, e3, e4⟩ := HX2.out.at_))
  go_wp2_with (first
    | ((with_reducible show wpList _ _ _ (⟨none, .store _ (.tmp 4) _, _, _, _, _⟩ :: _) _ _); refine wpList_store_only (o := ⟨none, .store 46 (.tmp 4) (.tmp 18), _, _, _, _⟩) rfl _ _ _ rfl rfl g1 #[.int .i64 0, .bool (hasK L c.key), .string (valK L c.key), .slice none 0 0, .slice none 0 0, .int .u64 0] rfl rfl 46 _ HA.out size_answer rfl (onesA _ _ _ _ _ _ _ _ _ _) ?_; intro x9 X9 T9)
    | fail)
  refine bodyPost_ret (results_v1 (cs := [.int .i64 0, .bool (hasK L c.key), .string (valK L c.key), .slice none 0 0, .slice none 0 0, .int .u64 0]) rfl Try.underlying46 rfl X9.out size_answer) rfl ?_
  exact HFIN.out _ _ _ B1.out hlx HT.out T9.out

end Go.Proofs.Ytpmgnhijiodbaaa
