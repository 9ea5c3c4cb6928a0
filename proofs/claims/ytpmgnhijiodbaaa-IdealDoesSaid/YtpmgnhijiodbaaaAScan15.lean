/-
  Proved here: what a scan leaves of a store, and answers.
  Conditions: less than 10^6 pairs and texts.
-/
import Derived.Test.YtpmgnhijiodbaaaAppB15
namespace Go.Proofs.Ytpmgnhijiodbaaa
open Go Go.RowKit
set_option maxRecDepth 100000

/-- Is a pair in a scan's range? -/
def inR (c : Cal) (x : Kv) : Bool := !ltK x.k c.key && (c.to_.toList.isEmpty || ltK x.k c.to_)
theorem filter_snoc {α : Type} (p : α → Bool) (L : List α) (i : Nat) (x : α) (h : L[i]? = some x) : (L.take (i + 1)).filter p = if p x = true then (L.take i).filter p ++ [x] else (L.take i).filter p := by
  rw [List.take_add_one, List.filter_append, h]
  cases hp : p x <;> simp [hp]
set_option maxHeartbeats 3200000 in
theorem ascan_any {w : World} {p : Nat} {v1 v2 : Value} {L : List Kv} {Q : List ByteArray} (h : Shm w p v1 v2 L Q) (c : Cal) : Calls Try.prog 54 #[.pointer (some ⟨p, 0, none⟩), .agg #[.int .i64 c.kd, .string c.key, .string c.val, .string c.to_, .slice c.ga c.gn c.gc]] w (ApTo w p v1 v2 L Q false ⟨#[]⟩ (L.filter (inR c)) []) := by
  obtain ⟨g, hg⟩ : ∃ g, w.heap.size = g := ⟨_, rfl⟩
  obtain ⟨w1, hw1⟩ : ∃ w1, w.alloc (.cells #[.int .i64 c.kd, .string c.key, .string c.val, .string c.to_, .slice c.ga c.gn c.gc] 31) = w1 := ⟨_, rfl⟩
  have HXg : Hid (CBox w1 g c) := by rw [← hw1, ← hg]; exact heap_alloc_new w _
  have HBg : Hid (Below g w w1) := by rw [← hw1, ← hg]; exact (Below.refl _ _).alloc (Nat.le_refl _) _
  have HGg : Hid (w.heap.size = g) := hg
  have h1 := h.below (hg ▸ HBg.out)
  obtain ⟨g1, hg1⟩ : ∃ g1, w1.heap.size = g1 := ⟨_, rfl⟩
  have HG1 := Lib.hid hg1
  have HL : Hid (g < g1) := hg1 ▸ HXg.out.lt
  have HZ := Lib.hid zero_answer
  have HZP := Lib.hid zero_pair
  have HNO : Hid (∀ k, shOwn p v1 v2 k → k < g) := fun k hk => hg ▸ h.lt hk
  obtain ⟨R, hR⟩ : ∃ R, ApTo w p v1 v2 L Q false ⟨#[]⟩ (L.filter (inR c)) [] = R := ⟨_, rfl⟩
  have HFIN : Hid (∀ a a' W A cc n, Below g1 w1 a → g1 < a.heap.size → ShTo a p v1 v2 L Q a' → Turns g1 g1 a' W → n = (L.filter (inR c)).length → a'.ownsRow a.heap.size RP.tE RP.k (.slice A n cc) n (RP.enc (L.filter (inR c))) → R (.returned (.agg #[.int .i64 0, .bool false, .string ⟨#[]⟩, .slice A n cc, .slice none 0 0, .int .u64 0])) W) := fun a a' W A cc n k1 k2 k3 k4 k5 k6 => by
    subst k5
    rw [← hR]
    refine ⟨A, cc, none, 0, rfl, own_mono (own_same k6 (fun k hk => k4.block k ?_ ?_ (own_ltN k6 hk))) (by rw [hg]; have := k1.size; have := HL.out; have := HG1.out; omega), World.ownsRow_nil _ _ _ _, k3.aside (hg ▸ HBg.out.trans (k1.mono (Nat.le_of_lt HL.out))) (by have := HL.out; omega) k2 (fun e => by have := HNO.out _ e; have := HL.out; omega) (stay_of_turns k4)⟩
    · have := own_ge k6 k hk; omega
    · have := own_ge k6 k hk; omega
  rw [hR]
  obtain ⟨c0, c1, c2, c3, c4⟩ := HXg.out.at_
  have H1 := Lib.hid h1
  have HLN : Hid (L.length < 1000000) := h.l1
  obtain ⟨F, hF⟩ : ∃ F : Nat → List Kv, F = fun i => (L.take i).filter (inR c) := ⟨_, rfl⟩
  have HF0 : Hid (F 0 = []) := by rw [hF]; rfl
  have HFS : Hid (∀ i x, L[i]? = some x → F (i + 1) = if inR c x = true then F i ++ [x] else F i) := fun i x hx => by
    rw [hF]
    exact filter_snoc _ L i x hx
  have HFN : Hid (F L.length = L.filter (inR c)) := by rw [hF]; show _ = _; simp
  have HFL : Hid (∀ i, (F i).length ≤ i) := fun i => by
    rw [hF]
    have h1 := List.length_filter_le (inR c) (L.take i)
    rw [List.length_take] at h1
    show (List.filter (inR c) (L.take i)).length ≤ i
    omega
  have HIN : Hid (∀ x, inR c x = (!ltK x.k c.key && (c.to_.toList.isEmpty || ltK x.k c.to_))) := fun x => rfl
  clear h h1 hR hg1 hF
  go_enter Try.func54, Try.ntmps54
  go_wp2_with (first
    | ((with_reducible show wpList _ _ _ (⟨some 4, .alloc _, _, _, _, _⟩ :: _) _ _); refine wpList_alloc_var (o := ⟨some 4, _, _, _, _, _⟩) rfl 46 rfl g1 HG1.out _ HZ.out ?_; intro x1 X1 B1; have HX := Lib.hid (CBox.below HXg.out B1.out HL.out); have hlx := lt_of_heap X1.out; have HS1 := Lib.hid (H1.out.below (HG1.out.symm ▸ B1.out)); obtain ⟨A, cc, B, dd, hv1, hv2, hv⟩ := HS1.out.shv; have hme := HS1.out.mem; rw [hv1] at hme; obtain ⟨p0, p1⟩ := cells2 hme)
    | fail)
  clear hg hw1 c0 c1 c2 c3 c4 p0 p1 hme
  have HRW := Lib.hid hv.r1
  obtain ⟨B1', hB1'⟩ : ∃ B1, x1.heap.size = B1 := ⟨_, rfl⟩
  have HBS := Lib.hid hB1'
  have HLX : Hid (g1 < B1') := hB1' ▸ hlx
  have HN : Hid (∃ n, L.length = n) := ⟨_, rfl⟩
  obtain ⟨n, hn⟩ := HN.out
  have HNN := Lib.hid hn
  have HNM : Hid (n ≤ 1000000) := by have := HLN.out; show _ ≤ _; omega
  have hnm := HNM.out
  clear hv hv1 hv2 hB1' hlx
  rw [hn]
  clear hn
  go_loopg [5, 13] n (fun gk s5 s13 wx => ∃ (i : Nat) (A2 : Option Addr) (m c2 : Nat), i + gk = n ∧ s13 = .int .i64 i ∧ s5 = .slice A2 m c2 ∧ Hid ((F i).length = m) ∧ Hid (wx.ownsRow B1' RP.tE RP.k (.slice A2 m c2) m (RP.enc (F i))) ∧ Hid (Below B1' x1 wx))
  case atStart => exact ⟨0, none, 0, 0, by omega, rfl, rfl, by rw [HF0.out]; rfl, by rw [HF0.out]; exact World.ownsRow_nil _ _ _ _, Below.refl _ _⟩
  case round =>
    obtain ⟨i, A2, m, c2, hig, rfl, rfl, HML, HO, HW⟩ := hrel
    have HXW := Lib.hid (HX.out.below HW.out (by have := HL.out; have := HLX.out; omega))
    cases gk with
    | zero =>
      obtain rfl : i = n := by omega
      have hii : ¬ (i : Int) < (i : Int) := by omega
      have HAN : Hid (wr.heap[g1]? = some (.cells #[.int .i64 0, .bool false, .string ⟨#[]⟩, .slice none 0 0, .slice none 0 0, .int .u64 0] 46 (0, 0))) := (HW.out.block g1 HLX.out).trans X1.out
      have HOL : Hid (m = (L.filter (inR c)).length ∧ wr.ownsRow x1.heap.size RP.tE RP.k (.slice A2 m c2) m (RP.enc (L.filter (inR c)))) := by
        have e1 := HFN.out
        rw [HNN.out] at e1
        rw [← e1]
        exact ⟨HML.out.symm, HBS.out.symm ▸ HO.out⟩
      go_wp2_with (first
        | ((with_reducible show wpList _ _ _ (⟨none, .store _ (.tmp 4) _, _, _, _, _⟩ :: _) _ _); refine wpList_store_only (o := ⟨none, .store 46 (.tmp 4) (.tmp 40), _, _, _, _⟩) rfl _ _ _ rfl rfl g1 #[.int .i64 0, .bool false, .string ⟨#[]⟩, .slice A2 m c2, .slice none 0 0, .int .u64 0] rfl rfl 46 _ HAN.out size_answer rfl (onesA _ _ _ _ _ _ _ _ _ _) ?_; intro x9 X9 T9)
        | fail)
      refine bodyPost_ret (results_v1 (cs := [.int .i64 0, .bool false, .string ⟨#[]⟩, .slice A2 m c2, .slice none 0 0, .int .u64 0]) rfl Try.underlying46 rfl X9.out size_answer) rfl ?_
      exact HFIN.out _ _ _ _ _ _ B1.out (by rw [HBS.out]; exact HLX.out) (ShTo.refl HS1.out (HBS.out.symm ▸ HW.out)) T9.out HOL.out.1 HOL.out.2
    | succ gk =>
      have hii : (i : Int) < (n : Int) := by omega
      have hgi := List.getElem?_eq_getElem (show i < L.length by have := HNN.out; omega)
      generalize L[i]'(by have := HNN.out; omega) = x at *
      obtain ⟨b9, off9, rfl, hb9, f0, f1⟩ := pairAt (HRW.out.below (HBS.out.symm ▸ HW.out)) hgi
      have HFX := Lib.hid (HFS.out i x hgi)
      have HIX := Lib.hid (HIN.out x)
      obtain ⟨hx, hhx⟩ : ∃ hx, wr.heap.size = hx := ⟨_, rfl⟩
      have HHX := Lib.hid hhx
      have HBX : Hid (B1' ≤ hx) := by have := HW.out.size; have := HBS.out; show _ ≤ _; omega
      have HGX : Hid (g < hx) := hhx ▸ HXW.out.lt
      have HDC : Hid (∀ v, Below hx wr v → v.cell? ⟨g, 0, none⟩ = some (.int .i64 c.kd) ∧ v.cell? ⟨g, 1, none⟩ = some (.string c.key) ∧ v.cell? ⟨g, 2, none⟩ = some (.string c.val) ∧ v.cell? ⟨g, 3, none⟩ = some (.string c.to_) ∧ v.cell? ⟨g, 4, none⟩ = some (.slice c.ga c.gn c.gc)) := fun v hv => (HXW.out.below hv HGX.out).at_
      have HMI : Hid (m ≤ i) := by rw [← HML.out]; exact HFL.out i
      have HAP : Hid (∀ v, Below hx wr v → ∃ A3 c3 W, (Builtin.append_ #[22, 22] 22 #[.slice A2 m c2, .slice (some ⟨v.heap.size, 0, none⟩) 1 1]).run Try.prog (v.alloc (.cells #[.string x.k, .string x.v] 42)) = .ok (.slice A3 (m + 1) c3) W ∧ W.ownsRow B1' RP.tE RP.k (.slice A3 (m + 1) c3) (m + 1) (RP.enc (F i ++ [x])) ∧ Below B1' x1 W) := fun v hv => by
        have ho := own_keep HO.out (HHX.out.symm ▸ hv)
        obtain ⟨V, W, r1, r2, r3, r4, _⟩ := RP.run_app_one v B1' m _ (F i) x ho (by have := HMI.out; omega) (by have := HBX.out; have := hv.size; have := HHX.out; omega) 22
        obtain ⟨_, A3, c3, rfl, -⟩ := Rec.row_of_own r2 (by rw [List.length_append, HML.out]; simp; have := HMI.out; omega)
        exact ⟨A3, c3, W, r1, r2, (HW.out.trans (hv.mono HBX.out)).trans ((Below.refl _ _).grown r3 (by have := HBX.out; have := hv.size; have := HHX.out; omega) (own_ge ho))⟩
      have HML2 : Hid ((F i ++ [x]).length = m + 1) := by show _ = _; rw [List.length_append, HML.out]; rfl
      have hmm : (m : Int) ≤ 1000000 := by have := HMI.out; omega
      clear hgi hhx hb9
      obtain ⟨K, hK⟩ : ∃ K, F i ++ [x] = K := ⟨_, rfl⟩
      rw [hK] at HFX HAP HML2
      clear hK
      generalize inR c x = r at *
      unfold ltK at HIX
      generalize x.k = k0 at *
      generalize x.v = k1 at *
      generalize c.kd = cc0 at *
      generalize c.key = cc1 at *
      generalize c.val = cc2 at *
      generalize c.to_ = cc3 at *
      cases z1 : Op.bytesLess k0.toList cc1.toList with
      | true =>
        have hr : r = false := by rw [HIX.out, z1]; rfl
        subst hr
        have HFY : Hid (F (i + 1) = F i) := HFX.out
        go_wp2_with (first
          | ((with_reducible show wpList _ _ _ (⟨some 7, .alloc _, _, _, _, _⟩ :: _) _ _); refine wpList_alloc_var (o := ⟨some 7, _, _, _, _, _⟩) rfl 42 rfl hx HHX.out _ HZP.out ?_; intro y1 Y1 C1)
          | ((with_reducible show wpList _ _ _ (⟨none, .store _ (.tmp 7) _, _, _, _, _⟩ :: _) _ _); refine wpList_store_whole (o := ⟨none, .store 42 (.tmp 7) (.tmp 16), _, _, _, _⟩) rfl _ _ _ rfl rfl hx #[.string k0, .string k1] rfl rfl 42 _ Y1.out size_pair rfl (onesP _ _) ?_; intro y2 Y2 C2; have HC2 : Hid (Below hx wr y2) := C1.out.trans C2.out; obtain ⟨q0, q1⟩ := cells2 Y2.out; obtain ⟨d0, d1, d2, d3, d4⟩ := HDC.out y2 HC2.out)
          | fail)
        go_roundg gk
        case measure => omega
        case rel => exact ⟨i + 1, A2, m, c2, by omega, by go_num, rfl, by show _ = _; rw [HFY.out]; exact HML.out, by show World.ownsRow _ _ _ _ _ _ _; rw [HFY.out]; exact own_keep HO.out (HHX.out.symm ▸ HC2.out), HW.out.trans (HC2.out.mono HBX.out)⟩
      | false =>
        cases z2 : cc3.toList.isEmpty with
        | true =>
          have z4 : cc3.toList = [] := by simpa using z2
          have hr : r = true := by rw [HIX.out]; simp [z1, z2]
          subst hr
          have HFY : Hid (F (i + 1) = K) := HFX.out
          go_wp2_with (first
            | ((with_reducible show wpList _ _ _ (⟨some 7, .alloc _, _, _, _, _⟩ :: _) _ _); refine wpList_alloc_var (o := ⟨some 7, _, _, _, _, _⟩) rfl 42 rfl hx HHX.out _ HZP.out ?_; intro y1 Y1 C1)
            | ((with_reducible show wpList _ _ _ (⟨none, .store _ (.tmp 7) _, _, _, _, _⟩ :: _) _ _); refine wpList_store_whole (o := ⟨none, .store 42 (.tmp 7) (.tmp 16), _, _, _, _⟩) rfl _ _ _ rfl rfl hx #[.string k0, .string k1] rfl rfl 42 _ Y1.out size_pair rfl (onesP _ _) ?_; intro y2 Y2 C2; have HC2 : Hid (Below hx wr y2) := C1.out.trans C2.out; obtain ⟨q0, q1⟩ := cells2 Y2.out; obtain ⟨d0, d1, d2, d3, d4⟩ := HDC.out y2 HC2.out; obtain ⟨A3, c3, W3, hrun, ho3, hb3⟩ := HAP.out y2 HC2.out; have HRUN := Lib.hid hrun; have HO3 := Lib.hid ho3; have HB3 := Lib.hid hb3; clear hrun ho3 hb3)
            | (at_builtin; refine wpList_app rfl (.tmp 34) (.tmp 36) 22 rfl rfl rfl HRUN.out ?_)
            | fail)
          go_roundg gk
          case measure => omega
          case rel => exact ⟨i + 1, A3, m + 1, c3, by omega, by go_num, rfl, by show _ = _; rw [HFY.out]; exact HML2.out, by show World.ownsRow _ _ _ _ _ _ _; rw [HFY.out]; exact HO3.out, HB3.out⟩
        | false =>
          have z4 : (cc3.toList == []) = false := by simpa using z2
          cases z3 : Op.bytesLess k0.toList cc3.toList with
          | true =>
            have hr : r = true := by rw [HIX.out]; simp [z1, z3]
            subst hr
            have HFY : Hid (F (i + 1) = K) := HFX.out
            go_wp2_with (first
              | ((with_reducible show wpList _ _ _ (⟨some 7, .alloc _, _, _, _, _⟩ :: _) _ _); refine wpList_alloc_var (o := ⟨some 7, _, _, _, _, _⟩) rfl 42 rfl hx HHX.out _ HZP.out ?_; intro y1 Y1 C1)
              | ((with_reducible show wpList _ _ _ (⟨none, .store _ (.tmp 7) _, _, _, _, _⟩ :: _) _ _); refine wpList_store_whole (o := ⟨none, .store 42 (.tmp 7) (.tmp 16), _, _, _, _⟩) rfl _ _ _ rfl rfl hx #[.string k0, .string k1] rfl rfl 42 _ Y1.out size_pair rfl (onesP _ _) ?_; intro y2 Y2 C2; have HC2 : Hid (Below hx wr y2) := C1.out.trans C2.out; obtain ⟨q0, q1⟩ := cells2 Y2.out; obtain ⟨d0, d1, d2, d3, d4⟩ := HDC.out y2 HC2.out; obtain ⟨A3, c3, W3, hrun, ho3, hb3⟩ := HAP.out y2 HC2.out; have HRUN := Lib.hid hrun; have HO3 := Lib.hid ho3; have HB3 := Lib.hid hb3; clear hrun ho3 hb3)
              | (at_builtin; refine wpList_app rfl (.tmp 34) (.tmp 36) 22 rfl rfl rfl HRUN.out ?_)
              | fail)
            go_roundg gk
            case measure => omega
            case rel => exact ⟨i + 1, A3, m + 1, c3, by omega, by go_num, rfl, by show _ = _; rw [HFY.out]; exact HML2.out, by show World.ownsRow _ _ _ _ _ _ _; rw [HFY.out]; exact HO3.out, HB3.out⟩
          | false =>
            have hr : r = false := by rw [HIX.out]; simp [z1, z2, z3]
            subst hr
            have HFY : Hid (F (i + 1) = F i) := HFX.out
            go_wp2_with (first
              | ((with_reducible show wpList _ _ _ (⟨some 7, .alloc _, _, _, _, _⟩ :: _) _ _); refine wpList_alloc_var (o := ⟨some 7, _, _, _, _, _⟩) rfl 42 rfl hx HHX.out _ HZP.out ?_; intro y1 Y1 C1)
              | ((with_reducible show wpList _ _ _ (⟨none, .store _ (.tmp 7) _, _, _, _, _⟩ :: _) _ _); refine wpList_store_whole (o := ⟨none, .store 42 (.tmp 7) (.tmp 16), _, _, _, _⟩) rfl _ _ _ rfl rfl hx #[.string k0, .string k1] rfl rfl 42 _ Y1.out size_pair rfl (onesP _ _) ?_; intro y2 Y2 C2; have HC2 : Hid (Below hx wr y2) := C1.out.trans C2.out; obtain ⟨q0, q1⟩ := cells2 Y2.out; obtain ⟨d0, d1, d2, d3, d4⟩ := HDC.out y2 HC2.out)
              | fail)
            go_roundg gk
            case measure => omega
            case rel => exact ⟨i + 1, A2, m, c2, by omega, by go_num, rfl, by show _ = _; rw [HFY.out]; exact HML.out, by show World.ownsRow _ _ _ _ _ _ _; rw [HFY.out]; exact own_keep HO.out (HHX.out.symm ▸ HC2.out), HW.out.trans (HC2.out.mono HBX.out)⟩

end Go.Proofs.Ytpmgnhijiodbaaa
