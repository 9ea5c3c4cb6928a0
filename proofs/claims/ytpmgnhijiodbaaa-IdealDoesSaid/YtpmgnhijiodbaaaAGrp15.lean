/-
  Proved here: what a group leaves of a store, and answers.
  Conditions: less than 10^6 pairs and texts; a group's calls have no group.
-/
import Derived.Test.YtpmgnhijiodbaaaFlat15
import Derived.Test.YtpmgnhijiodbaaaRLong15
namespace Go.Proofs.Ytpmgnhijiodbaaa
open Go Go.RowKit
set_option maxRecDepth 100000

theorem mem_kind {G : List Cal} (hg : grpUp G G.length = true) {i : Nat} {x : Cal} (h : G[i]? = some x) : x.kd = 2 ∨ x.kd = 3 ∨ x.kd = 4 := by
  have := grpUp_at hg (List.getElem?_eq_some_iff.1 h).1 h
  rw [memB_split, Bool.and_eq_true] at this
  simpa [or_assoc] using this.1
theorem field_answer (a : Int) (b : Bool) (s : ByteArray) (p q : Option Addr) (n m k l : Nat) (e : Int) (w : World) : (Instr.field 46 (.agg #[.int .i64 a, .bool b, .string s, .slice p n m, .slice q k l, .int .u64 e]) 1).run Try.prog w = .ok (.bool b) w := by kernel_rfl
set_option maxHeartbeats 6400000 in
theorem agrp_any {w : World} {p : Nat} {v1 v2 : Value} {L : List Kv} {Q : List ByteArray} (h : Shm w p v1 v2 L Q) (hl : L.length + 100 < 1000000) (hq : Q.length + 100 < 1000000) (c : Cal) (G : List Cal) (hG : Grp w c G) (hb : grpB G = true) (hA : ∀ b off, c.ga = some ⟨b, off, none⟩ → ¬ shOwn p v1 v2 b) :
    Calls Try.prog 55 #[.pointer (some ⟨p, 0, none⟩), .agg #[.int .i64 c.kd, .string c.key, .string c.val, .string c.to_, .slice c.ga c.gn c.gc]] w (ApTo w p v1 v2 (gL G L) (gQ G Q) false ⟨#[]⟩ [] (hitsG G L Q)) := by
  unfold grpB at hb
  simp only [Bool.and_eq_true, decide_eq_true_eq] at hb
  obtain ⟨⟨hb1, hb2⟩, hb3⟩ := hb
  obtain ⟨g, hg⟩ : ∃ g, w.heap.size = g := ⟨_, rfl⟩
  obtain ⟨w1, hw1⟩ : ∃ w1, w.alloc (.cells #[.int .i64 c.kd, .string c.key, .string c.val, .string c.to_, .slice c.ga c.gn c.gc] 31) = w1 := ⟨_, rfl⟩
  have HXg : Hid (CBox w1 g c) := by rw [← hw1, ← hg]; exact heap_alloc_new w _
  have HBg : Hid (Below g w w1) := by rw [← hw1, ← hg]; exact (Below.refl _ _).alloc (Nat.le_refl _) _
  have HGg : Hid (w.heap.size = g) := hg
  have h1 := h.below (hg ▸ HBg.out)
  have hG1 := hG.below (w' := w1) (hg ▸ HBg.out)
  obtain ⟨g1, hg1⟩ : ∃ g1, w1.heap.size = g1 := ⟨_, rfl⟩
  have HG1 := Lib.hid hg1
  have HL : Hid (g < g1) := hg1 ▸ HXg.out.lt
  have HZ := Lib.hid zero_answer
  have HZC := Lib.hid zero_call
  have HNO : Hid (∀ k, shOwn p v1 v2 k → k < g) := fun k hk => hg ▸ h.lt hk
  have HKD : Hid (∀ (i : Nat) (x : Cal), G[i]? = some x → x.kd = 2 ∨ x.kd = 3 ∨ x.kd = 4) := fun i x hx => mem_kind hb3 hx
  obtain ⟨n, hn⟩ : ∃ n, G.length = n := ⟨_, rfl⟩
  have HN := Lib.hid hn
  have hgn : c.gn = n := hG.len.symm.trans hn
  have hn3 : n ≤ 3 := by omega
  have hn1 : 1 ≤ n := by omega
  obtain ⟨bG, offG, hga, hbG, -⟩ := hG.row.2 (by omega)
  have HGR : Hid (RC.Row w1 (some ⟨bG, offG, none⟩) G) := hga ▸ hG1.row
  have HGB : Hid (bG < g ∧ ¬ shOwn p v1 v2 bG) := ⟨hg ▸ hbG, hA bG offG hga⟩
  obtain ⟨R, hR⟩ : ∃ R, ApTo w p v1 v2 (gL G L) (gQ G Q) false ⟨#[]⟩ [] (hitsG G L Q) = R := ⟨_, rfl⟩
  have HFIN : Hid (∀ (a' W : World) u1 u2 gh, Shm a' p u1 u2 (gL G L) (gQ G Q) → Stay (fun k => shOwn p v1 v2 k ∨ k = g1 ∨ k = gh) w a' → (∀ k, shOwn p u1 u2 k → (shOwn p v1 v2 k ∨ g1 < k) ∧ k ≠ gh) → g1 < gh → a'.ownsRow gh RB.tE RB.k (.slice (some ⟨gh, 0, none⟩) n n) n (RB.enc (hitsG G L Q)) → Turns g1 g1 a' W → R (.returned (.agg #[.int .i64 0, .bool false, .string ⟨#[]⟩, .slice none 0 0, .slice (some ⟨gh, 0, none⟩) n n, .int .u64 0])) W) := fun a' W u1 u2 gh k1 k2 k3 k4 k5 k6 => by
    have hgw := HGg.out
    have hgg := HL.out
    have hlen : (hitsG G L Q).length = n := by rw [← hn]; simp [hitsG]
    rw [← hR]
    refine ⟨none, 0, some ⟨gh, 0, none⟩, n, by rw [hlen]; rfl, World.ownsRow_nil _ _ _ _, ?_, u1, u2, ?_, ?_, ?_⟩
    · rw [hlen]
      exact own_mono (own_same k5 (fun k hk => by cases hk; exact k6.block gh (by omega) (by omega) (own_ltN k5 rfl))) (by omega)
    · exact k1.stay (stay_of_turns k6) (fun k hk e => by
        rcases (k3 k hk).1 with e2 | e2
        · have := HNO.out k e2; omega
        · omega)
    · have := k2.new (stay_of_turns k6) (fun i e => .inl (.inr (.inl e)))
      exact this.mono (fun k hk e => by
        rcases e with e | e | e
        · exact e
        · omega
        · omega)
    · intro k hk
      rcases (k3 k hk).1 with e | e
      · exact .inl e
      · exact .inr (by omega)
  rw [hR]
  obtain ⟨c0, c1, c2, c3, c4⟩ := HXg.out.at_
  have HC4 : Hid (∀ y, CBox y g c → y.cell? ⟨g, 4, none⟩ = some (.slice (some ⟨bG, offG, none⟩) n c.gc)) := fun y hy => by rw [← hga, ← hgn]; exact hy.at_.2.2.2.2
  have HKX : Hid (∀ (i : Nat) (x : Cal), G[i]? = some x → hitsU G L Q (i + 1) = (hitsU G L Q i).set i (fnd x (gL (G.take i) L) (gQ (G.take i) Q))) := fun i x hx => (hitsU_succ hx).symm
  have HLX1 : Hid (∀ (i : Nat) (x : Cal), G[i]? = some x → gL (G.take (i + 1)) L = stL x (gL (G.take i) L) ∧ gQ (G.take (i + 1)) Q = stQ x (gQ (G.take i) Q)) := fun i x hx => ⟨gL_succ hx, gQ_succ hx⟩
  have HLEN : Hid (∀ i, i ≤ n → (gL (G.take i) L).length ≤ L.length + n ∧ (gQ (G.take i) Q).length ≤ Q.length + n) := fun i hi => by
    have h1 := gL_len (G.take i) L
    have h2 := gQ_len (G.take i) Q
    rw [List.length_take] at h1 h2
    omega
  have HALL : Hid (G.take n = G ∧ hitsU G L Q n = hitsG G L Q ∧ hitsU G L Q 0 = List.replicate n false ∧ ∀ i, (hitsU G L Q i).length = n) := ⟨by rw [← hn]; exact List.take_length, by rw [← hn]; exact hitsU_all _ _ _, by rw [← hn]; exact hitsU_zero _ _ _, fun i => by rw [← hn]; exact hitsU_len _ _ _ _⟩
  have H1 := Lib.hid h1
  have HBW := Lib.hid HBg.out
  have HEF := Lib.hid (fun w' => effects_any w')
  have HMB := Lib.hid (fun w' => madeB w' n (by omega))
  have HLM : Hid (L.length + 100 < 1000000 ∧ Q.length + 100 < 1000000) := ⟨hl, hq⟩
  clear h h1 hR hg1 hG hG1 hA hb1 hb2 hb3 hga hgn hbG hl hq
  go_enter Try.func55, Try.ntmps55
  go_wp2_with (first
    | ((with_reducible show wpList _ _ _ (⟨some 4, .alloc _, _, _, _, _⟩ :: _) _ _); refine wpList_alloc_var (o := ⟨some 4, _, _, _, _, _⟩) rfl 46 rfl g1 HG1.out _ HZ.out ?_; intro x1 X1 B1; have HX := Lib.hid (CBox.below HXg.out B1.out HL.out); have hlx := lt_of_heap X1.out; have HS1 := Lib.hid (H1.out.below (HG1.out.symm ▸ B1.out)))
    | fail)
  clear hg hw1
  refine (HEF.out x1).mono ?_
  rintro e x2 ⟨bm, rfl, hm, hbm, hbe⟩
  obtain ⟨gh, hgh⟩ : ∃ gh, x2.heap.size = gh := ⟨_, rfl⟩
  obtain ⟨x3, hmk, ho3, hb3⟩ := HMB.out x2
  rw [hgh] at hmk ho3 hb3
  have HLX : Hid (g1 < x1.heap.size) := hlx
  have HBM : Hid (g1 < bm ∧ bm < gh) := ⟨Nat.lt_of_lt_of_le hlx hbm, hgh ▸ hm.lt⟩
  have HGH : Hid (g1 < gh) := Nat.lt_trans HBM.out.1 HBM.out.2
  have hb13 : Below x1.heap.size x1 x3 := hbe.trans (hb3.mono (by have := hbe.size; omega))
  have HS3 := Lib.hid (HS1.out.below hb13)
  have HX2 := Lib.hid (HX.out.below hbe (Nat.lt_trans HL.out hlx))
  have HX3 := Lib.hid (HX.out.below hb13 (Nat.lt_trans HL.out hlx))
  have HA3 := Lib.hid ((hb13.block g1 hlx).trans X1.out)
  have HM3 : Hid (MapF x3 bm 8) := hm.stay (hb3.block bm HBM.out.2)
  have HB03 : Hid (Below g w x3) := HBW.out.trans ((B1.out.trans (hb13.mono (Nat.le_of_lt hlx))).mono (Nat.le_of_lt HL.out))
  have HR3 : Hid (RC.Row x3 (some ⟨bG, offG, none⟩) G) := (HGR.out.below (HG1.out.symm ▸ B1.out)).below hb13
  have HO3 := Lib.hid ho3
  have HG3 : Hid (gh < x3.heap.size) := own_ltN ho3 rfl
  clear hbm hbe hb13 ho3 hb3 hm hlx hgh c0 c1 c2 c3 c4
  have hc4 := HC4.out x2 HX2.out
  have hd4 := HC4.out x3 HX3.out
  have hmu := hmk
  have hz0 : (0 : Int) ≤ (n : Int) := by omega
  go_wp2
  clear hc4 hd4 hmu hmk
  go_loopg [17] n (fun gk s17 wx => ∃ (i : Nat) (u1 u2 : Value), i + gk = n ∧ s17 = .int .i64 i ∧ Hid (Shm wx p u1 u2 (gL (G.take i) L) (gQ (G.take i) Q)) ∧ Hid (Stay (fun k => shOwn p v1 v2 k ∨ k = gh) x3 wx) ∧ Hid (∀ k, shOwn p u1 u2 k → shOwn p v1 v2 k ∨ x3.heap.size ≤ k) ∧ Hid (wx.ownsRow gh RB.tE RB.k (.slice (some ⟨gh, 0, none⟩) n n) n (RB.enc (hitsU G L Q i))))
  case atStart => exact ⟨0, v1, v2, by omega, rfl, HS3.out, Stay.refl _ _, fun k hk => .inl hk, by rw [HALL.out.2.2.1]; exact HO3.out⟩
  case round =>
    obtain ⟨i, u1, u2, hig, rfl, HS, HST, HOW, HO⟩ := hrel
    have HKEEP : Hid (∀ k, g ≤ k → k < gh → wr.heap[k]? = x3.heap[k]?) := fun k hk1 hk2 => HST.out.block k (fun e => by
      rcases e with e | e
      · have := HNO.out k e; omega
      · omega) (by have := HG3.out; omega)
    cases gk with
    | zero =>
      obtain rfl : i = n := by omega
      have hii : ¬ (i : Int) < (i : Int) := by omega
      have HAN : Hid (wr.heap[g1]? = some (.cells #[.int .i64 0, .bool false, .string ⟨#[]⟩, .slice none 0 0, .slice none 0 0, .int .u64 0] 46 (0, 0))) := (HKEEP.out g1 (Nat.le_of_lt HL.out) HGH.out).trans HA3.out
      have HSF : Hid (Shm wr p u1 u2 (gL G L) (gQ G Q)) := by have := HS.out; rw [HALL.out.1] at this; exact this
      have HOF : Hid (wr.ownsRow gh RB.tE RB.k (.slice (some ⟨gh, 0, none⟩) i i) i (RB.enc (hitsG G L Q))) := by have := HO.out; rw [HALL.out.2.1] at this; exact this
      have HTF : Hid (Stay (fun k => shOwn p v1 v2 k ∨ k = g1 ∨ k = gh) w wr) := (Stay.of_below (HGg.out.symm ▸ HB03.out)).trans (HST.out.mono (fun k _ e => e.imp id .inr))
      go_wp2_with (first
        | ((with_reducible show wpList _ _ _ (⟨none, .store _ (.tmp 4) _, _, _, _, _⟩ :: _) _ _); refine wpList_store_only (o := ⟨none, .store 46 (.tmp 4) (.tmp 35), _, _, _, _⟩) rfl _ _ _ rfl rfl g1 #[.int .i64 0, .bool false, .string ⟨#[]⟩, .slice none 0 0, .slice (some ⟨gh, 0, none⟩) i i, .int .u64 0] rfl rfl 46 _ HAN.out size_answer rfl (onesA _ _ _ _ _ _ _ _ _ _) ?_; intro x9 X9 T9)
        | fail)
      refine bodyPost_ret (results_v1 (cs := [.int .i64 0, .bool false, .string ⟨#[]⟩, .slice none 0 0, .slice (some ⟨gh, 0, none⟩) i i, .int .u64 0]) rfl Try.underlying46 rfl X9.out size_answer) rfl ?_
      exact HFIN.out _ _ _ _ _ HSF.out HTF.out (fun k hk => ⟨(HOW.out k hk).imp id (fun e => Nat.lt_of_lt_of_le (Nat.lt_trans HGH.out HG3.out) e), fun e => by
        rcases HOW.out k hk with e2 | e2
        · have := HNO.out k e2; have := HL.out; have := HGH.out; omega
        · have := HG3.out; omega⟩) HGH.out HOF.out T9.out
    | succ gk =>
      have hii : (i : Int) < (n : Int) := by omega
      have hi0 : (0 : Int) ≤ (i : Int) := by omega
      have hgi := List.getElem?_eq_getElem (show i < G.length by have := HN.out; omega)
      generalize G[i]'(by have := HN.out; omega) = x at *
      have hrw : RC.Row wr (some ⟨bG, offG, none⟩) G := HR3.out.same HST.out.size (fun z hz hlt => by
        cases hz
        exact HST.out.block bG (fun e => by
          rcases e with e | e
          · exact HGB.out.2 e
          · have := HGB.out.1; have := HL.out; have := HGH.out; omega) hlt)
      obtain ⟨b9, off9, e9, -, f0, f1, f2, f3, f4⟩ := callAt hrw hgi
      cases e9
      have hkk := HKD.out i x hgi
      have HXS := Lib.hid (HLX1.out i x hgi)
      have HXH := Lib.hid (HKX.out i x hgi)
      have HGLL : Hid ((gL (G.take i) L).length ≤ L.length + 3) := by have := (HLEN.out i (by omega)).1; show _ ≤ _; omega
      have HGQL : Hid ((gQ (G.take i) Q).length ≤ Q.length + 3) := by have := (HLEN.out i (by omega)).2; show _ ≤ _; omega
      obtain ⟨hx, hhx⟩ : ∃ hx, wr.heap.size = hx := ⟨_, rfl⟩
      have HHX := Lib.hid hhx
      have HGX : Hid (gh < hx) := hhx ▸ own_ltN HO.out rfl
      have HMY : Hid (∀ y, Below hx wr y → MapF y bm 8) := fun y hy => HM3.out.stay ((hy.block bm (Nat.lt_trans HBM.out.2 HGX.out)).trans (HKEEP.out bm (Nat.le_of_lt (Nat.lt_trans HL.out HBM.out.1)) HBM.out.2))
      have HSS : Hid (∀ y, Below hx wr y → Shm y p u1 u2 (gL (G.take i) L) (gQ (G.take i) Q)) := fun y hy => HS.out.below (HHX.out.symm ▸ hy)
      have HNX : Hid (∀ (y y' : World) u3 u4, Below hx wr y → Shm y' p u3 u4 (stL x (gL (G.take i) L)) (stQ x (gQ (G.take i) Q)) → Stay (shOwn p u1 u2) y y' → (∀ k, shOwn p u3 u4 k → shOwn p u1 u2 k ∨ y.heap.size ≤ k) → (∃ u, y'.cell? ⟨gh, i, none⟩ = some u) ∧ y'.frozen? ⟨gh, i, none⟩ = false ∧ (Shm (y'.setCell ⟨gh, i, none⟩ (.bool (fnd x (gL (G.take i) L) (gQ (G.take i) Q)))) p u3 u4 (gL (G.take (i + 1)) L) (gQ (G.take (i + 1)) Q) ∧ Stay (fun k => shOwn p v1 v2 k ∨ k = gh) x3 (y'.setCell ⟨gh, i, none⟩ (.bool (fnd x (gL (G.take i) L) (gQ (G.take i) Q)))) ∧ (∀ k, shOwn p u3 u4 k → shOwn p v1 v2 k ∨ x3.heap.size ≤ k) ∧ (y'.setCell ⟨gh, i, none⟩ (.bool (fnd x (gL (G.take i) L) (gQ (G.take i) Q)))).ownsRow gh RB.tE RB.k (.slice (some ⟨gh, 0, none⟩) n n) n (RB.enc (hitsU G L Q (i + 1))))) := fun y y' u3 u4 hy k1 k2 k3 => by
        have hgx := HGX.out
        have hnu : ¬ shOwn p u1 u2 gh := fun e => by
          rcases HOW.out gh e with e2 | e2
          · have := HNO.out _ e2; have := HL.out; have := HGH.out; omega
          · have := HG3.out; omega
        have hys : hx ≤ y.heap.size := by have := hy.size; have := HHX.out; omega
        have hown : y'.ownsRow gh RB.tE RB.k (.slice (some ⟨gh, 0, none⟩) n n) n (RB.enc (hitsU G L Q i)) := own_same HO.out (fun k hk => by
          cases hk
          exact (k2.block gh hnu (by omega)).trans (hy.block gh hgx))
        have how : ∀ k, shOwn p u3 u4 k → shOwn p v1 v2 k ∨ x3.heap.size ≤ k := fun k hk => by
          rcases k3 k hk with e | e
          · exact HOW.out k e
          · exact .inr (by have := HST.out.size; have := HHX.out; omega)
        obtain ⟨cur, m1, m2, m3, m4, m5, _⟩ := Rec.own_block hown
        have m4' : cur.size = n * 1 := m4
        have hset := Rec.own_set hown (HALL.out.2.2.2 i) (show i < n by omega) (fnd x (gL (G.take i) L) (gQ (G.take i) Q))
        rw [show i * RB.k = i from Nat.mul_one i, ← HXH.out] at hset
        refine ⟨Option.isSome_iff_exists.1 (cell_some m1 (by omega)), by simp [World.frozen?, m1], ?_, ?_, how, hset⟩
        · rw [HXS.out.1, HXS.out.2]
          exact k1.stay (Stay.setCell (S := fun k => k = gh) _ _ _ _ rfl) (fun k hk e => by
            subst e
            rcases how k hk with e2 | e2
            · have := HNO.out _ e2; have := HL.out; have := HGH.out; omega
            · have := HG3.out; omega)
        · refine ((HST.out.trans (Stay.of_below (HHX.out.symm ▸ hy))).new (S' := shOwn p u1 u2) k2 (fun k hk => ?_)).trans (Stay.setCell _ _ _ _ (.inr rfl))
          rcases HOW.out k hk with e | e
          · exact .inl (.inl e)
          · exact .inr e
      clear hgi hhx hrw
      rcases hkk with hk | hk | hk
      · have HFC := Lib.hid (fun (y : World) (hy : Shm y p u1 u2 (gL (G.take i) L) (gQ (G.take i) Q)) => flat_any hy (by have := HGLL.out; have := HLM.out.1; omega) (by have := HGQL.out; have := HLM.out.2; omega) x 1 (by omega) (by omega) (by rw [hk]; rfl))
        have eg : ∀ args w, (callFunc 50 args).run Try.prog w = .ok (.enter 50 args) w := flat_enter 1 (by omega)
        have HLK : Hid (∀ y, MapF y bm 8 → (Instr.lookup 71 (.map (some bm)) (.int .i64 2) false).run Try.prog y = .ok (.func (.func 50) #[] #[]) y) := fun y hy => hy.look 1 (by omega)
        generalize fnd x (gL (G.take i) L) (gQ (G.take i) Q) = fz at *
        have hfld := fun (s : ByteArray) (p q : Option Addr) (n m k l : Nat) (w : World) => field_answer 0 fz s p q n m k l 0 w
        rw [hk] at HFC f0
        generalize x.key = k1 at *
        generalize x.val = k2 at *
        generalize x.to_ = k3 at *
        generalize x.ga = k4 at *
        generalize x.gn = k5 at *
        generalize x.gc = k6 at *
        go_wp2_with (first
          | ((with_reducible show wpList _ _ _ (⟨some 8, .alloc _, _, _, _, _⟩ :: _) _ _); refine wpList_alloc_var (o := ⟨some 8, _, _, _, _, _⟩) rfl 31 rfl hx HHX.out _ HZC.out ?_; intro y1 Y1 C1)
          | ((with_reducible show wpList _ _ _ (⟨none, .store _ (.tmp 8) _, _, _, _, _⟩ :: _) _ _); refine wpList_store_whole (o := ⟨none, .store 31 (.tmp 8) (.tmp 21), _, _, _, _⟩) rfl _ _ _ rfl rfl hx #[.int .i64 2, .string k1, .string k2, .string k3, .slice k4 k5 k6] rfl rfl 31 _ Y1.out size_call rfl (onesC _ _ _ _ _ _ _) ?_; intro y2 Y2 C2; have HC2 : Hid (Below hx wr y2) := C1.out.trans C2.out; obtain ⟨q0, q1, q2, q3, q4⟩ := cells5 Y2.out; have HLU := Lib.hid (HLK.out y2 (HMY.out y2 HC2.out)); have HSY := Lib.hid (HSS.out y2 HC2.out))
          | (at_lookup; refine wpList_look rfl (.tmp 24) (.tmp 26) 71 false rfl rfl rfl HLU.out ?_)
          | (go_at_fn 50; refine (HFC.out y2 HSY.out).mono ?_; rintro e y3 ⟨A9, c9, B9, d9, rfl, -, -, u3, u4, hs9, ht9, ho9⟩; obtain ⟨⟨uu, huu⟩, hff, hyy⟩ := HNX.out y2 y3 u3 u4 HC2.out hs9 ht9 ho9; have HY := Lib.hid hyy; clear hyy hs9 ht9 ho9 q0 q1 q2 q3 q4)
          | fail)
        go_roundg gk
        case measure => omega
        case rel => exact ⟨i + 1, u3, u4, by omega, by go_num, HY.out.1, HY.out.2.1, HY.out.2.2.1, HY.out.2.2.2⟩
      · have HFC := Lib.hid (fun (y : World) (hy : Shm y p u1 u2 (gL (G.take i) L) (gQ (G.take i) Q)) => flat_any hy (by have := HGLL.out; have := HLM.out.1; omega) (by have := HGQL.out; have := HLM.out.2; omega) x 2 (by omega) (by omega) (by rw [hk]; rfl))
        have eg : ∀ args w, (callFunc 51 args).run Try.prog w = .ok (.enter 51 args) w := flat_enter 2 (by omega)
        have HLK : Hid (∀ y, MapF y bm 8 → (Instr.lookup 71 (.map (some bm)) (.int .i64 3) false).run Try.prog y = .ok (.func (.func 51) #[] #[]) y) := fun y hy => hy.look 2 (by omega)
        generalize fnd x (gL (G.take i) L) (gQ (G.take i) Q) = fz at *
        have hfld := fun (s : ByteArray) (p q : Option Addr) (n m k l : Nat) (w : World) => field_answer 0 fz s p q n m k l 0 w
        rw [hk] at HFC f0
        generalize x.key = k1 at *
        generalize x.val = k2 at *
        generalize x.to_ = k3 at *
        generalize x.ga = k4 at *
        generalize x.gn = k5 at *
        generalize x.gc = k6 at *
        go_wp2_with (first
          | ((with_reducible show wpList _ _ _ (⟨some 8, .alloc _, _, _, _, _⟩ :: _) _ _); refine wpList_alloc_var (o := ⟨some 8, _, _, _, _, _⟩) rfl 31 rfl hx HHX.out _ HZC.out ?_; intro y1 Y1 C1)
          | ((with_reducible show wpList _ _ _ (⟨none, .store _ (.tmp 8) _, _, _, _, _⟩ :: _) _ _); refine wpList_store_whole (o := ⟨none, .store 31 (.tmp 8) (.tmp 21), _, _, _, _⟩) rfl _ _ _ rfl rfl hx #[.int .i64 3, .string k1, .string k2, .string k3, .slice k4 k5 k6] rfl rfl 31 _ Y1.out size_call rfl (onesC _ _ _ _ _ _ _) ?_; intro y2 Y2 C2; have HC2 : Hid (Below hx wr y2) := C1.out.trans C2.out; obtain ⟨q0, q1, q2, q3, q4⟩ := cells5 Y2.out; have HLU := Lib.hid (HLK.out y2 (HMY.out y2 HC2.out)); have HSY := Lib.hid (HSS.out y2 HC2.out))
          | (at_lookup; refine wpList_look rfl (.tmp 24) (.tmp 26) 71 false rfl rfl rfl HLU.out ?_)
          | (go_at_fn 51; refine (HFC.out y2 HSY.out).mono ?_; rintro e y3 ⟨A9, c9, B9, d9, rfl, -, -, u3, u4, hs9, ht9, ho9⟩; obtain ⟨⟨uu, huu⟩, hff, hyy⟩ := HNX.out y2 y3 u3 u4 HC2.out hs9 ht9 ho9; have HY := Lib.hid hyy; clear hyy hs9 ht9 ho9 q0 q1 q2 q3 q4)
          | fail)
        go_roundg gk
        case measure => omega
        case rel => exact ⟨i + 1, u3, u4, by omega, by go_num, HY.out.1, HY.out.2.1, HY.out.2.2.1, HY.out.2.2.2⟩
      · have HFC := Lib.hid (fun (y : World) (hy : Shm y p u1 u2 (gL (G.take i) L) (gQ (G.take i) Q)) => flat_any hy (by have := HGLL.out; have := HLM.out.1; omega) (by have := HGQL.out; have := HLM.out.2; omega) x 3 (by omega) (by omega) (by rw [hk]; rfl))
        have eg : ∀ args w, (callFunc 52 args).run Try.prog w = .ok (.enter 52 args) w := flat_enter 3 (by omega)
        have HLK : Hid (∀ y, MapF y bm 8 → (Instr.lookup 71 (.map (some bm)) (.int .i64 4) false).run Try.prog y = .ok (.func (.func 52) #[] #[]) y) := fun y hy => hy.look 3 (by omega)
        generalize fnd x (gL (G.take i) L) (gQ (G.take i) Q) = fz at *
        have hfld := fun (s : ByteArray) (p q : Option Addr) (n m k l : Nat) (w : World) => field_answer 0 fz s p q n m k l 0 w
        rw [hk] at HFC f0
        generalize x.key = k1 at *
        generalize x.val = k2 at *
        generalize x.to_ = k3 at *
        generalize x.ga = k4 at *
        generalize x.gn = k5 at *
        generalize x.gc = k6 at *
        go_wp2_with (first
          | ((with_reducible show wpList _ _ _ (⟨some 8, .alloc _, _, _, _, _⟩ :: _) _ _); refine wpList_alloc_var (o := ⟨some 8, _, _, _, _, _⟩) rfl 31 rfl hx HHX.out _ HZC.out ?_; intro y1 Y1 C1)
          | ((with_reducible show wpList _ _ _ (⟨none, .store _ (.tmp 8) _, _, _, _, _⟩ :: _) _ _); refine wpList_store_whole (o := ⟨none, .store 31 (.tmp 8) (.tmp 21), _, _, _, _⟩) rfl _ _ _ rfl rfl hx #[.int .i64 4, .string k1, .string k2, .string k3, .slice k4 k5 k6] rfl rfl 31 _ Y1.out size_call rfl (onesC _ _ _ _ _ _ _) ?_; intro y2 Y2 C2; have HC2 : Hid (Below hx wr y2) := C1.out.trans C2.out; obtain ⟨q0, q1, q2, q3, q4⟩ := cells5 Y2.out; have HLU := Lib.hid (HLK.out y2 (HMY.out y2 HC2.out)); have HSY := Lib.hid (HSS.out y2 HC2.out))
          | (at_lookup; refine wpList_look rfl (.tmp 24) (.tmp 26) 71 false rfl rfl rfl HLU.out ?_)
          | (go_at_fn 52; refine (HFC.out y2 HSY.out).mono ?_; rintro e y3 ⟨A9, c9, B9, d9, rfl, -, -, u3, u4, hs9, ht9, ho9⟩; obtain ⟨⟨uu, huu⟩, hff, hyy⟩ := HNX.out y2 y3 u3 u4 HC2.out hs9 ht9 ho9; have HY := Lib.hid hyy; clear hyy hs9 ht9 ho9 q0 q1 q2 q3 q4)
          | fail)
        go_roundg gk
        case measure => omega
        case rel => exact ⟨i + 1, u3, u4, by omega, by go_num, HY.out.1, HY.out.2.1, HY.out.2.2.1, HY.out.2.2.2⟩

end Go.Proofs.Ytpmgnhijiodbaaa
