/-
  Proved here, joined: PerfA16
  Conditions: as each part says.
-/
import Derived.Test.YtlghphccmgmomaaGreatJN45
import Derived.Deep.RegionLaw

/-
  Proved here: perform, package arena.
  Conditions: at most 100,000 links, at most 2000 in the line, texts of at most 2000 bytes, numbers far from the end of what a machine has, rows that are not the arena's own.
-/
namespace Go.Proofs.YtlghphccmgmomaaGreat
open Go Go.RowKit
set_option maxRecDepth 100000

open Classical
section
variable {b : Nat} {w w' : World} {col : Nat → Nat} {z : Pz} {s : Az}
theorem lnkS_E (s : Az) (c : Ch) (x : BV) : (lnkS s c x).E = s.E := by
  unfold lnkS
  split
  · split <;> rfl
  · split
    · rfl
    · split
      · rfl
      · split <;> rfl
theorem prfN_succ {s : Az} {t : Int} {gp : Nat} {G : List Ch} {N : List BV} {k : Nat} {c : Ch} {x : BV} (hG : G[k]? = some c) (hN : N[k]? = some x) : prfN s t gp G N (k + 1) = prf (prfN s t gp G N k) t gp c x := by
  show (match G[k]?, N[k]? with | some c, some x => prf (prfN s t gp G N k) t gp c x | _, _ => prfN s t gp G N k) = _
  rw [hG, hN]
theorem Ar.put {F : Nat → Prop} (har : Ar b w col z s) (hF : ∀ k, F k → col k = 0) (hs : Stay F w w') : Ar b w' col z s := by
  have hk : ∀ i k, i < 10 → ow z i k → w'.heap[k]? = w.heap[k]? := fun i k hi ho => hs.block k (fun e => by
    have h2 := har.cl i k hi ho
    rw [hF k e] at h2
    omega) (har.lt hi ho)
  exact ar_of (fun i hi => part_stay (har.part i) hs.size hs.os hs.tape hs.output (fun k ho => hk i k hi ho)) (fun i k hi ho => har.cl i k hi ho) (fun k hk => har.nw k (Nat.le_trans hs.size hk)) (Nat.le_trans har.lo hs.size)
def hitsR (G : List Ch) (n i : Nat) : List Bool := (G.take i).map hitH ++ List.replicate (n - i) false
theorem hitsR_len {G : List Ch} {n i : Nat} (hn : G.length = n) (h : i ≤ n) : (hitsR G n i).length = n := by
  unfold hitsR
  rw [List.length_append, List.length_map, List.length_take, List.length_replicate]
  omega
theorem hitsR_set {G : List Ch} {n i : Nat} {c : Ch} (hn : G.length = n) (hc : G[i]? = some c) : (hitsR G n i).set i (hitH c) = hitsR G n (i + 1) := by
  have hi : i < n := hn ▸ (List.getElem?_eq_some_iff.1 hc).1
  have hl : ((G.take i).map hitH).length = i := by rw [List.length_map, List.length_take]; omega
  unfold hitsR
  rw [List.set_append_right _ _ (by omega), hl, Nat.sub_self, show n - i = (n - (i + 1)) + 1 by omega, List.replicate_succ, List.set_cons_zero, List.take_add_one, hc, List.map_append, List.append_assoc]
  rfl
/-- What perform leaves. -/
def PerfTo (b : Nat) (w : World) (col : Nat → Nat) (z : Pz) (hs : List Bool) (s' : Az) (e : Ending) (w' : World) : Prop :=
  ∃ g, e = .returned (.slice (some ⟨g, 0, none⟩) hs.length hs.length) ∧ w.heap.size ≤ g ∧ w'.ownsRow w.heap.size RBo.tE RBo.k (.slice (some ⟨g, 0, none⟩) hs.length hs.length) hs.length (RBo.enc hs) ∧ ArTo b w col z s' w'
set_option maxHeartbeats 6400000 in
theorem perform_any (h : Ar b w col z s) (t : Int) (A : Option Addr) (G : List Ch) (n cap gN : Nat) (N : List BV) (hn : G.length = n) (hN : N.length = n) (hr : RH.Row w A G) (hrN : RBk.Row w (some ⟨gN, 0, none⟩) N) (hn3 : n ≤ 3)
    (hfr : ∀ a, A = some a → ¬ (b < col a.block ∧ col a.block ≤ b + 10)) (hfN : ¬ (b < col gN ∧ col gN ≤ b + 10)) (hs : ∀ c ∈ G, Short c ∧ (needH c = true → 0 ≤ c.line ∧ c.line ≤ 1000000)) (hx : ∀ x ∈ N, x.ok ∧ x.key.size ≤ 2000 ∧ x.val.size ≤ 2000) (hgp : s.ver + 1 < 9223372036854775808)
    (hlen : ∀ k, k ≤ n → (prfN s t (s.ver + 1) G N k).T.length ≤ 100000 ∧ (prfN s t (s.ver + 1) G N k).O.length ≤ 100000 ∧ (prfN s t (s.ver + 1) G N k).Q.length ≤ 2000 ∧ (prfN s t (s.ver + 1) G N k).E.length < 1048576) :
    Calls Tryz.prog 28 #[.pointer (some ⟨z.ap, 0, none⟩), .int .i64 t, .slice A n cap, .slice (some ⟨gN, 0, none⟩) n n] w (PerfTo b w col z (G.map hitH) (prfN s t (s.ver + 1) G N n)) := by
  obtain ⟨B, hB⟩ : ∃ B, w.heap.size = B := ⟨_, rfl⟩
  have HNM := Lib.hid (numbers_any h)
  obtain ⟨gp, hgp2⟩ : ∃ gp, s.ver + 1 = gp := ⟨_, rfl⟩
  rw [hgp2] at hlen hgp ⊢
  have HGP : Hid ((s.ver : Int) + 1 = (gp : Nat)) := by show _ = _; omega
  have hv0 : (0 : Int) ≤ (s.ver : Int) + 1 := by omega
  have hv1 : (s.ver : Int) + 1 < 18446744073709551616 := by omega
  obtain ⟨R, hR⟩ : ∃ R, PerfTo b w col z (G.map hitH) (prfN s t gp G N n) = R := ⟨_, rfl⟩
  have HFIN : Hid (∀ w1 W, Below B w w1 → ArX b w1 col z (fun k => k = B) (prfN s t gp G N n) W → W.ownsRow B RBo.tE RBo.k (.slice (some ⟨B, 0, none⟩) n n) n (RBo.enc (hitsR G n n)) → R (.returned (.slice (some ⟨B, 0, none⟩) n n)) W) := fun w1 W k1 k2 k3 => by
    have e1 : hitsR G n n = G.map hitH := by unfold hitsR; rw [← hn, List.take_length]; simp
    rw [e1] at k3
    rw [← hR]
    have e2 : (G.map hitH).length = n := by rw [List.length_map, hn]
    refine ⟨B, by rw [e2], Nat.le_of_eq hB, ?_, ArX.since h (hB.symm ▸ k1) k2 (fun g e => by omega)⟩
    rw [e2, hB]
    exact k3
  rw [hR]
  generalize hap : z.ap = ap at *
  have HAP := Lib.hid hap
  generalize hs0 : s.id = id0 at *
  generalize hsv : s.ver = ver0 at *
  go_enter Tryz.func28, Tryz.ntmps28
  go_wp2_with fail
  refine HNM.out.mono ?_
  rintro e w1 ⟨rfl, k1, hk1⟩
  have HB1 : Hid (Below B w w1) := by rw [hk1]; exact below_drewN (Below.refl _ _) _
  have hsz1 : w1.heap.size = B := by rw [hk1]; exact hB
  obtain ⟨w2, hmk, ho2, hb2⟩ := madeR RBo false rfl w1 n (by omega)
  rw [hsz1] at hmk ho2 hb2
  have HB2 : Hid (Below B w w2) := HB1.out.trans hb2
  have HBL : Hid (B < w2.heap.size) := by
    obtain ⟨cur, hc, -⟩ := Rec.own_block (R := RBo) ho2
    exact lt_of_heap hc
  have hmk2 : (Instr.makeSlice 24 (.int .i64 (n : Int)) (.int .i64 (n : Int))).run Tryz.prog w1 = .ok (.slice (some ⟨B, 0, none⟩) n n) w2 := hmk
  have h2 : Ar b w2 col z s := h.below (hB.symm ▸ HB2.out)
  have HO2 : Hid (w2.ownsRow B RBo.tE RBo.k (.slice (some ⟨B, 0, none⟩) n n) n (RBo.enc (hitsR G n 0))) := ho2
  have HX2 : Hid (ArX b w2 col z (fun k => k = B) (prfN s t gp G N 0) w2) := ArX.refl h2 (Below.refl _ _)
  clear hmk ho2 hk1 HNM
  go_upto_region 4 with fail
  have HCB : Hid (col B = 0) := h.nw B (Nat.le_of_eq hB)
  have HRW : Hid (RH.Row w A G) := hr
  have HRN : Hid (RBk.Row w (some ⟨gN, 0, none⟩) N) := hrN
  have HFR : Hid (∀ a, A = some a → ¬ (b < col a.block ∧ col a.block ≤ b + 10)) := hfr
  have HFN : Hid (¬ (b < col gN ∧ col gN ≤ b + 10)) := hfN
  have HSG := Lib.hid hs
  have HSN := Lib.hid hx
  have HLE := Lib.hid hlen
  have HN := Lib.hid hn
  have HNN := Lib.hid hN
  have HZ := Lib.hid zero_ch
  have HBS := Lib.hid hB
  have HGL : Hid (gp < 9223372036854775808) := hgp
  have HF1 : Hid (∀ W, ArX b w2 col z (fun k => k = B) (prfN s t gp G N n) W → W.ownsRow B RBo.tE RBo.k (.slice (some ⟨B, 0, none⟩) n n) n (RBo.enc (hitsR G n n)) → R (.returned (.slice (some ⟨B, 0, none⟩) n n)) W) := fun W k2 k3 => HFIN.out w2 W HB2.out k2 k3
  have hnn : n ≤ 3 := hn3
  clear h h2 hr hrN hfr hfN hs hx hlen hR hmk2 hb2 hsz1 hn3 hgp2 hgp HFIN hn hN hB
  go_wp2
  go_loopg [27] n (fun gk s27 wx => ∃ i : Nat, i + gk = n ∧ s27 = .int .i64 i ∧ Hid (ArX b w2 col z (fun k => k = B) (prfN s t gp G N i) wx) ∧ Hid (wx.ownsRow B RBo.tE RBo.k (.slice (some ⟨B, 0, none⟩) n n) n (RBo.enc (hitsR G n i))))
  case atStart => exact ⟨0, by omega, rfl, HX2, HO2⟩
  case round =>
    obtain ⟨i, hig, rfl, HK, HO⟩ := hrel
    cases gk with
    | zero =>
      obtain rfl : i = n := by omega
      have hii : ¬ (i : Int) < (i : Int) := by omega
      go_wp2
      exact HF1.out _ HK.out HO.out
    | succ gk =>
      have hii : (i : Int) < (n : Int) := by omega
      have hi0 : (0 : Int) ≤ (i : Int) := by omega
      have hgi := List.getElem?_eq_getElem (show i < G.length by have := HN.out; omega)
      generalize G[i]'(by have := HN.out; omega) = c at *
      have hni := List.getElem?_eq_getElem (show i < N.length by have := HNN.out; omega)
      generalize N[i]'(by have := HNN.out; omega) = x at *
      obtain ⟨col', z', har, hz, hc, hn2⟩ := HK.out.ar
      have hBw : B < wr.heap.size := Nat.lt_of_lt_of_le HBL.out HK.out.st.size
      have hcB : col' B = 0 := (hc B HBL.out).trans HCB.out
      obtain ⟨g, hg⟩ : ∃ g, wr.heap.size = g := ⟨_, rfl⟩
      have HGX := Lib.hid hg
      have hcg : col' g = 0 := har.nw g (Nat.le_of_eq hg)
      -- rows behind steps that leave what is not the arena's
      have HRR : Hid (∀ W, (∀ k, k < B → ¬ (b < col k ∧ col k ≤ b + 10) → W.heap[k]? = wr.heap[k]?) → wr.heap.size ≤ W.heap.size → RH.Row W A G ∧ RBk.Row W (some ⟨gN, 0, none⟩) N) := fun W hW hsz => by
        have hst : ∀ k, k < B → ¬ (b < col k ∧ col k ≤ b + 10) → W.heap[k]? = w.heap[k]? := fun k hk hf => (hW k hk hf).trans ((ArX.free HK.out hf (by omega) (Nat.lt_trans hk HBL.out)).trans (HB2.out.block k hk))
        have hle : w.heap.size ≤ W.heap.size := by have := HBS.out; omega
        refine ⟨Rec.Row.same HRW.out hle fun a ha hl => hst a.block (HBS.out ▸ hl) (HFR.out a ha), Rec.Row.same HRN.out hle fun a ha hl => ?_⟩
        cases ha
        exact hst gN (HBS.out ▸ hl) HFN.out
      have hrows := HRR.out wr (fun _ _ _ => rfl) (Nat.le_refl _)
      obtain ⟨b', off', rfl, -, c0, c1, c2, c3, c4, c5, c6, c7, c8, c9, c10⟩ := chAt hrows.1 hgi
      have HGI := Lib.hid hgi
      have HNI := Lib.hid hni
      have HAR := Lib.hid har
      have HCZ : Hid (z'.base = z.base ∧ (∀ k, k < w2.heap.size → col' k = col k) ∧ (∀ k, w2.heap.size ≤ k → col' k = 0 ∨ (b < col' k ∧ col' k ≤ b + 10)) ∧ col' B = 0 ∧ col' g = 0 ∧ B < g) := ⟨hz, hc, hn2, hcB, hcg, hg ▸ hBw⟩
      clear hgi hni har hz hc hn2 hcB hcg hrows hg hBw
      go_upto_region 7 with (first
        | ((with_reducible show wpList _ _ _ (⟨some 14, .alloc _, _, _, _, _⟩ :: _) _ _); refine wpList_alloc_var (o := ⟨some 14, _, _, _, _, _⟩) rfl 31 rfl g HGX.out _ HZ.out ?_; intro v1 H1 B1)
        | ((with_reducible show wpList _ _ _ (⟨none, .store _ (.tmp 14) _, _, _, _, _⟩ :: _) _ _); refine wpList_store_whole (o := ⟨none, .store 31 (.tmp 14) (.tmp 31), _, _, _, _⟩) rfl _ _ _ rfl rfl g #[.int .i64 c.kd, .string c.key, .string c.val, .bool c.had, .string c.old.str, .int .u64 (c.old.id : Nat), .int .u64 (c.old.ver : Nat), .int .i64 c.old.line, .int .i64 c.old.cl, .int .i64 c.line, .int .i64 c.cl] rfl rfl 31 _ H1.out size_ch rfl (onesCh _ _ _ _ _ _ _ _ _ _ _) ?_; intro v2 H2 B2; have HB12 : Hid (Below g wr v2) := B1.out.trans B2.out; clear c0 c1 c2 c3 c4 c5 c6 c7 c8 c9 c10)
        | fail)
      have HO2' : Hid (v2.ownsRow B RBo.tE RBo.k (.slice (some ⟨B, 0, none⟩) n n) n (RBo.enc (hitsR G n i))) := own_keep HO.out (HGX.out.symm ▸ HB12.out)
      obtain ⟨cur, hcur, -, -, hcs, -, -⟩ := Rec.own_block (R := RBo) HO2'.out
      have hcs' : cur.size = n := by rw [hcs]; exact Nat.mul_one n
      obtain ⟨old, hold⟩ : ∃ old, v2.cell? ⟨B, i, none⟩ = some old := ⟨cur[i]'(by omega), by simp [World.cell?, hcur, show i < cur.size by omega]⟩
      have hfz : v2.frozen? ⟨B, i, none⟩ = false := by simp [World.frozen?, hcur]
      have HV3 : Hid (∀ v3, v2.setCell ⟨B, i, none⟩ (.bool (hitH c)) = v3 → HBox v3 g c ∧ v3.ownsRow B RBo.tE RBo.k (.slice (some ⟨B, 0, none⟩) n n) n (RBo.enc (hitsR G n (i + 1))) ∧ ArX b w2 col z (fun k => k = B) (prfN s t gp G N i) v3 ∧ Ar b v3 col' z' (prfN s t gp G N i) ∧ (∀ k, k < B → v3.heap[k]? = wr.heap[k]?) ∧ wr.heap.size ≤ v3.heap.size) := fun v3 e => by
        have hsc : Stay (fun k => k = B) v2 v3 := e ▸ Stay.setCell _ _ _ _ rfl
        have hb12 : Below wr.heap.size wr v2 := HGX.out.symm ▸ HB12.out
        have hB0 : ∀ k, k = B → col' k = 0 := fun k e => e ▸ HCZ.out.2.2.2.1
        refine ⟨(hsc.block g (by have := HCZ.out.2.2.2.2.2; omega) (lt_of_heap H2.out)).trans H2.out, ?_, (HK.out.belowR hb12).put (fun k e => by subst e; exact ⟨HBL.out, HCB.out⟩) hsc, (HAR.out.below hb12).put hB0 hsc, fun k hk => (hsc.block k (by omega) (by have := hb12.size; have := HCZ.out.2.2.2.2.2; have := HGX.out; omega)).trans (HB12.out.block k (by have := HCZ.out.2.2.2.2.2; omega)), Nat.le_trans hb12.size hsc.size⟩
        have := Rec.own_set (R := RBo) HO2'.out (hitsR_len HN.out (by omega)) (show i < n by omega) (hitH c)
        rw [hitsR_set HN.out HGI.out, show i * RBo.k = i from Nat.mul_one i] at this
        rw [← e]
        exact this
      clear hcs hcs' hcur
      obtain ⟨p0, p1, p2, p3, p4, p5, p6, p7, p8, p9, p10⟩ := cells11 H2.out
      go_cut [13] from 31 to 77 (fun s13 wx => s13 = .int .i64 (i : Nat) ∧ Hid (v2.setCell ⟨B, i, none⟩ (.bool (hitH c)) = wx))
      case first =>
        cases hd : c.had with
        | false =>
          rw [hd] at p3
          go_wp2
          go_meet
          case rel => exact ⟨rfl, by show _ = _; unfold hitH; rw [hd]; rfl⟩
        | true =>
          rw [hd] at p3
          go_wp2
          go_meet
          case rel => exact ⟨rfl, by show _ = _; unfold hitH; rw [hd]; rfl⟩
      case rest =>
        obtain ⟨rfl, hcut2⟩ := hcut
        obtain ⟨hbx, ho3, hk3, har3, hlow, hsz3⟩ := HV3.out _ hcut2.out
        clear hcut2 p0 p1 p2 p3 p4 p5 p6 p7 p8 p9 p10
        have HBX := Lib.hid hbx
        have HO3 := Lib.hid ho3
        have HK3 := Lib.hid hk3
        have HA3 := Lib.hid har3
        have HNX := Lib.hid (need_any16 c wc)
        have hck := HSG.out c (List.mem_of_getElem? HGI.out)
        have hxk := HSN.out x (List.mem_of_getElem? HNI.out)
        have HCK : Hid (Short c ∧ (needH c = true → 0 ≤ c.line ∧ c.line ≤ 1000000)) := hck
        have HXK : Hid (x.ok ∧ x.key.size ≤ 2000 ∧ x.val.size ≤ 2000) := hxk
        have HLOW : Hid (∀ k, k < B → wc.heap[k]? = wr.heap[k]?) := hlow
        have HSZ3 : Hid (wr.heap.size ≤ wc.heap.size) := hsz3
        have HPR : Hid (prfN s t gp G N (i + 1) = prf (prfN s t gp G N i) t gp c x) := prfN_succ HGI.out HNI.out
        clear hbx ho3 hk3 har3 hlow hsz3 hck hxk
        obtain ⟨p0, p1, p2, p3, p4, p5, p6, p7, p8, p9, p10⟩ := HBX.out.at_
        go_wp2_with fail
        refine HNX.out.mono ?_
        rintro e w4 ⟨rfl, b4⟩
        clear p0 p1 p2 p3 p4 p5 p6 p7 p8 p9 p10
        cases hm : needH c with
        | false =>
          have HE1 : Hid (prfN s t gp G N (i + 1) = prfN s t gp G N i) := by show _ = _; rw [HPR.out]; unfold prf; rw [hm]; rfl
          have HK5 : Hid (ArX b w2 col z (fun k => k = B) (prfN s t gp G N (i + 1)) w4) := by rw [HE1.out]; exact HK3.out.belowR b4
          have HO5 := Lib.hid (own_keep HO3.out b4)
          clear b4
          go_wp2
          go_roundg gk
          case measure => omega
          case rel => exact ⟨i + 1, by omega, by go_num, HK5, HO5⟩
        | true =>
          have HC5 := HCZ.out
          have K0 : Hid (ArTo b wc col' z' (prfN s t gp G N i) w4) := ArTo.refl HA3.out b4
          have HGW : Hid (g < wc.heap.size) := lt_of_heap HBX.out
          have HFA : Hid (∀ W s1, ArTo b wc col' z' s1 W → HBox W g c ∧ RBk.Row W (some ⟨gN, 0, none⟩) N ∧ W.ownsRow B RBo.tE RBo.k (.slice (some ⟨B, 0, none⟩) n n) n (RBo.enc (hitsR G n (i + 1)))) := fun W s1 k => by
            refine ⟨(k.st.block g (fun e => by have := HCZ.out.2.2.2.2.1; omega) HGW.out).trans HBX.out, (HRR.out W (fun j hj hf => (k.st.block j (fun e => hf (by rw [HCZ.out.2.1 j (Nat.lt_trans hj HBL.out)] at e; exact e)) (by have := HCZ.out.2.2.2.2.2; have := HGW.out; omega)).trans (HLOW.out j hj)) (Nat.le_trans HSZ3.out k.st.size)).2, own_same HO3.out fun j hj => ?_⟩
            cases hj
            exact k.st.block B (fun e => by have := HCZ.out.2.2.2.1; omega) (by have := HCZ.out.2.2.2.2.2; have := HGW.out; omega)
          have HZA : Hid (z'.ap = ap) := by have := (base_eq HCZ.out.1).1; rw [HAP.out] at this; exact this
          have HWR : Hid (∀ W, ArTo b wc col' z' (prfN s t gp G N i) W → Calls Tryz.prog 62 #[.pointer (some ⟨ap, 0, none⟩), .int .i64 t, .int .i64 c.line, .agg #[.int .i64 x.cl, .int .i64 x.kd, .int .u64 (x.id : Nat), .int .u64 (x.ver : Nat), .int .u64 (x.ep : Nat), .string x.key, .string x.val]] W fun e w' => e = .returned (.tuple #[]) ∧ ArTo b wc col' z' (wrS16 (prfN s t gp G N i) t c.line x (spanN x.cl)) w') := fun W k => k.next fun col'' z'' har hz => by
            have := write_any har t c.line x HXK.out.1 HXK.out.2.1 HXK.out.2.2 (HCK.out.2 hm)
            rw [(base_eq hz).1, HZA.out] at this
            exact this
          have HLI : Hid (∀ W, ArTo b wc col' z' (wrS16 (prfN s t gp G N i) t c.line x (spanN x.cl)) W → Calls Tryz.prog 63 #[.pointer (some ⟨ap, 0, none⟩), .agg #[.int .i64 c.kd, .string c.key, .string c.val, .bool c.had, .string c.old.str, .int .u64 (c.old.id : Nat), .int .u64 (c.old.ver : Nat), .int .i64 c.old.line, .int .i64 c.old.cl, .int .i64 c.line, .int .i64 c.cl], .agg #[.int .i64 x.cl, .int .i64 x.kd, .int .u64 (x.id : Nat), .int .u64 (x.ver : Nat), .int .u64 (x.ep : Nat), .string x.key, .string x.val]] W fun e w' => e = .returned (.tuple #[]) ∧ ArTo b wc col' z' (lnkS (wrS16 (prfN s t gp G N i) t c.line x (spanN x.cl)) c x) w') := fun W k => k.next fun col'' z'' har hz => by
            have hl := HLE.out i (by omega)
            have := link_any har c x HCK.out.1.1 (by have := HXK.out.2.1; show x.key.data.toList.length ≤ 2000; simpa using this) hl.1 hl.2.1 hl.2.2.1
            rw [(base_eq hz).1, HZA.out] at this
            exact this
          have HCL : Hid (∀ W s1, ArTo b wc col' z' s1 W → (W.cell? ⟨g, 0, none⟩ = some (.int .i64 c.kd) ∧ W.cell? ⟨g, 1, none⟩ = some (.string c.key) ∧ W.cell? ⟨g, 2, none⟩ = some (.string c.val) ∧ W.cell? ⟨g, 3, none⟩ = some (.bool c.had) ∧ W.cell? ⟨g, 4, none⟩ = some (.string c.old.str) ∧ W.cell? ⟨g, 5, none⟩ = some (.int .u64 (c.old.id : Nat)) ∧ W.cell? ⟨g, 6, none⟩ = some (.int .u64 (c.old.ver : Nat)) ∧ W.cell? ⟨g, 7, none⟩ = some (.int .i64 c.old.line) ∧ W.cell? ⟨g, 8, none⟩ = some (.int .i64 c.old.cl) ∧ W.cell? ⟨g, 9, none⟩ = some (.int .i64 c.line) ∧ W.cell? ⟨g, 10, none⟩ = some (.int .i64 c.cl)) ∧ (W.cell? ⟨gN, i * 7, none⟩ = some (.int .i64 x.cl) ∧ W.cell? ⟨gN, i * 7 + 1, none⟩ = some (.int .i64 x.kd) ∧ W.cell? ⟨gN, i * 7 + 2, none⟩ = some (.int .u64 (x.id : Nat)) ∧ W.cell? ⟨gN, i * 7 + 3, none⟩ = some (.int .u64 (x.ver : Nat)) ∧ W.cell? ⟨gN, i * 7 + 4, none⟩ = some (.int .u64 (x.ep : Nat)) ∧ W.cell? ⟨gN, i * 7 + 5, none⟩ = some (.string x.key) ∧ W.cell? ⟨gN, i * 7 + 6, none⟩ = some (.string x.val))) := fun W s1 k => by
            obtain ⟨k1, k2, -⟩ := HFA.out W s1 k
            obtain ⟨b8, o8, e8, -, j0, j1, j2, j3, j4, j5, j6⟩ := blkAt16 k2 HNI.out
            cases e8
            simp only [Nat.zero_add] at j0 j1 j2 j3 j4 j5 j6
            exact ⟨k1.at_, j0, j1, j2, j3, j4, j5, j6⟩
          obtain ⟨⟨p0, p1, p2, p3, p4, p5, p6, p7, p8, p9, p10⟩, j0, j1, j2, j3, j4, j5, j6⟩ := HCL.out w4 _ K0.out
          have HW9 := Lib.hid (HWR.out w4.drew (K0.out.belowR (below_drewN (Below.refl _ _) 1)))
          clear b4
          go_upto_region 9 with fail
          go_region_held3 (fun W => W.cell? ⟨g, 9, none⟩ = some (.int .i64 c.line) ∧ W.cell? ⟨gN, i * 7, none⟩ = some (.int .i64 x.cl) ∧ W.cell? ⟨gN, i * 7 + 1, none⟩ = some (.int .i64 x.kd) ∧ W.cell? ⟨gN, i * 7 + 2, none⟩ = some (.int .u64 (x.id : Nat)) ∧ W.cell? ⟨gN, i * 7 + 3, none⟩ = some (.int .u64 (x.ver : Nat)) ∧ W.cell? ⟨gN, i * 7 + 4, none⟩ = some (.int .u64 (x.ep : Nat)) ∧ W.cell? ⟨gN, i * 7 + 5, none⟩ = some (.string x.key) ∧ W.cell? ⟨gN, i * 7 + 6, none⟩ = some (.string x.val)) (go_keep)
            (first
              | (go_at_call 62; refine HW9.out.mono ?_; rintro e w5 ⟨rfl, k5⟩; have HK5 := Lib.hid k5; obtain ⟨⟨a0, a1, a2, a3, a4, a5, a6, a7, a8, a9, a10⟩, l0, l1, l2, l3, l4, l5, l6⟩ := HCL.out w5 _ k5; clear k5)
              | fail)
          clear p0 p1 p2 p3 p4 p5 p6 p7 p8 p9 p10 j0 j1 j2 j3 j4 j5 j6
          have HL10 := Lib.hid (HLI.out w5.drew (HK5.out.belowR (below_drewN (Below.refl _ _) 1)))
          go_upto_region 10 with fail
          go_region_held3 (fun W => W.cell? ⟨g, 0, none⟩ = some (.int .i64 c.kd) ∧ W.cell? ⟨g, 1, none⟩ = some (.string c.key) ∧ W.cell? ⟨g, 2, none⟩ = some (.string c.val) ∧ W.cell? ⟨g, 3, none⟩ = some (.bool c.had) ∧ W.cell? ⟨g, 4, none⟩ = some (.string c.old.str) ∧ W.cell? ⟨g, 5, none⟩ = some (.int .u64 (c.old.id : Nat)) ∧ W.cell? ⟨g, 6, none⟩ = some (.int .u64 (c.old.ver : Nat)) ∧ W.cell? ⟨g, 7, none⟩ = some (.int .i64 c.old.line) ∧ W.cell? ⟨g, 8, none⟩ = some (.int .i64 c.old.cl) ∧ W.cell? ⟨g, 9, none⟩ = some (.int .i64 c.line) ∧ W.cell? ⟨g, 10, none⟩ = some (.int .i64 c.cl) ∧ W.cell? ⟨gN, i * 7, none⟩ = some (.int .i64 x.cl) ∧ W.cell? ⟨gN, i * 7 + 1, none⟩ = some (.int .i64 x.kd) ∧ W.cell? ⟨gN, i * 7 + 2, none⟩ = some (.int .u64 (x.id : Nat)) ∧ W.cell? ⟨gN, i * 7 + 3, none⟩ = some (.int .u64 (x.ver : Nat)) ∧ W.cell? ⟨gN, i * 7 + 4, none⟩ = some (.int .u64 (x.ep : Nat)) ∧ W.cell? ⟨gN, i * 7 + 5, none⟩ = some (.string x.key) ∧ W.cell? ⟨gN, i * 7 + 6, none⟩ = some (.string x.val)) (go_keep)
            (first
              | (go_at_call 63; refine HL10.out.mono ?_; rintro e w6 ⟨rfl, k6⟩; have HK6 := Lib.hid k6; obtain ⟨⟨p0, p1, p2, p3, p4, p5, p6, p7, p8, p9, p10⟩, j0, j1, j2, j3, j4, j5, j6⟩ := HCL.out w6 _ k6; clear k6)
              | fail)
          clear a0 a1 a2 a3 a4 a5 a6 a7 a8 a9 a10 l0 l1 l2 l3 l4 l5 l6
          obtain ⟨col6, z6, har6, hz6, hc6, hn6⟩ := HK6.out.ar
          have hap6 : z6.ap = ap := by have := (base_eq hz6).1; rw [HZA.out] at this; exact this
          have HEV : Hid (∀ W, Below w6.heap.size w6 W → W.cell? ⟨ap, 13, none⟩ = some z6.ev) := fun W hW => by
            have := (har6.below hW).at_.2.2.2.2.2.2.2.2.2.2
            rw [hap6] at this
            exact this
          have HCE : Hid (∀ W, Below w6.heap.size w6 W → (W.cell? ⟨g, 0, none⟩ = some (.int .i64 c.kd) ∧ W.cell? ⟨g, 1, none⟩ = some (.string c.key) ∧ W.cell? ⟨g, 2, none⟩ = some (.string c.val) ∧ W.cell? ⟨g, 3, none⟩ = some (.bool c.had) ∧ W.cell? ⟨g, 4, none⟩ = some (.string c.old.str) ∧ W.cell? ⟨g, 5, none⟩ = some (.int .u64 (c.old.id : Nat)) ∧ W.cell? ⟨g, 6, none⟩ = some (.int .u64 (c.old.ver : Nat)) ∧ W.cell? ⟨g, 7, none⟩ = some (.int .i64 c.old.line) ∧ W.cell? ⟨g, 8, none⟩ = some (.int .i64 c.old.cl) ∧ W.cell? ⟨g, 9, none⟩ = some (.int .i64 c.line) ∧ W.cell? ⟨g, 10, none⟩ = some (.int .i64 c.cl)) ∧ (W.cell? ⟨gN, i * 7, none⟩ = some (.int .i64 x.cl) ∧ W.cell? ⟨gN, i * 7 + 1, none⟩ = some (.int .i64 x.kd) ∧ W.cell? ⟨gN, i * 7 + 2, none⟩ = some (.int .u64 (x.id : Nat)) ∧ W.cell? ⟨gN, i * 7 + 3, none⟩ = some (.int .u64 (x.ver : Nat)) ∧ W.cell? ⟨gN, i * 7 + 4, none⟩ = some (.int .u64 (x.ep : Nat)) ∧ W.cell? ⟨gN, i * 7 + 5, none⟩ = some (.string x.key) ∧ W.cell? ⟨gN, i * 7 + 6, none⟩ = some (.string x.val))) := fun W hW => HCL.out W _ (HK6.out.belowR hW)
          have HEA : Hid (∀ W, Below w6.heap.size w6 W → ∃ A8 m8 c8 w', (Builtin.append_ #[60, 60] 60 #[z6.ev, .slice (some ⟨W.heap.size, 0, none⟩) 1 1]).run Tryz.prog (W.alloc (.cells (RE.cells (effH c x gp)).toArray RE.tE)) = .ok (.slice A8 m8 c8) w' ∧ (∃ u, w'.cell? ⟨ap, 13, none⟩ = some u) ∧ w'.frozen? ⟨ap, 13, none⟩ = false ∧ ArTo b wc col' z' (prf (prfN s t gp G N i) t gp c x) (w'.setCell ⟨ap, 13, none⟩ (.slice A8 m8 c8))) := fun W hW => by
            obtain ⟨v', w', e1, e2, e3, ⟨A8, m8, c8, rfl⟩, e4⟩ := ef_append (har6.below hW) (effH c x gp) (by rw [lnkS_E]; exact (HLE.out i (by omega)).2.2.2) 60
            rw [hap6] at e2 e3 e4
            refine ⟨A8, m8, c8, w', e1, e2, e3, ?_⟩
            have k := ArTo.trans hz6 (HK6.out.st.trans (Stay.of_below hW)) hc6 hn6 e4
            unfold prf
            rw [if_pos hm]
            rw [lnkS_E] at k
            exact k
          have hef := effectof_any c x gp HGL.out w6.drew
          rw [← HGP.out] at hef
          have HEF := Lib.hid hef
          have h13 := HEV.out w6 (Below.refl _ _)
          have HET : Hid (∀ args w, (callFunc 64 args).run Tryz.prog w = .ok (.enter 64 args) w) := enters_of Tryz.func64 (by kernel_rfl) rfl
          have HD6 : Hid (Below w6.heap.size w6 w6.drew) := (Below.refl _ _).drew
          clear har6 hz6 hc6 hn6 hap6 hef
          go_upto_region 11 with fail
          go_region_law (first
            | (refine step_callR rfl 64 #[.tmp 66, .tmp 70, .tmp 71] #[31, 95, 22] rfl #[.agg #[.int .i64 c.kd, .string c.key, .string c.val, .bool c.had, .string c.old.str, .int .u64 (c.old.id : Nat), .int .u64 (c.old.ver : Nat), .int .i64 c.old.line, .int .i64 c.old.cl, .int .i64 c.line, .int .i64 c.cl], .agg #[.int .i64 x.cl, .int .i64 x.kd, .int .u64 (x.id : Nat), .int .u64 (x.ver : Nat), .int .u64 (x.ep : Nat), .string x.key, .string x.val], .int .u64 ((ver0 : Int) + 1)] (by simp [Act.eval]) HET.out HEF.out ?_; rintro e w7 ⟨rfl, b7⟩; refine ⟨_, rfl, ?_⟩; have HB7 : Hid (Below w6.heap.size w6 w7) := HD6.out.trans (b7.mono (by exact Nat.le_refl _)); obtain ⟨⟨r0, r1, r2, r3, r4, r5, r6, r7, r8, r9, r10⟩, y0, y1, y2, y3, y4, y5, y6⟩ := HCE.out w7 HB7.out; have h137 := HEV.out w7 HB7.out; have h138 : (w7.alloc (.cells #[.int .i64 (effH c x gp).kd, .string (effH c x gp).key, .string (effH c x gp).val, .int .u64 (effH c x gp).id, .int .u64 (effH c x gp).ver, .int .u64 (effH c x gp).ep, .int .i64 (effH c x gp).gp] 112)).cell? ⟨ap, 13, none⟩ = some z6.ev := HEV.out _ (HB7.out.alloc HB7.out.size _); obtain ⟨A8, m8, c8', w8, hrun, ⟨old8, hold8⟩, hfz8, hk8⟩ := HEA.out w7 HB7.out; have HRUN := Lib.hid hrun; have HK8 := Lib.hid hk8; clear hrun hk8 b7)
            | (refine step_app9 rfl (.tmp 65) (.tmp 73) 60 rfl (by simp [Act.eval]) (by simp [Act.eval]) HRUN.out ?_))
          all_goals
            have K9 : Hid (ArX b w2 col z (fun k => k = B) (prfN s t gp G N (i + 1)) (w8.setCell ⟨ap, 13, none⟩ (.slice A8 m8 c8'))) := by rw [HPR.out]; exact HK3.out.arto HCZ.out.1 HCZ.out.2.1 HCZ.out.2.2.1 HK8.out
            have HO9 := Lib.hid (HFA.out _ _ HK8.out).2.2
            go_wp2
            go_roundg gk
            case measure => omega
            case rel => exact ⟨i + 1, by omega, by go_num, K9, HO9⟩
end

end Go.Proofs.YtlghphccmgmomaaGreat
