/-
  Proved here: what the order's Set answers and leaves.
  Conditions: keys of at most 2^30 bytes; less than 2^20 links.
-/
import Derived.Test.YtfdifimakaiccaaMv13
import Derived.Test.YtfdifimakaiccaaSame12
namespace Go.Proofs.Ytfdifimakaiccaa
open Go Go.RowKit
set_option maxRecDepth 100000

theorem own_is {w : World} {u : Value} {l : List Ln} (h : w.ownsRow 0 33 5 u l.length (encL l)) (hl : 0 < l.length) : ∃ b cap, u = .slice (some ⟨b, 0, none⟩) l.length cap := by
  rcases h.2 with ⟨_, e⟩ | ⟨g, cap, cur, e, _⟩
  · omega
  · exact ⟨g, cap, e⟩
set_option maxHeartbeats 3200000 in
set_option maxRecDepth 100000 in
theorem odset_any {w : World} {p : Nat} {v : Nat → Value} {L : List Ln} (h : Od w p v L) (x : Ln) (hk : x.k.length ≤ 1073741824) (hl : L.length < 1048576) :
    Calls Try.prog 11 #[.pointer (some ⟨p, 0, none⟩), .agg #[.string x.str, .int .u64 (x.id : Nat), .int .u64 (x.ver : Nat), .int .i64 x.line, .int .i64 x.cl]] w fun e w' => e = .returned (.bool (hasT L x.k)) ∧ OdTo w p v (setT L x) w' := by
  obtain ⟨R, hR⟩ : ∃ R : Ending → World → Prop, (fun e w' => e = .returned (.bool (hasT L x.k)) ∧ OdTo w p v (setT L x) w') = R := ⟨_, rfl⟩
  rw [hR]
  obtain ⟨g, hg⟩ : ∃ g, w.heap.size = g := ⟨_, rfl⟩
  have HG := Lib.hid hg
  obtain ⟨H, hH⟩ : ∃ H, hgt x.k = H := ⟨_, rfl⟩
  have hHb := hgt_bounds x.k
  rw [hH] at hHb
  have HLV : Hid (∀ w1, Calls Try.prog 22 #[.string x.str] w1 fun e w' => e = .returned (.int .i64 (H : Nat)) ∧ Below w1.heap.size w1 w') := fun w1 => by
    have := level_any x.str (by show x.k.toArray.size ≤ _; simpa using hk) w1
    rwa [show lvl (addS 0 x.str.data.toList) = H from hH] at this
  have HEND : Hid (∀ w' v', Mv w p v (g + 1) w' v' (setM L x H) → R (.returned (.bool (toldT L x.k H))) w') := fun w' v' hm => by
    rw [← hR, ← hH, toldT_end]
    rw [← hH] at hm
    exact ⟨rfl, hm.to (fun i _ => setM_end h.rises x i) (risesK_set h.rises x) (keys_set h.keys hk)⟩
  have HM0 : Hid (∀ w1, Below (g + 1) (w.alloc (.cells #[.string x.str, .int .u64 (x.id : Nat), .int .u64 (x.ver : Nat), .int .i64 x.line, .int .i64 x.cl] 33)) w1 → Mv w p v (g + 1) w1 v (setM L x 0)) := fun w1 hb => by
    have h1 := h.mv (w1 := w.alloc (.cells #[.string x.str, .int .u64 (x.id : Nat), .int .u64 (x.ver : Nat), .int .i64 x.line, .int .i64 x.cl] 33)) ((Below.refl _ _).alloc (Nat.le_refl _) _)
    have e : (w.alloc (.cells #[.string x.str, .int .u64 (x.id : Nat), .int .u64 (x.ver : Nat), .int .i64 x.line, .int .i64 x.cl] 33)).heap.size = g + 1 := by simp [hg]
    rw [e] at h1
    refine (h1.below (e.symm ▸ hb)).congr fun i _ => ?_
    unfold setM
    rw [if_neg (by omega)]
  have HB0 : Hid ((w.alloc (.cells #[.string x.str, .int .u64 (x.id : Nat), .int .u64 (x.ver : Nat), .int .i64 x.line, .int .i64 x.cl] 33)).heap[g]? = some (.cells #[.string x.str, .int .u64 (x.id : Nat), .int .u64 (x.ver : Nat), .int .i64 x.line, .int .i64 x.cl] 33 (0, 0))) := by rw [← hg]; exact heap_alloc_new w _
  have hc0 : (w.alloc (.cells #[.string x.str, .int .u64 (x.id : Nat), .int .u64 (x.ver : Nat), .int .i64 x.line, .int .i64 x.cl] 33)).cell? ⟨g, 0, none⟩ = some (.string x.str) := (cellsL HB0.out).1
  have HS0 : Hid ((w.alloc (.cells #[.string x.str, .int .u64 (x.id : Nat), .int .u64 (x.ver : Nat), .int .i64 x.line, .int .i64 x.cl] 33)).heap.size = g + 1) := by show _ = _; simp [hg]
  have HRS := Lib.hid h.rises
  have HLL : Hid (∀ i, (lev i L).length < 1048576) := fun i => Nat.lt_of_le_of_lt (lev_len i L) hl
  have HFI : Hid (∀ (w1 : World) (A : Option Addr) (n cap : Nat) (l : List Ln), l.length = n → RowL w1 A l → RisesK l → Calls Try.prog 23 #[.slice A n cap, .string x.str] w1 fun e w' => e = .returned (.tuple #[.int .i64 (posT l x.k : Nat), .bool (hasT l x.k)]) ∧ Below w1.heap.size w1 w') := fun w1 A n cap l h1 h2 h3 => odfind_any n cap h1 h2 h3 x.str
  have HIN : Hid (∀ (w1 : World) (u : Value) (l : List Ln) (b : Nat), w1.ownsRow 0 33 5 u l.length (encL l) → RisesK l → l.length < 1048576 → hasT l x.k = false → w1.heap[b]? = some (.cells #[.string x.str, .int .u64 (x.id : Nat), .int .u64 (x.ver : Nat), .int .i64 x.line, .int .i64 x.cl] 33 (0, 0)) → u.ownBlock ≠ some b → Calls Try.prog 24 #[u, .int .i64 (posT l x.k : Nat), .slice (some ⟨b, 0, none⟩) 1 1] w1 (InsTo (setT l x) u w1)) := fun w1 u l b h1 h2 h3 h4 h5 h6 => by
    have := insert_any h1 h3 h5 h6 (posT l x.k) (posT_le l x.k)
    rwa [← set_pos_no h2 x h4] at this
  have HSE : Hid (∀ (w1 : World) (b n cap : Nat) (l : List Ln), w1.ownsRow 0 33 5 (.slice (some ⟨b, 0, none⟩) n cap) n (encL l) → RisesK l → hasT l x.k = true → l.length = n → posT l x.k < n ∧ (((((w1.setCell ⟨b, posT l x.k * 5, none⟩ (.string x.str)).setCell ⟨b, posT l x.k * 5 + 1, none⟩ (.int .u64 (x.id : Nat))).setCell ⟨b, posT l x.k * 5 + 2, none⟩ (.int .u64 (x.ver : Nat))).setCell ⟨b, posT l x.k * 5 + 3, none⟩ (.int .i64 x.line)).setCell ⟨b, posT l x.k * 5 + 4, none⟩ (.int .i64 x.cl)).ownsRow 0 33 5 (.slice (some ⟨b, 0, none⟩) n cap) (setT l x).length (encL (setT l x)) ∧
      w1.grownBy (((((w1.setCell ⟨b, posT l x.k * 5, none⟩ (.string x.str)).setCell ⟨b, posT l x.k * 5 + 1, none⟩ (.int .u64 (x.id : Nat))).setCell ⟨b, posT l x.k * 5 + 2, none⟩ (.int .u64 (x.ver : Nat))).setCell ⟨b, posT l x.k * 5 + 3, none⟩ (.int .i64 x.line)).setCell ⟨b, posT l x.k * 5 + 4, none⟩ (.int .i64 x.cl)) (some b)) := fun w1 b n cap l h1 h2 h3 h4 => by
    obtain ⟨y, hy, _⟩ := pos_yes h2 h3
    have hp : posT l x.k < l.length := (List.getElem?_eq_some_iff.1 hy).1
    have s0 := h1.stored (posT l x.k * 5) (.string x.str)
    have s1 := s0.1.stored (posT l x.k * 5 + 1) (.int .u64 (x.id : Nat))
    have s2 := s1.1.stored (posT l x.k * 5 + 2) (.int .u64 (x.ver : Nat))
    have s3 := s2.1.stored (posT l x.k * 5 + 3) (.int .i64 x.line)
    have s4 := s3.1.stored (posT l x.k * 5 + 4) (.int .i64 x.cl)
    have e := s4.1
    rw [encL_set l _ x hp, ← set_pos_yes h2 x h3] at e
    have hlen : (setT l x).length = n := by rw [set_pos_yes h2 x h3, List.length_set]; exact h4
    have tr : ∀ a b' c : World, a.grownBy b' (some b) → b'.grownBy c (some b) → a.grownBy c (some b) := fun a b' c k1 k2 => ⟨k2.os.trans k1.os, k2.tape.trans k1.tape, k2.output.trans k1.output, Nat.le_trans k1.size k2.size, fun k hk hne => (k2.block k (Nat.lt_of_lt_of_le hk k1.size) hne).trans (k1.block k hk hne)⟩
    exact ⟨by omega, by rw [hlen]; exact e, tr _ _ _ (tr _ _ _ (tr _ _ _ (tr _ _ _ s0.2 s1.2) s2.2) s3.2) s4.2⟩
  obtain ⟨td, htd⟩ : ∃ td, toldT L x.k = td := ⟨_, rfl⟩
  have HT0 : Hid (td 0 = false) := by rw [← htd]; rfl
  have HTN : Hid (∀ i, td (i + 1) = hasT L x.k) := fun i => by rw [← htd]; exact toldT_next _ _
  rw [htd] at HEND
  have HHS : Hid (∀ i, i < H → hasT (lev i L) x.k = hasT L x.k) := fun i hi => lev_has h.rises x.k (by omega)
  have HNX : Hid (∀ i, i < H → ∀ j, upd (setM L x i) i (setT (lev i L) x) j = setM L x (i + 1) j) := fun i hi => setM_next h.rises x (by omega) rfl
  have hH1 := hHb.2
  rw [← hg] at hc0
  clear h hk hl hR hH htd hHb
  generalize x.str = x0 at *
  generalize (x.id : Int) = x1 at *
  generalize (x.ver : Int) = x2 at *
  generalize x.line = x3 at *
  generalize x.cl = x4 at *
  go_enter Try.func11, Try.ntmps11
  go_wp2_with fail
  refine (HLV.out _).mono ?_
  rintro e w1 ⟨rfl, hb1⟩
  have HM1 := Lib.hid (HM0.out w1 (HS0.out ▸ hb1))
  have HB1 := Lib.hid ((hb1.block g (by rw [HS0.out]; omega)).trans HB0.out)
  clear hb1 hc0 HM0 HB0
  clear hg
  go_wp2
  go_loopg [14, 5] H (fun gk s14 s5 wx => ∃ (i : Nat) (v' : Nat → Value), i + gk = H ∧ s14 = .int .i64 i ∧ s5 = .bool (td i) ∧ Hid (Mv w p v (g + 1) wx v' (setM L x i)) ∧ Hid (wx.heap[g]? = some (.cells #[.string x0, .int .u64 x1, .int .u64 x2, .int .i64 x3, .int .i64 x4] 33 (0, 0))))
  case atStart => exact ⟨0, v, by omega, rfl, by rw [HT0.out], HM1, HB1⟩
  case round =>
    obtain ⟨i, v', hin, rfl, rfl, HM, HBX⟩ := hrel
    cases gk with
    | zero =>
      obtain rfl : i = H := by omega
      have hii : ¬ (i : Int) < (i : Int) := by omega
      go_wp2
      exact HEND.out _ _ HM.out
    | succ gk =>
      have hii : (i : Int) < (H : Int) := by omega
      have hi4 : i < 4 := by omega
      have hi4i : (i : Int) < 4 := by omega
      have hi0i : (0 : Int) ≤ (i : Int) := by omega
      have hMi := setM_at L x i
      have hRS := lev_rises HRS.out i
      have hLL := HLL.out i
      have hHS := HHS.out i (by omega)
      have hNX := HNX.out i (by omega)
      have hro := HM.out.ro.row i hi4
      rw [hMi] at hro
      have hTN := HTN.out i
      obtain ⟨l, hle⟩ : ∃ l, lev i L = l := ⟨_, rfl⟩
      rw [hle] at hMi hRS hLL hHS hNX hro
      obtain ⟨A, cap, hvi, -, -, hrow⟩ := HM.out.ro.reads hi4 (by rw [hMi]; omega)
      rw [hMi] at hvi hrow
      have HVI := Lib.hid hvi
      obtain ⟨n, hn⟩ : ∃ n, l.length = n := ⟨_, rfl⟩
      have HF := Lib.hid (HFI.out wr.drew A n cap l hn (hrow.below (Below.refl _ _).drew) hRS)
      have HRO := Lib.hid hro
      have HMI := Lib.hid hMi
      have HRI := Lib.hid hRS
      have HNN := Lib.hid hNX
      have hcp := HM.out.ro.cell hi4
      rw [hvi, hn] at hcp
      obtain ⟨b0, b1, b2, b3, b4⟩ := cellsL HBX.out
      have hcpd : wr.drew.cell? ⟨p, i, none⟩ = some (.slice A n cap) := hcp
      have b0d : wr.drew.cell? ⟨g, 0, none⟩ = some (.string x0) := b0
      clear hvi hrow hro hMi hRS hNX hle
      go_wp2
      go_region_held3 (fun w' => w'.cell? ⟨p, i, none⟩ = some (.slice A n cap) ∧ w'.cell? ⟨g, 0, none⟩ = some (.string x0)) (go_keep)
        (first
          | (go_at_call 23; refine HF.out.mono ?_; rintro e w2 ⟨rfl, hb2⟩; have HB2 : Hid (Below wr.heap.size wr w2) := (Below.refl _ _).drew.trans hb2; have e1 : w2.cell? ⟨p, i, none⟩ = some (.slice A n cap) := (hb2.cell (p := ⟨p, i, none⟩) (lt_of_heap HM.out.ro.mem)).trans hcpd; have e2 : w2.cell? ⟨g, 0, none⟩ = some (.string x0) := (hb2.cell (p := ⟨g, 0, none⟩) (lt_of_heap HBX.out)).trans b0d; clear hb2))
      have HM2 := Lib.hid (HM.out.below HB2.out)
      have HX2 := Lib.hid ((HB2.out.block g (lt_of_heap HBX.out)).trans HBX.out)
      have hro2 := HM2.out.ro.row i hi4
      rw [HMI.out, HVI.out, hn] at hro2
      have hgl : g < w2.heap.size := lt_of_heap HX2.out
      have HNO := Lib.hid (HM2.out.not_own (k := g) (Nat.le_of_eq HG.out) (Nat.lt_succ_self g))
      clear e1 e2 hcpd b0d b0 b1 b2 b3 b4 hcp
      cases hz : hasT L x.k with
      | true =>
        rw [hz] at hHS hTN
        have HTN := Lib.hid hTN
        obtain ⟨hpn, -, -⟩ : posT l x.k < n ∧ True ∧ True := by
          obtain ⟨y, hy, _⟩ := pos_yes HRI.out hHS
          exact ⟨by rw [← hn]; exact (List.getElem?_eq_some_iff.1 hy).1, trivial, trivial⟩
        obtain ⟨b, cap2, e⟩ := own_is (l := l) (by rw [hn]; exact hro2) (by omega)
        rw [hn] at e
        simp only [Value.slice.injEq, true_and] at e
        obtain ⟨rfl, rfl⟩ := e
        obtain ⟨-, hst1, hst2⟩ := HSE.out w2 b n cap l hro2 HRI.out hHS hn
        obtain ⟨cur, hbk, -, -, hcs, -⟩ := own_block (l := l) hro2
        have hnc : n ≤ cap := by obtain ⟨_, _, h, _⟩ := own_block (l := l) hro2; exact h
        obtain ⟨d0, d1, d2, d3, d4⟩ := cellsL (w := w2.drew) HX2.out
        have hcpd : w2.drew.cell? ⟨p, i, none⟩ = some (.slice (some ⟨b, 0, none⟩) n cap) := by
          have := HM2.out.ro.cell hi4
          rw [HVI.out, hn] at this
          exact this
        have hce : ∀ j, j < 5 → ∃ u, w2.drew.cell? ⟨b, posT l x.k * 5 + j, none⟩ = some u := fun j hj => Option.isSome_iff_exists.1 (cell_some (w := w2.drew) hbk (j := posT l x.k * 5 + j) (by omega))
        obtain ⟨u0, t0⟩ := hce 0 (by omega)
        obtain ⟨u1, t1⟩ := hce 1 (by omega)
        obtain ⟨u2, t2⟩ := hce 2 (by omega)
        obtain ⟨u3, t3⟩ := hce 3 (by omega)
        obtain ⟨u4, t4⟩ := hce 4 (by omega)
        rw [Nat.add_zero] at t0
        have hbkd : w2.drew.heap[b]? = some (.cells cur 33 (0, 0)) := hbk
        have hfz : ∀ j, w2.drew.frozen? ⟨b, j, none⟩ = false := fun j => by simp [World.frozen?, hbkd]
        have f0 := hfz (posT l x.k * 5)
        have f1 := hfz (posT l x.k * 5 + 1)
        have f2 := hfz (posT l x.k * 5 + 2)
        have f3 := hfz (posT l x.k * 5 + 3)
        have f4 := hfz (posT l x.k * 5 + 4)
        obtain ⟨hm3, hk3⟩ := HM2.out.wrote hi4 (N := setT l x) (by rw [HVI.out, hn]; exact hst1) (by rw [HVI.out]; exact hst2)
        have HM3 := Lib.hid ((hm3.congr fun j _ => HNN.out j).drewN 1)
        have HB3 := Lib.hid ((hk3 g HNO.out hgl).trans HX2.out)
        clear hst1 hst2 hm3 hk3 hbk hbkd hce hfz hro2 hcs
        generalize posT l x.k = ps at *
        have hpn2 : (ps : Int) < (n : Int) := by omega
        have t0w : w2.cell? ⟨b, ps * 5, none⟩ = some u0 := t0
        have f0w : w2.frozen? ⟨b, ps * 5, none⟩ = false := f0
        have t1w : w2.cell? ⟨b, ps * 5 + 1, none⟩ = some u1 := t1
        have f1w : w2.frozen? ⟨b, ps * 5 + 1, none⟩ = false := f1
        have t2w : w2.cell? ⟨b, ps * 5 + 2, none⟩ = some u2 := t2
        have f2w : w2.frozen? ⟨b, ps * 5 + 2, none⟩ = false := f2
        have t3w : w2.cell? ⟨b, ps * 5 + 3, none⟩ = some u3 := t3
        have f3w : w2.frozen? ⟨b, ps * 5 + 3, none⟩ = false := f3
        have t4w : w2.cell? ⟨b, ps * 5 + 4, none⟩ = some u4 := t4
        have f4w : w2.frozen? ⟨b, ps * 5 + 4, none⟩ = false := f4
        go_wp2
        go_region
        go_wp2
        go_roundg gk
        case measure => omega
        case rel => exact ⟨i + 1, v', by omega, by go_num, by rw [HTN.out], HM3, HB3⟩
      | false =>
        rw [hz] at hHS hTN
        have HTN := Lib.hid hTN
        have hbl : ∀ k, (v' i).ownBlock = some k → k < w2.heap.size := fun k e => HM2.out.ro.lt (.inr ⟨i, hi4, e⟩)
        obtain ⟨c, hc⟩ : ∃ c, w2.heap.size = c := ⟨_, rfl⟩
        obtain ⟨wa, hwa⟩ : ∃ wa, (w2.alloc (.cells #[.string x0, .int .u64 x1, .int .u64 x2, .int .i64 x3, .int .i64 x4] 33)).drew = wa := ⟨_, rfl⟩
        have hba : Below w2.heap.size w2 wa := by rw [← hwa]; exact ((Below.refl _ _).alloc (Nat.le_refl _) _).drew
        have hva : wa.heap[c]? = some (.cells #[.string x0, .int .u64 x1, .int .u64 x2, .int .i64 x3, .int .i64 x4] 33 (0, 0)) := by rw [← hwa, ← hc]; exact heap_alloc_new w2 _
        have HMA := Lib.hid (HM2.out.below hba)
        have hroa := HMA.out.ro.row i hi4
        rw [HMI.out] at hroa
        have HINS := Lib.hid (HIN.out wa (v' i) l c hroa HRI.out hLL hHS hva (fun e => by have := hbl c e; omega))
        rw [HVI.out, hn] at HINS
        have hgp : p ≠ g := fun e => HNO.out (.inl e.symm)
        have HXA := Lib.hid ((hba.block g hgl).trans HX2.out)
        have HGA : Hid (g < wa.heap.size) := lt_of_heap HXA.out
        obtain ⟨d0, d1, d2, d3, d4⟩ := cellsL (w := w2.drew) HX2.out
        have hcpd : w2.drew.cell? ⟨p, i, none⟩ = some (.slice A n cap) := by
          have := HM2.out.ro.cell hi4
          rw [HVI.out, hn] at this
          exact this
        have hcpa : wa.cell? ⟨p, i, none⟩ = some (.slice A n cap) := by
          have := HMA.out.ro.cell hi4
          rw [HVI.out, hn] at this
          exact this
        obtain ⟨a0, a1, a2, a3, a4⟩ := cellsL HXA.out
        clear hroa hba hva hbl hro2
        generalize posT l x.k = ps at *
        have HLS : Hid ((setT l x).length ≤ 1048576) := by show _ ≤ _; rw [setT_len HRI.out]; split <;> omega
        have HWA := Lib.hid hwa
        have HVE : Hid (.slice A n cap = v' i) := by show _ = _; rw [HVI.out, hn]
        have HNA := Lib.hid (HMA.out.not_own (k := g) (Nat.le_of_eq HG.out) (Nat.lt_succ_self g))
        rw [← hwa] at HINS a0 a1 a2 a3 a4 hcpa
        clear hwa
        go_wp2
        go_region_with (first
            | (go_at_call 24; refine HINS.out.mono ?_; rintro e w3 ⟨u, rfl, ho3, hg3, hu3⟩; obtain ⟨-, A3, cap3, rfl, -⟩ := rowL_of_own ho3 HLS.out; rw [HWA.out] at hg3 hu3; rw [HVE.out] at hg3 hu3; obtain ⟨hm3, hk3⟩ := HMA.out.moved hi4 (N := setT l x) ho3 hg3 hu3; have HM4 := Lib.hid (hm3.congr fun j _ => HNN.out j); have HB4 := Lib.hid ((hk3 g HNA.out HGA.out).trans HXA.out); have hp3 : w3.heap[p]? = _ := (hg3.block p (lt_of_heap HMA.out.ro.mem) (fun e => HMA.out.ro.self i hi4 e.symm)).trans HMA.out.ro.mem; have hx3 : w3.heap[g]? = _ := (hg3.block g HGA.out (fun e => HNA.out (.inr ⟨i, hi4, e.symm⟩))).trans HXA.out; obtain ⟨g0, g1, g2, g3, g4⟩ := cellsL hx3; have gp : w3.cell? ⟨p, i, none⟩ = some (.slice A n cap) := (World.cell?_of_block (w := wa) (a := ⟨p, i, none⟩) (hp3.trans HMA.out.ro.mem.symm)).trans ((HMA.out.ro.cell hi4).trans (congrArg some HVE.out.symm)); have gf : w3.frozen? ⟨p, i, none⟩ = false := (by simp [World.frozen?, hp3]); clear hm3 hk3 ho3 hg3 hu3 hp3 hx3))
        all_goals
          go_wp2
          go_roundg gk
          case measure => omega
          case rel => exact ⟨i + 1, _, by omega, by go_num, by rw [HTN.out], HM4, HB4⟩

end Go.Proofs.Ytfdifimakaiccaa
