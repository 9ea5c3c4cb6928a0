/-
  Proved here: what the order's Drop answers and leaves.
  Conditions: keys of at most 2^30 bytes; at most 2^20 links.
-/
import Derived.Test.YtfdifimakaiccaaMv13
namespace Go.Proofs.Ytfdifimakaiccaa
open Go Go.RowKit
set_option maxRecDepth 100000

set_option maxHeartbeats 3200000 in
set_option maxRecDepth 100000 in
theorem oddrop_any {w : World} {p : Nat} {v : Nat → Value} {L : List Ln} (h : Od w p v L) (s : ByteArray) (hk : s.size ≤ 1073741824) (hl : L.length ≤ 1048576) :
    Calls Try.prog 13 #[.pointer (some ⟨p, 0, none⟩), .string s] w fun e w' => e = .returned (.bool (hasT L s.data.toList)) ∧ OdTo w p v (dropT L s.data.toList) w' := by
  obtain ⟨R, hR⟩ : ∃ R : Ending → World → Prop, (fun e w' => e = .returned (.bool (hasT L s.data.toList)) ∧ OdTo w p v (dropT L s.data.toList) w') = R := ⟨_, rfl⟩
  rw [hR]
  obtain ⟨k, hkk⟩ : ∃ k, s.data.toList = k := ⟨_, rfl⟩
  rw [hkk] at hR
  obtain ⟨lo, hlo⟩ : ∃ lo, w.heap.size = lo := ⟨_, rfl⟩
  obtain ⟨H, hH⟩ : ∃ H, hgt k = H := ⟨_, rfl⟩
  have hHb := hgt_bounds k
  rw [hH] at hHb
  have HLV : Hid (∀ w1, Calls Try.prog 22 #[.string s] w1 fun e w' => e = .returned (.int .i64 (H : Nat)) ∧ Below w1.heap.size w1 w') := fun w1 => by
    have := level_any s hk w1
    rwa [show lvl (addS 0 s.data.toList) = H by rw [hkk]; exact hH] at this
  have HEND : Hid (∀ w' v', Mv w p v lo w' v' (dropM L k H) → R (.returned (.bool (toldT L k H))) w') := fun w' v' hm => by
    rw [← hR, ← hH, toldT_end]
    rw [← hH] at hm
    exact ⟨rfl, hm.to (fun i _ => dropM_end h.rises k i) (risesK_drop h.rises k) (keys_dropT h.keys k)⟩
  have HM0 : Hid (∀ w1, Below w.heap.size w w1 → Mv w p v lo w1 v (dropM L k 0)) := fun w1 hb => by
    have h1 := h.mv (Below.refl w.heap.size w)
    rw [hlo] at h1
    refine (h1.below hb).congr fun i _ => ?_
    unfold dropM
    rw [if_neg (by omega)]
  have HRS := Lib.hid h.rises
  have HLL : Hid (∀ i, (lev i L).length ≤ 1048576) := fun i => Nat.le_trans (lev_len i L) hl
  have HFI : Hid (∀ (w1 : World) (A : Option Addr) (n cap : Nat) (l : List Ln), l.length = n → RowL w1 A l → RisesK l → Calls Try.prog 23 #[.slice A n cap, .string s] w1 fun e w' => e = .returned (.tuple #[.int .i64 (posT l k : Nat), .bool (hasT l k)]) ∧ Below w1.heap.size w1 w') := fun w1 A n cap l h1 h2 h3 => hkk ▸ odfind_any n cap h1 h2 h3 s
  have HDE : Hid (∀ (w1 : World) (u : Value) (l : List Ln), w1.ownsRow 0 33 5 u l.length (encL l) → RisesK l → l.length ≤ 1048576 → hasT l k = true → Calls Try.prog 27 #[u, .int .i64 (posT l k : Nat), .int .i64 ((posT l k : Int) + 1)] w1 fun e w' => ∃ u', e = .returned u' ∧ w'.ownsRow 0 33 5 u' (dropT l k).length (encL (dropT l k)) ∧ w1.grownBy w' u.ownBlock ∧ ∀ j, u'.ownBlock = some j → u.ownBlock = some j ∨ w1.heap.size ≤ j) := fun w1 u l h1 h2 h3 h4 => by
    obtain ⟨y, hy, _⟩ := pos_yes h2 h4
    have := delete_any h1 h3 (posT l k) (List.getElem?_eq_some_iff.1 hy).1
    rwa [drop_pos h2 h4] at this
  obtain ⟨td, htd⟩ : ∃ td, toldT L k = td := ⟨_, rfl⟩
  have HT0 : Hid (td 0 = false) := by rw [← htd]; rfl
  have HTN : Hid (∀ i, td (i + 1) = hasT L k) := fun i => by rw [← htd]; exact toldT_next _ _
  rw [htd] at HEND
  have HHS : Hid (∀ i, i < H → hasT (lev i L) k = hasT L k) := fun i hi => lev_has h.rises k (by omega)
  have HNX : Hid (∀ i, i < H → ∀ j, upd (dropM L k i) i (dropT (lev i L) k) j = dropM L k (i + 1) j) := fun i hi => dropM_next h.rises k (by omega) rfl
  have hH1 := hHb.2
  clear h hk hl hR hH htd hHb hkk
  go_enter Try.func13, Try.ntmps13
  go_wp2_with fail
  refine (HLV.out _).mono ?_
  rintro e w1 ⟨rfl, hb1⟩
  have HM1 := Lib.hid (HM0.out w1 hb1)
  clear hb1 HM0
  go_wp2
  go_loopg [13, 5] H (fun gk s13 s5 wx => ∃ (i : Nat) (v' : Nat → Value), i + gk = H ∧ s13 = .int .i64 i ∧ s5 = .bool (td i) ∧ Hid (Mv w p v lo wx v' (dropM L k i)))
  case atStart => exact ⟨0, v, by omega, rfl, by rw [HT0.out], HM1⟩
  case round =>
    obtain ⟨i, v', hin, rfl, rfl, HM⟩ := hrel
    cases gk with
    | zero =>
      obtain rfl : i = H := by omega
      have hii : ¬ (i : Int) < (i : Int) := by omega
      go_wp2
      exact HEND.out _ _ HM.out
    | succ gk =>
      have hii : (i : Int) < (H : Int) := by omega
      have hi4 : i < 4 := by omega
      have hi4i : (i : Int) < 4 := by omega
      have hi0i : (0 : Int) ≤ (i : Int) := by omega
      have hMi := dropM_at L k i
      have hRS := lev_rises HRS.out i
      have hLL := HLL.out i
      have hHS := HHS.out i (by omega)
      have hNX := HNX.out i (by omega)
      have hTN := HTN.out i
      obtain ⟨l, hle⟩ : ∃ l, lev i L = l := ⟨_, rfl⟩
      rw [hle] at hMi hRS hLL hHS hNX
      obtain ⟨A, cap, hvi, -, -, hrow⟩ := HM.out.ro.reads hi4 (by rw [hMi]; omega)
      rw [hMi] at hvi hrow
      obtain ⟨n, hn⟩ : ∃ n, l.length = n := ⟨_, rfl⟩
      have HF := Lib.hid (HFI.out wr A n cap l hn hrow hRS)
      have HMI := Lib.hid hMi
      have HRI := Lib.hid hRS
      have HNN := Lib.hid hNX
      have HVE : Hid (.slice A n cap = v' i) := by show _ = _; rw [hvi, hn]
      have hcp := HM.out.ro.cell hi4
      rw [hvi, hn] at hcp
      clear hvi hrow hMi hRS hNX hle
      cases hz : hasT L k with
      | false =>
        rw [hz] at hHS hTN
        rw [hHS] at HF
        have HTN := Lib.hid hTN
        have HST : Hid (∀ j, dropM L k i j = dropM L k (i + 1) j) := dropM_stays k i hz
        clear hTN hHS hz
        go_wp2_with fail
        refine HF.out.mono ?_
        rintro e w2 ⟨rfl, hb2⟩
        have HM2 := Lib.hid ((HM.out.below hb2).congr fun j _ => HST.out j)
        clear hb2
        go_wp2
        go_roundg gk
        case measure => omega
        case rel => exact ⟨i + 1, v', by omega, by go_num, by rw [HTN.out], HM2⟩
      | true =>
        rw [hz] at hHS hTN
        rw [hHS] at HF
        have HTN := Lib.hid hTN
        have hpn : posT l k < n := by
          obtain ⟨y, hy, _⟩ := pos_yes HRI.out hHS
          rw [← hn]
          exact (List.getElem?_eq_some_iff.1 hy).1
        have HLS : Hid ((dropT l k).length ≤ 1048576) := by show _ ≤ _; exact Nat.le_trans (List.length_filter_le _ _) hLL
        have hw1 : IntKind.i64.wrap ((posT l k : Int) + 1) = (posT l k : Int) + 1 := by rw [IntKind.wrap_i64]; omega
        have HD : Hid (∀ w2, Below wr.heap.size wr w2 → Calls Try.prog 27 #[.slice A n cap, .int .i64 (posT l k : Nat), .int .i64 ((posT l k : Int) + 1)] w2 fun e w' => ∃ A' cap', e = .returned (.slice A' (dropT l k).length cap') ∧ Mv w p v lo (w'.setCell ⟨p, i, none⟩ (.slice A' (dropT l k).length cap')) (upd v' i (.slice A' (dropT l k).length cap')) (dropM L k (i + 1)) ∧ w'.cell? ⟨p, i, none⟩ = some (.slice A n cap) ∧ w'.frozen? ⟨p, i, none⟩ = false) := fun w2 hb2 => by
          have hm := HM.out.below hb2
          have ho := hm.ro.row i hi4
          rw [HMI.out] at ho
          rw [HVE.out]
          refine (HDE.out w2 (v' i) l ho HRI.out hLL hHS).mono ?_
          rintro e w3 ⟨u, rfl, ho3, hg3, hu3⟩
          obtain ⟨-, A3, cap3, rfl, -⟩ := rowL_of_own ho3 HLS.out
          obtain ⟨hm3, -⟩ := hm.moved hi4 ho3 hg3 hu3
          have hp3 : w3.heap[p]? = _ := (hg3.block p (lt_of_heap hm.ro.mem) (fun e => hm.ro.self i hi4 e.symm)).trans hm.ro.mem
          exact ⟨A3, cap3, rfl, hm3.congr fun j _ => HNN.out j, (World.cell?_of_block (w := w2) (a := ⟨p, i, none⟩) (hp3.trans hm.ro.mem.symm)).trans (hm.ro.cell hi4), by simp [World.frozen?, hp3]⟩
        have HCP : Hid (∀ w2, Below wr.heap.size wr w2 → w2.cell? ⟨p, i, none⟩ = some (.slice A n cap)) := fun w2 hb2 => (hb2.cell (p := ⟨p, i, none⟩) (lt_of_heap HM.out.ro.mem)).trans hcp
        clear hTN hHS hz
        generalize posT l k = ps at *
        have hpn2 : (ps : Int) < (n : Int) := by omega
        generalize (dropT l k).length = m at *
        go_wp2_with fail
        refine HF.out.mono ?_
        rintro e w2 ⟨rfl, hb2⟩
        have HD2 := Lib.hid (HD.out w2.drew hb2.drew)
        have hcp2 := HCP.out w2 hb2
        have hcpd := HCP.out w2.drew hb2.drew
        clear hb2
        go_wp2
        go_region_with (first
          | (go_at_call 27; refine HD2.out.mono ?_; rintro e w3 ⟨A3, cap3, rfl, hm3, gp, gf⟩; have HM3 := Lib.hid hm3; clear hm3))
        all_goals
          go_wp2
          go_roundg gk
          case measure => omega
          case rel => exact ⟨i + 1, _, by omega, by go_num, by rw [HTN.out], HM3⟩

end Go.Proofs.Ytfdifimakaiccaa
