/-
  Proved here, joined: Drop13, LinkIn, FiMem14, FiA14
  Conditions: as each part says.
-/
import Derived.Test.YtlghphccmgmomaaGreatJN26
import Derived.Test.YtlghphccmgmomaaGreatJN21
import Derived.Deep.Slices
import Derived.Deep.Fields
import Derived.ChangeSame
import Derived.OpenShut
import Derived.Test.YtlghphccmgmomaaGreatJN23
import Derived.Deep.QuietTactic
import Derived.BigQuiet
import Derived.IntWalk
import Derived.WalkSmall
import Derived.ChangeKeysEq
import Derived.StillTailTactics
import Derived.Lib.SliceRun

/-
  Proved here: what the order's Drop answers and leaves.
  Conditions: keys of at most 2^30 bytes; at most 2^20 links.
-/
namespace Go.Proofs.YtlghphccmgmomaaGreat
open Go Go.RowKit
set_option maxRecDepth 100000

set_option maxHeartbeats 3200000 in
set_option maxRecDepth 100000 in
theorem oddrop_any {w : World} {p : Nat} {v : Nat → Value} {L : List Ln} (h : Od w p v L) (s : ByteArray) (hk : s.size ≤ 1073741824) (hl : L.length ≤ 1048576) :
    Calls Tryz.prog 110 #[.pointer (some ⟨p, 0, none⟩), .string s] w fun e w' => e = .returned (.bool (hasT L s.data.toList)) ∧ OdTo w p v (dropT L s.data.toList) w' := by
  obtain ⟨R, hR⟩ : ∃ R : Ending → World → Prop, (fun e w' => e = .returned (.bool (hasT L s.data.toList)) ∧ OdTo w p v (dropT L s.data.toList) w') = R := ⟨_, rfl⟩
  rw [hR]
  obtain ⟨k, hkk⟩ : ∃ k, s.data.toList = k := ⟨_, rfl⟩
  rw [hkk] at hR
  obtain ⟨lo, hlo⟩ : ∃ lo, w.heap.size = lo := ⟨_, rfl⟩
  obtain ⟨H, hH⟩ : ∃ H, hgt k = H := ⟨_, rfl⟩
  have hHb := hgt_bounds k
  rw [hH] at hHb
  have HLV : Hid (∀ w1, Calls Tryz.prog 152 #[.string s] w1 fun e w' => e = .returned (.int .i64 (H : Nat)) ∧ Below w1.heap.size w1 w') := fun w1 => by
    have := level_any s hk w1
    rwa [show lvl (addS 0 s.data.toList) = H by rw [hkk]; exact hH] at this
  have HEND : Hid (∀ w' v', Mv w p v lo w' v' (dropM L k H) → R (.returned (.bool (toldT L k H))) w') := fun w' v' hm => by
    rw [← hR, ← hH, toldT_end]
    rw [← hH] at hm
    exact ⟨rfl, hm.to (fun i _ => dropM_end h.rises k i) (risesK_drop h.rises k) (keys_dropT h.keys k)⟩
  have HM0 : Hid (∀ w1, Below w.heap.size w w1 → Mv w p v lo w1 v (dropM L k 0)) := fun w1 hb => by
    have h1 := h.mv (Below.refl w.heap.size w)
    rw [hlo] at h1
    refine (h1.below hb).congr fun i _ => ?_
    unfold dropM
    rw [if_neg (by omega)]
  have HRS := Lib.hid h.rises
  have HLL : Hid (∀ i, (lev i L).length ≤ 1048576) := fun i => Nat.le_trans (lev_len i L) hl
  have HFI : Hid (∀ (w1 : World) (A : Option Addr) (n cap : Nat) (l : List Ln), l.length = n → RowL w1 A l → RisesK l → Calls Tryz.prog 153 #[.slice A n cap, .string s] w1 fun e w' => e = .returned (.tuple #[.int .i64 (posT l k : Nat), .bool (hasT l k)]) ∧ Below w1.heap.size w1 w') := fun w1 A n cap l h1 h2 h3 => hkk ▸ odfind_any n cap h1 h2 h3 s
  have HDE : Hid (∀ (w1 : World) (u : Value) (l : List Ln), w1.ownsRow 0 29 5 u l.length (encL l) → RisesK l → l.length ≤ 1048576 → hasT l k = true → Calls Tryz.prog 155 #[u, .int .i64 (posT l k : Nat), .int .i64 ((posT l k : Int) + 1)] w1 fun e w' => ∃ u', e = .returned u' ∧ w'.ownsRow 0 29 5 u' (dropT l k).length (encL (dropT l k)) ∧ w1.grownBy w' u.ownBlock ∧ ∀ j, u'.ownBlock = some j → u.ownBlock = some j ∨ w1.heap.size ≤ j) := fun w1 u l h1 h2 h3 h4 => by
    obtain ⟨y, hy, _⟩ := pos_yes h2 h4
    have := delete_any h1 h3 (posT l k) (List.getElem?_eq_some_iff.1 hy).1
    rwa [drop_pos h2 h4] at this
  obtain ⟨td, htd⟩ : ∃ td, toldT L k = td := ⟨_, rfl⟩
  have HT0 : Hid (td 0 = false) := by rw [← htd]; rfl
  have HTN : Hid (∀ i, td (i + 1) = hasT L k) := fun i => by rw [← htd]; exact toldT_next _ _
  rw [htd] at HEND
  have HHS : Hid (∀ i, i < H → hasT (lev i L) k = hasT L k) := fun i hi => lev_has h.rises k (by omega)
  have HNX : Hid (∀ i, i < H → ∀ j, upd (dropM L k i) i (dropT (lev i L) k) j = dropM L k (i + 1) j) := fun i hi => dropM_next h.rises k (by omega) rfl
  have hH1 := hHb.2
  clear h hk hl hR hH htd hHb hkk
  go_enter Tryz.func110, Tryz.ntmps110
  go_wp2_with fail
  refine (HLV.out _).mono ?_
  rintro e w1 ⟨rfl, hb1⟩
  have HM1 := Lib.hid (HM0.out w1 hb1)
  clear hb1 HM0
  go_wp2
  go_loopg [13, 5] H (fun gk s13 s5 wx => ∃ (i : Nat) (v' : Nat → Value), i + gk = H ∧ s13 = .int .i64 i ∧ s5 = .bool (td i) ∧ Hid (Mv w p v lo wx v' (dropM L k i)))
  case atStart => exact ⟨0, v, by omega, rfl, by rw [HT0.out], HM1⟩
  case round =>
    obtain ⟨i, v', hin, rfl, rfl, HM⟩ := hrel
    cases gk with
    | zero =>
      obtain rfl : i = H := by omega
      have hii : ¬ (i : Int) < (i : Int) := by omega
      go_wp2
      exact HEND.out _ _ HM.out
    | succ gk =>
      have hii : (i : Int) < (H : Int) := by omega
      have hi4 : i < 4 := by omega
      have hi4i : (i : Int) < 4 := by omega
      have hi0i : (0 : Int) ≤ (i : Int) := by omega
      have hMi := dropM_at L k i
      have hRS := lev_rises HRS.out i
      have hLL := HLL.out i
      have hHS := HHS.out i (by omega)
      have hNX := HNX.out i (by omega)
      have hTN := HTN.out i
      obtain ⟨l, hle⟩ : ∃ l, lev i L = l := ⟨_, rfl⟩
      rw [hle] at hMi hRS hLL hHS hNX
      obtain ⟨A, cap, hvi, -, -, hrow⟩ := HM.out.ro.reads hi4 (by rw [hMi]; omega)
      rw [hMi] at hvi hrow
      obtain ⟨n, hn⟩ : ∃ n, l.length = n := ⟨_, rfl⟩
      have HF := Lib.hid (HFI.out wr A n cap l hn hrow hRS)
      have HMI := Lib.hid hMi
      have HRI := Lib.hid hRS
      have HNN := Lib.hid hNX
      have HVE : Hid (.slice A n cap = v' i) := by show _ = _; rw [hvi, hn]
      have hcp := HM.out.ro.cell hi4
      rw [hvi, hn] at hcp
      clear hvi hrow hMi hRS hNX hle
      cases hz : hasT L k with
      | false =>
        rw [hz] at hHS hTN
        rw [hHS] at HF
        have HTN := Lib.hid hTN
        have HST : Hid (∀ j, dropM L k i j = dropM L k (i + 1) j) := dropM_stays k i hz
        clear hTN hHS hz
        go_wp2_with fail
        refine HF.out.mono ?_
        rintro e w2 ⟨rfl, hb2⟩
        have HM2 := Lib.hid ((HM.out.below hb2).congr fun j _ => HST.out j)
        clear hb2
        go_wp2
        go_roundg gk
        case measure => omega
        case rel => exact ⟨i + 1, v', by omega, by go_num, by rw [HTN.out], HM2⟩
      | true =>
        rw [hz] at hHS hTN
        rw [hHS] at HF
        have HTN := Lib.hid hTN
        have hpn : posT l k < n := by
          obtain ⟨y, hy, _⟩ := pos_yes HRI.out hHS
          rw [← hn]
          exact (List.getElem?_eq_some_iff.1 hy).1
        have HLS : Hid ((dropT l k).length ≤ 1048576) := by show _ ≤ _; exact Nat.le_trans (List.length_filter_le _ _) hLL
        have hw1 : IntKind.i64.wrap ((posT l k : Int) + 1) = (posT l k : Int) + 1 := by rw [IntKind.wrap_i64]; omega
        have HD : Hid (∀ w2, Below wr.heap.size wr w2 → Calls Tryz.prog 155 #[.slice A n cap, .int .i64 (posT l k : Nat), .int .i64 ((posT l k : Int) + 1)] w2 fun e w' => ∃ A' cap', e = .returned (.slice A' (dropT l k).length cap') ∧ Mv w p v lo (w'.setCell ⟨p, i, none⟩ (.slice A' (dropT l k).length cap')) (upd v' i (.slice A' (dropT l k).length cap')) (dropM L k (i + 1)) ∧ w'.cell? ⟨p, i, none⟩ = some (.slice A n cap) ∧ w'.frozen? ⟨p, i, none⟩ = false) := fun w2 hb2 => by
          have hm := HM.out.below hb2
          have ho := hm.ro.row i hi4
          rw [HMI.out] at ho
          rw [HVE.out]
          refine (HDE.out w2 (v' i) l ho HRI.out hLL hHS).mono ?_
          rintro e w3 ⟨u, rfl, ho3, hg3, hu3⟩
          obtain ⟨-, A3, cap3, rfl, -⟩ := rowL_of_own ho3 HLS.out
          obtain ⟨hm3, -⟩ := hm.moved hi4 ho3 hg3 hu3
          have hp3 : w3.heap[p]? = _ := (hg3.block p (lt_of_heap hm.ro.mem) (fun e => hm.ro.self i hi4 e.symm)).trans hm.ro.mem
          exact ⟨A3, cap3, rfl, hm3.congr fun j _ => HNN.out j, (World.cell?_of_block (w := w2) (a := ⟨p, i, none⟩) (hp3.trans hm.ro.mem.symm)).trans (hm.ro.cell hi4), by simp [World.frozen?, hp3]⟩
        have HCP : Hid (∀ w2, Below wr.heap.size wr w2 → w2.cell? ⟨p, i, none⟩ = some (.slice A n cap)) := fun w2 hb2 => (hb2.cell (p := ⟨p, i, none⟩) (lt_of_heap HM.out.ro.mem)).trans hcp
        clear hTN hHS hz
        generalize posT l k = ps at *
        have hpn2 : (ps : Int) < (n : Int) := by omega
        generalize (dropT l k).length = m at *
        go_wp2_with fail
        refine HF.out.mono ?_
        rintro e w2 ⟨rfl, hb2⟩
        have HD2 := Lib.hid (HD.out w2.drew hb2.drew)
        have hcp2 := HCP.out w2 hb2
        have hcpd := HCP.out w2.drew hb2.drew
        clear hb2
        go_wp2
        go_region_with (first
          | (go_at_call 155; refine HD2.out.mono ?_; rintro e w3 ⟨A3, cap3, rfl, hm3, gp, gf⟩; have HM3 := Lib.hid hm3; clear hm3))
        all_goals
          go_wp2
          go_roundg gk
          case measure => omega
          case rel => exact ⟨i + 1, _, by omega, by go_num, by rw [HTN.out], HM3⟩

end Go.Proofs.YtlghphccmgmomaaGreat

/-
  Proved here: links and truths that came in, alone and in a slice, read as lists.
  Conditions: none.
-/
namespace Go.Proofs.YtlghphccmgmomaaGreat
open Go Go.RowKit
set_option maxRecDepth 100000

section
open Go.ChangeShapes Go.WideShapes Go.Deep
variable {H : Type} {enc : TypeId × Value → H} {w : World} {base : Nat} {spare : Nat → Bool} {held : Bool}
/-- Links that came in, read as a list. -/
def IsLinks (w : World) (a : Option Addr) (len : Nat) (xs : List Ln) : Prop :=
  (xs.length = len ∧ ∀ x ∈ xs, x.k.length ≤ maxLen) ∧ len ≤ maxLen ∧ (0 < len → ∃ b off, a = some ⟨b, off, none⟩ ∧ b < w.heap.size ∧ ∀ i x, xs[i]? = some x → ∀ j v, x.cells[j]? = some v → w.cell? ⟨b, off + i * 5 + j, none⟩ = some v)
theorem IsLinks.below {w w' : World} {a : Option Addr} {len : Nat} {xs : List Ln} (h : IsLinks w a len xs) (hb : Below w.heap.size w w') : IsLinks w' a len xs :=
  ⟨h.1, h.2.1, fun hl => by
    obtain ⟨b, off, e, hlt, hc⟩ := h.2.2 hl
    exact ⟨b, off, e, Nat.lt_of_lt_of_le hlt hb.size, fun i x hx j v hv => (hb.cell (p := ⟨b, off + i * 5 + j, none⟩) hlt).trans (hc i x hx j v hv)⟩⟩
theorem IsLinks.row {w : World} {a : Option Addr} {len : Nat} {xs : List Ln} (h : IsLinks w a len xs) (hl : len ≤ 1048576) : RowL w a xs :=
  ⟨by rw [h.1.1]; exact hl, fun hpos => h.2.2 (by rw [← h.1.1]; exact hpos)⟩
/-- Truths that came in, read as a list. -/
def IsBools (w : World) (a : Option Addr) (len : Nat) (xs : List Bool) : Prop :=
  xs.length = len ∧ len ≤ maxLen ∧ (0 < len → ∃ b off, a = some ⟨b, off, none⟩ ∧ b < w.heap.size ∧ ∀ i x, xs[i]? = some x → w.cell? ⟨b, off + i, none⟩ = some (.bool x))
theorem IsBools.below {w w' : World} {a : Option Addr} {len : Nat} {xs : List Bool} (h : IsBools w a len xs) (hb : Below w.heap.size w w') : IsBools w' a len xs :=
  ⟨h.1, h.2.1, fun hl => by
    obtain ⟨b, off, e, hlt, hc⟩ := h.2.2 hl
    exact ⟨b, off, e, Nat.lt_of_lt_of_le hlt hb.size, fun i x hx => (hb.cell (p := ⟨b, off + i, none⟩) hlt).trans (hc i x hx)⟩⟩
end

end Go.Proofs.YtlghphccmgmomaaGreat

/-
  Proved here: how the list of links in a ring lies in memory.
  Conditions: at most 4,095 places.
-/
namespace Go.Proofs.YtlghphccmgmomaaGreat
open Go Go.RowKit
set_option maxRecDepth 100000

/-! ### A ring -/
/-- The links L lie in the places P, the first one in place f. -/
structure Ring (P : List Ln) (f : Nat) (L : List Ln) : Prop where
  fits : L.length ≤ P.length
  first : f < P.length ∨ (f = 0 ∧ P = [])
  at_ : ∀ i x, L[i]? = some x → P[(f + i) % P.length]? = some x
theorem wrap_at {n f i : Nat} (hf : f < n) (hi : i < n) : (f + i) % n = if f + i < n then f + i else f + i - n := by
  split
  · exact Nat.mod_eq_of_lt (by assumption)
  · rw [Nat.mod_eq_sub_mod (by omega), Nat.mod_eq_of_lt (by omega)]
theorem wrap_ne {n f i j : Nat} (hf : f < n) (hi : i < n) (hj : j < n) (h : i ≠ j) : (f + i) % n ≠ (f + j) % n := by
  rw [wrap_at hf hi, wrap_at hf hj]
  split <;> split <;> omega
theorem ring_nil : Ring [] 0 [] := ⟨by simp, .inr ⟨rfl, rfl⟩, fun i x h => by cases h⟩
theorem Ring.first_lt {P L : List Ln} {f : Nat} (h : Ring P f L) (hl : 0 < P.length) : f < P.length := by
  rcases h.first with h | ⟨_, rfl⟩
  · exact h
  · simp at hl
theorem Ring.head {P L : List Ln} {f : Nat} {x : Ln} (h : Ring P f (x :: L)) : f < P.length ∧ P[f]? = some x := by
  have hf := h.first_lt (by have := h.fits; simp at this; omega)
  have := h.at_ 0 x rfl
  rw [Nat.add_zero, Nat.mod_eq_of_lt hf] at this
  exact ⟨hf, this⟩
theorem Ring.push {P L : List Ln} {f : Nat} (h : Ring P f L) (hr : L.length < P.length) (x : Ln) : Ring (P.set ((f + L.length) % P.length) x) f (L ++ [x]) := by
  have hf := h.first_lt (by omega)
  refine ⟨by simp; omega, .inl (by simpa using hf), fun i y hi => ?_⟩
  rw [List.length_set]
  rcases Nat.lt_or_ge i L.length with h1 | h1
  · rw [List.getElem?_append_left h1] at hi
    rw [List.getElem?_set_ne (wrap_ne hf (by omega) (by omega) (by omega))]
    exact h.at_ i y hi
  · obtain rfl : i = L.length := by
      have := (List.getElem?_eq_some_iff.1 hi).1
      simp at this; omega
    rw [List.getElem?_append_right (Nat.le_refl _), Nat.sub_self] at hi
    obtain rfl : x = y := by simpa using hi
    rw [List.getElem?_set_self (Nat.mod_lt _ (by omega))]
theorem Ring.pop {P L : List Ln} {f : Nat} {x : Ln} (h : Ring P f (x :: L)) (z : Ln) : Ring (P.set f z) ((f + 1) % P.length) L := by
  have hf := (h.head).1
  have hl : L.length + 1 ≤ P.length := by have := h.fits; simpa using this
  refine ⟨by simp; omega, .inl (by rw [List.length_set]; exact Nat.mod_lt _ (by omega)), fun i y hi => ?_⟩
  have hil := (List.getElem?_eq_some_iff.1 hi).1
  have h1 := h.at_ (i + 1) y (by simpa using hi)
  rw [List.length_set, Nat.mod_add_mod, Nat.add_assoc, Nat.add_comm 1 i]
  have hne := wrap_ne (n := P.length) (f := f) (i := 0) (j := i + 1) hf (by omega) (by omega) (by omega)
  rw [Nat.add_zero, Nat.mod_eq_of_lt hf] at hne
  rw [List.getElem?_set_ne hne]
  exact h1
theorem Ring.grown (L : List Ln) (k : Nat) : Ring (L ++ List.replicate (k + 1) Ln.zero) 0 L := by
  refine ⟨by simp, .inl (by simp; omega), fun i y hi => ?_⟩
  have hil := (List.getElem?_eq_some_iff.1 hi).1
  rw [Nat.zero_add, Nat.mod_eq_of_lt (by simp; omega), List.getElem?_append_left hil]
  exact hi

/-! ### The list in memory -/
/-- The list at p with the links L: its places P are v's, the first link lies in place f. -/
structure Fi (w : World) (p : Nat) (v : Value) (f : Nat) (P L : List Ln) : Prop where
  mem : w.heap[p]? = some (.cells #[v, .int .i64 (f : Nat), .int .i64 (L.length : Nat)] 174 (0, 0))
  row : w.ownsRow 0 29 5 v P.length (encL P)
  ring : Ring P f L
  self : v.ownBlock ≠ some p
  small : P.length ≤ 4095
/-- The list's own blocks. -/
def fiOwn (p : Nat) (v : Value) (k : Nat) : Prop := k = p ∨ v.ownBlock = some k
section
variable {w w' w1 : World} {p f : Nat} {v : Value} {P L : List Ln}
theorem Fi.lt (h : Fi w p v f P L) {k : Nat} (hk : fiOwn p v k) : k < w.heap.size := by
  rcases hk with rfl | e
  · exact lt_of_heap h.mem
  · exact (h.row.lt k e).2
theorem Fi.stay {S : Nat → Prop} (h : Fi w p v f P L) (hs : Stay S w w') (hn : ∀ k, fiOwn p v k → ¬ S k) : Fi w' p v f P L :=
  ⟨(hs.block p (hn p (.inl rfl)) (h.lt (.inl rfl))).trans h.mem, own_same h.row fun k hk => hs.block k (hn k (.inr hk)) (h.lt (.inr hk)), h.ring, h.self, h.small⟩
theorem Fi.below (h : Fi w p v f P L) (hb : Below w.heap.size w w') : Fi w' p v f P L := h.stay (S := fun _ => False) (Stay.of_below hb) (fun _ _ => id)
theorem Fi.drewN (h : Fi w p v f P L) (k : Nat) : Fi (w.drewN k) p v f P L := h.below (below_drewN (Below.refl _ _) k)
theorem Fi.cells (h : Fi w p v f P L) : w.cell? ⟨p, 0, none⟩ = some v ∧ w.cell? ⟨p, 1, none⟩ = some (.int .i64 (f : Nat)) ∧ w.cell? ⟨p, 2, none⟩ = some (.int .i64 (L.length : Nat)) := by
  refine ⟨?_, ?_, ?_⟩ <;> simp [World.cell?, h.mem]
theorem Fi.frozen (h : Fi w p v f P L) (i : Nat) : w.frozen? ⟨p, i, none⟩ = false := by simp [World.frozen?, h.mem]
/-- The places, to be read. -/
theorem Fi.reads (h : Fi w p v f P L) : ∃ A cap, v = .slice A P.length cap ∧ (A = none → P = []) ∧ RowL w A P := by
  obtain ⟨_, A, cap, e, h1, h2, h3, _⟩ := rowL_of_own h.row (by have := h.small; omega)
  exact ⟨A, cap, e, fun e => List.eq_nil_of_length_eq_zero (h3 e).1, h2⟩
end
theorem fi_new (w : World) : Fi (w.alloc (.cells #[.slice none 0 0, .int .i64 0, .int .i64 0] 174)) w.heap.size (.slice none 0 0) 0 [] [] :=
  ⟨heap_alloc_new w _, World.ownsRow_nil _ _ _ _, ring_nil, fun h => (by cases h), by simp⟩
/-- What a step of the list leaves. -/
def FiTo (w : World) (p : Nat) (v : Value) (L : List Ln) (w' : World) : Prop :=
  ∃ v' f' P', Fi w' p v' f' P' L ∧ Stay (fiOwn p v) w w' ∧ ∀ k, fiOwn p v' k → fiOwn p v k ∨ w.heap.size ≤ k

end Go.Proofs.YtlghphccmgmomaaGreat

/-
  Proved here: what the list's New, Len, place and head answer.
  Conditions: at most 4,095 places.
-/
namespace Go.Proofs.YtlghphccmgmomaaGreat
open Go Go.RowKit
set_option maxRecDepth 100000

set_option maxHeartbeats 400000 in
theorem finew_any (w : World) : Calls Tryz.prog 139 #[] w fun e w' => e = .returned (.pointer (some ⟨w.heap.size, 0, none⟩)) ∧ Fi w' w.heap.size (.slice none 0 0) 0 [] [] ∧ Below w.heap.size w w' := by
  have HR := Lib.hid (fi_new w)
  go_enter Tryz.func139, Tryz.ntmps139
  go_wp2
  go_ret
  exact ⟨rfl, HR.out, (Below.refl _ _).alloc (Nat.le_refl _) _⟩
set_option maxHeartbeats 400000 in
/-- What 'place' reads: the places' number and where the first link lies. -/
theorem place_of {w : World} {p f n i : Nat} {A : Option Addr} {cap : Nat} (c0 : w.cell? ⟨p, 0, none⟩ = some (.slice A n cap)) (c1 : w.cell? ⟨p, 1, none⟩ = some (.int .i64 (f : Nat))) (hn : 0 < n) (hn2 : n ≤ 4095) (hf : f < n) (hi : i ≤ n) :
    Calls Tryz.prog 125 #[.pointer (some ⟨p, 0, none⟩), .int .i64 (i : Nat)] w fun e w' => e = .returned (.int .i64 (((f + i) % n : Nat) : Int)) ∧ ∃ k, w' = w.drewN k := by
  have H : Hid (((f : Int) + (i : Int)) % (n : Int) = (((f + i) % n : Nat) : Int)) := rfl
  have hz : ((n : Int) == 0) = false := by simp; omega
  generalize (f + i) % n = r at *
  go_enter Tryz.func125, Tryz.ntmps125
  go_wp2
  go_quiet (fail)
  go_wp2
  go_ret
  exact ⟨int_eq H.out, _, rfl⟩
theorem heap_set5 {w : World} {g : Nat} {T : TypeId} {z0 z1 z2 z3 z4 : Value} (h : w.heap[g]? = some (.cells #[z0, z1, z2, z3, z4] T (0, 0))) (a b c d e : Value) : (((((w.setCell ⟨g, 0, none⟩ a).setCell ⟨g, 1, none⟩ b).setCell ⟨g, 2, none⟩ c).setCell ⟨g, 3, none⟩ d).setCell ⟨g, 4, none⟩ e).heap[g]? = some (.cells #[a, b, c, d, e] T (0, 0)) := by
  have h0 := heap_setCell_same w g 0 _ T a h
  have h1 := heap_setCell_same _ g 1 _ T b h0
  have h2 := heap_setCell_same _ g 2 _ T c h1
  have h3 := heap_setCell_same _ g 3 _ T d h2
  have h4 := heap_setCell_same _ g 4 _ T e h3
  simpa using h4
theorem below_set5 {B g : Nat} {w0 w : World} (h : Below B w0 w) (hg : B ≤ g) (o : Nat) (a b c d e : Value) : Below B w0 (((((w.setCell ⟨g, o, none⟩ a).setCell ⟨g, o + 1, none⟩ b).setCell ⟨g, o + 2, none⟩ c).setCell ⟨g, o + 3, none⟩ d).setCell ⟨g, o + 4, none⟩ e) :=
  ((((h.setCell hg _).setCell hg _).setCell hg _).setCell hg _).setCell hg _
theorem frozenL {w : World} {g : Nat} {T : TypeId} {cs : Array Value} (h : w.heap[g]? = some (.cells cs T (0, 0))) : w.frozen? ⟨g, 0, none⟩ = false ∧ w.frozen? ⟨g, 1, none⟩ = false ∧ w.frozen? ⟨g, 2, none⟩ = false ∧ w.frozen? ⟨g, 3, none⟩ = false ∧ w.frozen? ⟨g, 4, none⟩ = false := by
  refine ⟨?_, ?_, ?_, ?_, ?_⟩ <;> simp [World.frozen?, h]
/-- What Head and Pop answer. -/
def hdV (L : List Ln) : Value := .tuple #[(L.head?.getD Ln.zero).agg, .bool L.head?.isSome]
set_option maxHeartbeats 1600000 in
theorem rhead_no {w : World} {p f : Nat} {v : Value} {P : List Ln} (h : Fi w p v f P []) : Calls Tryz.prog 100 #[.pointer (some ⟨p, 0, none⟩)] w fun e w' => e = .returned (hdV []) ∧ Below w.heap.size w w' := by
  obtain ⟨_, _, c2⟩ := h.cells
  obtain ⟨g, hg⟩ : ∃ g, w.heap.size = g := ⟨_, rfl⟩
  have hpg : p < g := hg ▸ h.lt (.inl rfl)
  have HG := Lib.hid hg
  have HZ := Lib.hid zero_link
  have HEZ : Hid (∀ (w' : World) (g : Nat), w'.heap[g]? = some (.cells #[.string ⟨#[]⟩, .int .u64 0, .int .u64 0, .int .i64 0, .int .i64 0] 29 (0, 0)) → LBox w' g Ln.zero) := fun w' g h => h
  rw [hg]
  clear h
  go_enter Tryz.func100, Tryz.ntmps100
  go_wp2_with (first
    | ((with_reducible show wpList _ _ _ (⟨some 2, .alloc _, _, _, _, _⟩ :: _) _ _); refine wpList_alloc_var (o := ⟨some 2, _, _, _, _, _⟩) rfl 29 rfl g HG.out _ HZ.out ?_; intro w2 H2 B2; have e2 : w2.cell? ⟨p, 2, none⟩ = some (.int .i64 0) := (B2.out.cell (p := ⟨p, 2, none⟩) hpg).trans c2; obtain ⟨g2, hg2⟩ : ∃ g2, w2.heap.size = g2 := ⟨_, rfl⟩; have HG2 := Lib.hid hg2; have HL2 : Hid (g < g2) := hg2 ▸ lt_of_heap H2.out; clear hg2)
    | ((with_reducible show wpList _ _ _ (⟨some 4, .alloc _, _, _, _, _⟩ :: _) _ _); refine wpList_alloc_var (o := ⟨some 4, _, _, _, _, _⟩) rfl 29 rfl g2 HG2.out _ HZ.out ?_; intro w4 H4 B4; have H24 := Lib.hid ((B4.out.block g HL2.out).trans H2.out); obtain ⟨q0, q1, q2, q3, q4⟩ := cellsL H4.out)
    | ((with_reducible show wpList _ _ _ (⟨none, .store _ (.tmp 2) _, _, _, _, _⟩ :: _) _ _); refine wpList_store_whole (o := ⟨none, .store 29 (.tmp 2) (.tmp 10), _, _, _, _⟩) rfl _ _ _ rfl rfl g #[.string ⟨#[]⟩, .int .u64 0, .int .u64 0, .int .i64 0, .int .i64 0] rfl rfl 29 _ H24.out size_link rfl (onesL _ _ _ _ _) ?_; intro w5 H5 B5)
    | fail)
  refine bodyPost_ret (results_l2 rfl rfl rfl (HEZ.out _ _ H5.out)) rfl ?_
  exact ⟨rfl, B2.out.trans ((B4.out.mono (Nat.le_of_lt HL2.out)).trans B5.out)⟩
set_option maxHeartbeats 1600000 in
theorem rhead_yes {w : World} {p f : Nat} {v : Value} {P L : List Ln} {x : Ln} (h : Fi w p v f P (x :: L)) : Calls Tryz.prog 100 #[.pointer (some ⟨p, 0, none⟩)] w fun e w' => e = .returned (hdV (x :: L)) ∧ Below w.heap.size w w' := by
  obtain ⟨A, cap, rfl, _, hr⟩ := h.reads
  obtain ⟨c0, c1, c2⟩ := h.cells
  have hz : ((((x :: L).length : Nat) : Int) == 0) = false := by simp; omega
  obtain ⟨hfl, hfx⟩ := h.ring.head
  obtain ⟨g, hg⟩ : ∃ g, w.heap.size = g := ⟨_, rfl⟩
  have hpg : p < g := hg ▸ h.lt (.inl rfl)
  have HG := Lib.hid hg
  have HZ := Lib.hid zero_link
  obtain ⟨b, off, rfl, hbg, d0, d1, d2, d3, d4⟩ := hr.at_ hfx
  rw [hg] at hbg ⊢
  have HEB : Hid (∀ (w' : World) (g : Nat), w'.heap[g]? = some (.cells #[.string x.str, .int .u64 (x.id : Nat), .int .u64 (x.ver : Nat), .int .i64 x.line, .int .i64 x.cl] 29 (0, 0)) → LBox w' g x) := fun w' g h => h
  have HV : Hid (hdV (x :: L) = .tuple #[x.agg, .bool true]) := rfl
  generalize hdV (x :: L) = V at *
  generalize (x :: L).length = n at *
  generalize P.length = m at *
  have hfm : (f : Int) < (m : Int) := by omega
  obtain ⟨X, hX⟩ : ∃ X, x.agg = X := ⟨_, rfl⟩
  rw [hX] at HV
  have HX := Lib.hid hX
  clear h hr hfx hfl hX
  generalize x.str = x0 at *
  generalize (x.id : Int) = x1 at *
  generalize (x.ver : Int) = x2 at *
  generalize x.line = x3 at *
  generalize x.cl = x4 at *
  go_enter Tryz.func100, Tryz.ntmps100
  go_wp2_with (first
    | ((with_reducible show wpList _ _ _ (⟨some 2, .alloc _, _, _, _, _⟩ :: _) _ _); refine wpList_alloc_var (o := ⟨some 2, _, _, _, _, _⟩) rfl 29 rfl g HG.out _ HZ.out ?_; intro w2 H2 B2; have e0 := (B2.out.cell (p := ⟨p, 0, none⟩) hpg).trans c0; have e1 := (B2.out.cell (p := ⟨p, 1, none⟩) hpg).trans c1; have e2 := (B2.out.cell (p := ⟨p, 2, none⟩) hpg).trans c2; have s0 := (B2.out.cell (p := ⟨b, off + f * 5, none⟩) hbg).trans d0; have s1 := (B2.out.cell (p := ⟨b, off + f * 5 + 1, none⟩) hbg).trans d1; have s2 := (B2.out.cell (p := ⟨b, off + f * 5 + 2, none⟩) hbg).trans d2; have s3 := (B2.out.cell (p := ⟨b, off + f * 5 + 3, none⟩) hbg).trans d3; have s4 := (B2.out.cell (p := ⟨b, off + f * 5 + 4, none⟩) hbg).trans d4; obtain ⟨q0, q1, q2, q3, q4⟩ := cellsL H2.out; obtain ⟨f0, f1, f2, f3, f4⟩ := frozenL H2.out)
    | fail)
  go_region
  go_wp2
  refine bodyPost_ret (results_l2 rfl rfl rfl (HEB.out _ _ (by exact heap_set5 H2.out _ _ _ _ _))) rfl ?_
  rw [HX.out, HV.out]
  exact ⟨rfl, (below_set5 B2.out (Nat.le_refl _) 0 _ _ _ _ _).drew⟩

end Go.Proofs.YtlghphccmgmomaaGreat
