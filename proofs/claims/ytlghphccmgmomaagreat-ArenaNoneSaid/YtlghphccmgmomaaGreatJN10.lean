/-
  Proved here, joined: BlockG, BlockH, BlockI
  Conditions: as each part says.
-/
import Derived.Test.YtlghphccmgmomaaGreatJN9
import Derived.Laws.Cover3
import Derived.OwnWalk
import Derived.Lib.SliceRun

/-
    Proved here: what bytes.Equal, bytes.Clone and package block's Head answer.
  Conditions: rows of at most 2^30 bytes.
-/
namespace Go.Proofs.YtlghphccmgmomaaGreat
open Go Go.RowKit
set_option maxRecDepth 100000

set_option maxHeartbeats 400000 in
theorem beq_any (w : World) (A B : Option Addr) (n m c d : Nat) (l k : List UInt8) (hl : l.length = n) (hk : k.length = m) (hr : Row w A l) (hs : Row w B k) :
    Calls Tryz.prog 124 #[.slice A n c, .slice B m d] w fun e w' => e = .returned (.bool (l == k)) ∧ w = w' := by
  have h1 := run_conv w A n c l hl hr
  have h2 := run_conv w B m d k hk hs
  have e1 : (⟨l.toArray⟩ : ByteArray).data.toList = l := by simp
  have e2 : (⟨k.toArray⟩ : ByteArray).data.toList = k := by simp
  obtain ⟨S, hS⟩ : ∃ S : ByteArray, (⟨l.toArray⟩ : ByteArray) = S := ⟨_, rfl⟩
  obtain ⟨T, hT⟩ : ∃ T : ByteArray, (⟨k.toArray⟩ : ByteArray) = T := ⟨_, rfl⟩
  rw [hS] at h1 e1
  rw [hT] at h2 e2
  have E1 := Lib.hid e1
  have E2 := Lib.hid e2
  clear hl hk hr hs e1 e2 hS hT
  go_enter Tryz.func124, Tryz.ntmps124
  go_wp2
  go_ret
  exact ⟨bool_eq (by rw [ByteArray.toList_eq, ByteArray.toList_eq, E1.out, E2.out]), rfl⟩
/-- What leaves a row of the call's own. -/
def RowTo (w : World) (l : List UInt8) (e : Ending) (w' : World) : Prop :=
  ∃ V, e = .returned V ∧ w'.ownsRow w.heap.size 5 1 V l.length (enc l) ∧ Below w.heap.size w w'
set_option maxHeartbeats 400000 in
theorem clone_any (w : World) (a : Addr) (n c : Nat) (l : List UInt8) (hl : l.length = n) (hr : Row w (some a) l) :
    Calls Tryz.prog 117 #[.slice (some a) n c] w (RowTo w l) := by
  have hb0 : Below w.heap.size w (w.alloc (.cells #[] 5)) := (Below.refl _ _).alloc (Nat.le_refl _) _
  obtain ⟨V, w2, hrun, hown, hb⟩ := run_app_below (w.alloc (.cells #[] 5)) w.heap.size 0 _ [] (World.ownsRow_made (e := 5) (size := 1) w #[] 0 (Nat.le_refl _) (by simp) (by simp)) (some a) n c l hl (hr.below hb0) (by intro h; cases h) (by have := hr.1; omega) (by simp)
  have HRUN := Lib.hid hrun
  have HO : Hid (w2.ownsRow w.heap.size 5 1 V l.length (enc l)) := (by show World.ownsRow _ _ _ _ _ _ _; rw [hl]; simpa using hown)
  have HB := Lib.hid (hb0.trans hb)
  have hnil : (binOp .eql 148 (.slice (some a) n c) (.slice none 0 0)).run Tryz.prog w = .ok (.bool false) w := Lib.run_eql_slice_nil w 148 5 (some a) n c 0 0 Tryz.underlying148
  clear hrun hown hb hl hr hb0
  go_enter Tryz.func117, Tryz.ntmps117
  go_wp2_with (at_builtin; refine wpList_app rfl (.tmp 5) (.tmp 6) 148 rfl rfl rfl HRUN.out ?_)
  go_ret
  exact ⟨V, rfl, HO.out, HB.out⟩
/-- Is a line a head (P6.2)? -/
def isHead (l : List UInt8) : Bool := decide (l.length = 64) && (decide ((l.getD 0 0).toNat = 1) && (decide (clOf l ≤ 3) && decide (kdOf l ≤ 3)))
theorem clsB_nat (n : Nat) : clsB (n : Int) = decide (n ≤ 3) := by
  rw [Bool.eq_iff_iff, clsB, Bool.and_eq_true, decide_eq_true_iff, decide_eq_true_iff, decide_eq_true_iff]; omega
theorem kndB_nat (n : Nat) : kndB (n : Int) = decide (n ≤ 3) := by
  rw [Bool.eq_iff_iff, kndB, Bool.and_eq_true, decide_eq_true_iff, decide_eq_true_iff, decide_eq_true_iff]; omega
def headR (l : List UInt8) : Value := if isHead l = true then .tuple #[.int .i64 (clOf l : Nat), .int .i64 (kdOf l : Nat), .bool true] else .tuple #[.int .i64 0, .int .i64 0, .bool false]
set_option maxHeartbeats 1600000 in
theorem head_any (w : World) (A : Option Addr) (n c : Nat) (l : List UInt8) (hl : l.length = n) (hr : Row w A l) :
    Calls Tryz.prog 174 #[.slice A n c] w fun e w' => e = .returned (headR l) ∧ Below w.heap.size w w' := by
  have HH : Hid (headR l = if isHead l = true then .tuple #[.int .i64 (clOf l : Nat), .int .i64 (kdOf l : Nat), .bool true] else .tuple #[.int .i64 0, .int .i64 0, .bool false]) := rfl
  have hi : isHead l = (decide (l.length = 64) && (decide ((l.getD 0 0).toNat = 1) && (decide (clOf l ≤ 3) && decide (kdOf l ≤ 3)))) := rfl
  generalize headR l = T at *
  rcases Classical.em (n = 64) with h64 | h64
  · subst h64
    obtain ⟨g, off, rfl, hlt, hcl⟩ := hr.2 (by omega)
    have q0 : w.cell? ⟨g, off, none⟩ = some (.int .u8 ((l.getD 0 0).toNat : Nat)) := hcl 0 (by omega)
    have q1 : w.cell? ⟨g, off + 1, none⟩ = some (.int .u8 (clOf l : Nat)) := hcl 1 (by omega)
    have q2 : w.cell? ⟨g, off + 2, none⟩ = some (.int .u8 (kdOf l : Nat)) := hcl 2 (by omega)
    have HC := Lib.hid (fun W => isclass_any (clOf l : Nat) W)
    have HK := Lib.hid (fun W => iskind_any (kdOf l : Nat) W)
    rw [clsB_nat] at HC
    rw [kndB_nat] at HK
    have b1 : clOf l < 256 := UInt8.toNat_lt _
    have b2 : kdOf l < 256 := UInt8.toNat_lt _
    rw [decide_eq_true hl, Bool.true_and] at hi
    have HI := Lib.hid hi
    generalize decide (clOf l ≤ 3) = dc at *
    generalize decide (kdOf l ≤ 3) = dk at *
    generalize isHead l = ih at *
    generalize clOf l = cl at *
    generalize kdOf l = kd at *
    generalize (l.getD 0 0).toNat = t at *
    clear hi hcl hr hl
    rcases Classical.em (t = 1) with ht | ht
    · subst ht
      have HI2 : Hid (ih = (dc && dk)) := (by have := HI.out; show _ = _; simpa using this)
      clear HI
      cases dc <;> cases dk
      all_goals
        go_enter Tryz.func174, Tryz.ntmps174
        go_wp2_with fail
        go_quiet (fail)
        go_wp2_with (first | (go_at_call 103; refine (HC.out _).mono ?_; rintro e w' ⟨rfl, rfl⟩) | (go_at_call 202; refine (HK.out _).mono ?_; rintro e w' ⟨rfl, rfl⟩))
        go_ret3
        exact ⟨by rw [HH.out, HI2.out]; rfl, below_drewN (Below.refl _ _) _⟩
    · have ht1 : ((t : Int) != 1) = true := by simp; omega
      have HI2 : Hid (ih = false) := (by have := HI.out; show _ = _; rw [this]; simp [ht])
      clear HI ht
      go_enter Tryz.func174, Tryz.ntmps174
      go_wp2
      go_ret3
      exact ⟨by rw [HH.out, HI2.out]; rfl, Below.refl _ _⟩
  · have h1 : ((n : Int) != 64) = true := by simp; omega
    have HI2 : Hid (isHead l = false) := (by show _ = _; rw [hi, hl, decide_eq_false h64]; rfl)
    generalize isHead l = ih at *
    clear hi hl h64 hr
    go_enter Tryz.func174, Tryz.ntmps174
    go_wp2
    go_ret3
    exact ⟨by rw [HH.out, HI2.out]; rfl, Below.refl _ _⟩

end Go.Proofs.YtlghphccmgmomaaGreat

/-
    Proved here: what package block's dataOf answers.
  Conditions: rows of 64 to 512 bytes.
-/
namespace Go.Proofs.YtlghphccmgmomaaGreat
open Go Go.RowKit
set_option maxRecDepth 100000

theorem Row.part {w : World} {b off : Nat} {l : List UInt8} (h : Row w (some ⟨b, off, none⟩) l) (a k : Nat) (hk : a + k ≤ l.length) : Row w (some ⟨b, off + a, none⟩) ((l.drop a).take k) := by
  have hlen : ((l.drop a).take k).length = k := by simp; omega
  refine ⟨by have := h.1; omega, fun hp => ?_⟩
  rw [hlen] at hp ⊢
  obtain ⟨b', off', e, hlt, hc⟩ := h.2 (by omega)
  simp only [Option.some.injEq, Addr.mk.injEq, and_true] at e
  obtain ⟨rfl, rfl⟩ := e
  refine ⟨_, _, rfl, hlt, fun j hj => ?_⟩
  rw [Nat.add_assoc, hc (a + j) (by omega)]
  simp [List.getD, List.getElem?_take_of_lt hj, List.getElem?_drop]
theorem dataOfL_next (m i : Nat) (l : List UInt8) (_ : i < m) : dataOfL i l ++ (l.drop (64 + 64 * i + 1)).take 63 = dataOfL (i + 1) l := by
  rw [dataOfL, dataOfL, untags_snoc, List.drop_drop, List.append_assoc, ← Nat.add_assoc]
theorem dataOfL_lenLe {i : Nat} {l : List UInt8} (h : 64 * (i + 1) ≤ l.length) : (dataOfL i l).length = 28 + 63 * i := by
  induction i with
  | zero => simp [dataOfL, untags]; omega
  | succ i ih =>
    rw [← dataOfL_next (i + 1) i l (by omega), List.length_append, ih (by omega), List.length_take, List.length_drop]
    omega
set_option maxHeartbeats 800000 in
theorem dataof_any (w : World) (b off n c m : Nat) (l : List UInt8) (hl : l.length = n) (hc : n ≤ c) (hn : n = 64 * (m + 1)) (hm : m ≤ 7) (hr : Row w (some ⟨b, off, none⟩) l) :
    Calls Tryz.prog 175 #[.slice (some ⟨b, off, none⟩) n c] w (RowTo w (dataOfL m l)) := by
  have HCL := Lib.hid (clone_any w ⟨b, off + 36, none⟩ 28 (c - 36) ((l.drop 36).take 28) (by simp; omega) (hr.part 36 28 (by omega)))
  have HD0 : Hid ((l.drop 36).take 28 = dataOfL 0 l) := (by show _ = _; simp [dataOfL, untags])
  have HL := Lib.hid hl
  have HR := Lib.hid hr
  have HN := Lib.hid hn
  have h64 : 64 ≤ n := by omega
  have hc64 : 64 ≤ c := by omega
  have hc36 : ¬ c = 36 := by omega
  have hn512 : n ≤ 512 := by omega
  obtain ⟨q, hq⟩ : ∃ q, w.heap.size = q := ⟨_, rfl⟩
  have HQ := Lib.hid hq
  clear hl hr hn hq
  go_enter Tryz.func175, Tryz.ntmps175
  go_wp2_with fail
  refine HCL.out.mono ?_
  rintro e w1 ⟨V, rfl, hown, hb⟩
  have HO : Hid (w1.ownsRow q 5 1 V (28 + 63 * 0) (enc (dataOfL 0 l))) := (by
    have h1 := hown
    rw [HD0.out, dataOfL_lenLe (by rw [HL.out]; omega), HQ.out] at h1
    exact h1)
  have HB : Hid (Below q w w1) := HQ.out ▸ hb
  clear hown hb HCL
  go_wp2
  go_loopg [3, 4] m (fun gk s3 s4 wx => ∃ (i : Nat) (V' : Value), i + gk = m ∧ V' = s3 ∧ s4 = .int .i64 ((64 + 64 * i : Nat) : Int) ∧ Hid (wx.ownsRow q 5 1 V' (28 + 63 * i) (enc (dataOfL i l))) ∧ Hid (Below q w wx))
  case atStart => exact ⟨0, V, by omega, rfl, rfl, HO, HB⟩
  case round =>
    obtain ⟨i, V', hik, rfl, rfl, HO', HB'⟩ := hrel
    cases gk with
    | zero =>
      obtain rfl : i = m := by omega
      have hcd : ¬ ((64 + 64 * i : Nat) : Int) < (n : Int) := by have := HN.out; omega
      go_wp2
      go_ret
      exact ⟨V', rfl, by rw [HQ.out, dataOfL_lenLe (by rw [HL.out, HN.out]; omega)]; exact HO'.out, by rw [HQ.out]; exact HB'.out⟩
    | succ gk =>
      obtain ⟨a, ha⟩ : ∃ a, 64 + 64 * i = a := ⟨_, rfl⟩
      have haN : a + 64 ≤ n := by have := HN.out; omega
      have hcd : (a : Int) < (n : Int) := by omega
      have hca : ¬ c = a + 1 := by omega
      have hrow : Row wr (some ⟨b, off + (a + 1), none⟩) ((l.drop (a + 1)).take 63) := (HR.out.below (HQ.out ▸ HB'.out)).part (a + 1) 63 (by rw [HL.out]; omega)
      obtain ⟨V2, x2, hrun, hown, hbel⟩ := run_app_below wr q (28 + 63 * i) V' _ HO'.out (some ⟨b, off + (a + 1), none⟩) 63 (c - (a + 1)) _ (by rw [List.length_take, List.length_drop, HL.out]; omega) hrow (by intro h; cases h) (by omega) (HQ.out ▸ HB'.out.size)
      rw [← ha, enc_append, dataOfL_next m i l (by omega)] at hown
      have HR1 : Hid ((Builtin.append_ #[148, 148] 148 #[V', .slice (some ⟨b, off + (a + 1), none⟩) (a + 64 - (a + 1)) (c - (a + 1))]).run Tryz.prog wr = .ok V2 x2) := (by show _ = _; rw [show a + 64 - (a + 1) = 63 by omega]; exact hrun)
      have HO2 : Hid (x2.ownsRow q 5 1 V2 (28 + 63 * (i + 1)) (enc (dataOfL (i + 1) l))) := (by have h1 := hown; rw [show 28 + 63 * i + 63 = 28 + 63 * (i + 1) by omega] at h1; exact h1)
      have HB2 : Hid (Below q w x2) := HB'.out.trans hbel
      have HAI := Lib.hid ha
      rw [ha]
      clear hrun hown hbel hrow ha
      go_wp2_with (at_builtin; refine wpList_app rfl (.tmp 14) (.tmp 20) 148 rfl rfl rfl HR1.out ?_)
      go_roundg gk
      case measure => omega
      case rel => exact ⟨i + 1, V2, by omega, rfl, by rw [← HAI.out]; go_num, HO2, HB2⟩

end Go.Proofs.YtlghphccmgmomaaGreat

/-
    Proved here: how a block lies in a variable; what package block's read answers where it refuses.
  Conditions: rows of at most 2^30 bytes.
-/
namespace Go.Proofs.YtlghphccmgmomaaGreat
open Go Go.RowKit
set_option maxRecDepth 100000

def zeroBV : BV := ⟨0, 0, 0, 0, 0, ⟨#[]⟩, ⟨#[]⟩⟩
theorem zero_block : (Tryz.prog.info? 95).bind (·.zero) = some zeroBV.agg := by kernel_rfl
theorem size_block : (Tryz.prog.info? 95).map (·.size) = some 7 := by kernel_rfl
def BV.cells (b : BV) : List Value := [.int .i64 b.cl, .int .i64 b.kd, .int .u64 (b.id : Nat), .int .u64 (b.ver : Nat), .int .u64 (b.ep : Nat), .string b.key, .string b.val]
theorem Box.range {w : World} {p : Nat} {b : BV} (h : Box w p b) : w.rangeAt p 0 b.cells := by
  intro j v hv
  rw [Nat.zero_add, h.cell j]
  simpa [BV.cells] using hv
theorem Box.load {w : World} {p : Nat} {b : BV} (h : Box w p b) : (loadVar 95 ⟨p, 0, none⟩).run Tryz.prog w = .ok b.agg w :=
  run_loadVar_mid (P := Tryz.prog) w p 0 95 b.cells _ h.range Tryz.underlying95 rfl size_block
/-- Two results, the first a block in a variable of its own. -/
theorem results_box {fn : Func} {t u : Tmp} (hf : fn.results = #[.cell t 95, .tmp u]) {tmps : Array Value} {g : Nat} (ht : tmps.getD t undef = .pointer (some ⟨g, 0, none⟩)) {v : Value} (hv : tmps.getD u undef = v) {w : World} {b : BV} (h : Box w g b) :
    (results fn tmps).run Tryz.prog w = .ok (.tuple #[b.agg, v]) w := by
  rw [results_cell_tmp hf, ht]
  have hl := h.load
  simp [asAddr, hl, hv, Result.andThen]
set_option maxHeartbeats 400000 in
set_option maxRecDepth 100000 in
theorem read_short (w : World) (A : Option Addr) (n c : Nat) (hn : n < 64) :
    Calls Tryz.prog 123 #[.slice A n c] w fun e w' => e = .returned (.tuple #[zeroBV.agg, .bool false]) ∧ Below w.heap.size w w' := by
  obtain ⟨p, hp⟩ : ∃ p, w.heap.size = p := ⟨_, rfl⟩
  have HP := Lib.hid hp
  have HZ := Lib.hid zero_block
  have hd : decide ((n : Int) < 64) = true := by simp; omega
  clear hp
  go_enter Tryz.func123, Tryz.ntmps123
  go_wp2_with (first
    | ((with_reducible show wpList _ _ _ (⟨some 2, .alloc _, _, _, _, _⟩ :: _) _ _); refine wpList_alloc_var (o := ⟨some 2, _, _, _, _, _⟩) rfl 95 rfl p HP.out _ HZ.out ?_; intro w1 HA1 HB1)
    | ((with_reducible show wpList _ _ _ (⟨none, .store _ _ _, _, _, _, _⟩ :: _) _ _); refine wpList_store_whole (o := ⟨none, .store 95 (.tmp 2) (.tmp 13), _, _, _, _⟩) rfl _ _ _ rfl rfl p zeroBV.cells.toArray rfl rfl 95 _ HA1.out size_block rfl (by decide +kernel) ?_; intro w6 HA6 HB6))
  refine bodyPost_ret (results_box rfl rfl rfl HA6.out) rfl ⟨rfl, ?_⟩
  rw [HP.out]
  exact HB1.out.trans HB6.out
theorem take_getD (l : List UInt8) (k n : Nat) (h : k < n) : (l.take n).getD k 0 = l.getD k 0 := by
  rw [List.getD, List.getD, List.getElem?_take_of_lt h]
theorem headR_yes {l : List UInt8} (h : isHead (l.take 64) = true) : headR (l.take 64) = .tuple #[.int .i64 (clOf l : Nat), .int .i64 (kdOf l : Nat), .bool true] := by
  rw [headR, if_pos h, clOf, kdOf, take_getD l 1 64 (by omega), take_getD l 2 64 (by omega)]
  rfl
theorem headR_no {l : List UInt8} (h : isHead l = false) : headR l = .tuple #[.int .i64 0, .int .i64 0, .bool false] := by
  rw [headR, if_neg (by rw [h]; decide)]
set_option maxHeartbeats 400000 in
set_option maxRecDepth 100000 in
theorem read_nohead (w : World) (b off n c : Nat) (l : List UInt8) (hl : l.length = n) (hn : 64 ≤ n) (hc : n ≤ c) (hr : Row w (some ⟨b, off, none⟩) l) (hh : isHead (l.take 64) = false) :
    Calls Tryz.prog 123 #[.slice (some ⟨b, off, none⟩) n c] w fun e w' => e = .returned (.tuple #[zeroBV.agg, .bool false]) ∧ Below w.heap.size w w' := by
  obtain ⟨p, hp⟩ : ∃ p, w.heap.size = p := ⟨_, rfl⟩
  have HP := Lib.hid hp
  have HZ := Lib.hid zero_block
  have HH : Hid (∀ W, Below p w W → Calls Tryz.prog 174 #[.slice (some ⟨b, off, none⟩) 64 c] W fun e w' => e = .returned (.tuple #[.int .i64 0, .int .i64 0, .bool false]) ∧ Below W.heap.size W w') := fun W hW => by
    have h1 := (hr.below (hp.symm ▸ hW)).part 0 64 (by omega)
    rw [List.drop_zero] at h1
    have h2 := head_any W (some ⟨b, off + 0, none⟩) 64 c (l.take 64) (by simp; omega) h1
    rw [headR_no hh] at h2
    exact h2
  have hd : decide ((n : Int) < 64) = false := by simp; omega
  have hc64 : 64 ≤ c := by omega
  clear hp hh hr hl
  go_enter Tryz.func123, Tryz.ntmps123
  go_wp2_with (first
    | ((with_reducible show wpList _ _ _ (⟨some 2, .alloc _, _, _, _, _⟩ :: _) _ _); refine wpList_alloc_var (o := ⟨some 2, _, _, _, _, _⟩) rfl 95 rfl p HP.out _ HZ.out ?_; intro w1 HA1 HB1)
    | (go_at_call 174; refine (HH.out _ HB1.out).mono ?_; rintro e w2 ⟨rfl, hb⟩; have HA2 := Lib.hid ((hb.block p (lt_of_heap HA1.out)).trans HA1.out); have HB2 : Hid (Below p w w2) := HB1.out.trans (hb.mono (Nat.le_of_lt (lt_of_heap HA1.out))); clear hb)
    | ((with_reducible show wpList _ _ _ (⟨none, .store _ _ _, _, _, _, _⟩ :: _) _ _); refine wpList_store_whole (o := ⟨none, .store 95 (.tmp 2) (.tmp 31), _, _, _, _⟩) rfl _ _ _ rfl rfl p zeroBV.cells.toArray rfl rfl 95 _ HA2.out size_block rfl (by decide +kernel) ?_; intro w6 HA6 HB6))
  refine bodyPost_ret (results_box rfl rfl rfl HA6.out) rfl ⟨rfl, ?_⟩
  rw [HP.out]
  exact HB2.out.trans HB6.out
set_option maxHeartbeats 400000 in
set_option maxRecDepth 100000 in
theorem read_nolen (w : World) (b off n c : Nat) (l : List UInt8) (hl : l.length = n) (hn : 64 ≤ n) (hc : n ≤ c) (hr : Row w (some ⟨b, off, none⟩) l) (hh : isHead (l.take 64) = true) (hs : n ≠ 64 * spanN (clOf l)) :
    Calls Tryz.prog 123 #[.slice (some ⟨b, off, none⟩) n c] w fun e w' => e = .returned (.tuple #[zeroBV.agg, .bool false]) ∧ Below w.heap.size w w' := by
  obtain ⟨p, hp⟩ : ∃ p, w.heap.size = p := ⟨_, rfl⟩
  have HP := Lib.hid hp
  have HZ := Lib.hid zero_block
  have HSP := Lib.hid (fun W => span_any (clOf l : Nat) W)
  have HH : Hid (∀ W, Below p w W → Calls Tryz.prog 174 #[.slice (some ⟨b, off, none⟩) 64 c] W fun e w' => e = .returned (.tuple #[.int .i64 (clOf l : Nat), .int .i64 (kdOf l : Nat), .bool true]) ∧ Below W.heap.size W w') := fun W hW => by
    have h1 := (hr.below (hp.symm ▸ hW)).part 0 64 (by omega)
    rw [List.drop_zero] at h1
    have h2 := head_any W (some ⟨b, off + 0, none⟩) 64 c (l.take 64) (by simp; omega) h1
    rw [headR_yes hh] at h2
    exact h2
  have hd : decide ((n : Int) < 64) = false := by simp; omega
  have hc64 : 64 ≤ c := by omega
  have hsc := spanN_cases (clOf l : Nat)
  have hne : ((n : Int) != (spanN (clOf l : Nat) : Int) * 64) = true := by simp; omega
  have hs8 : spanN (clOf l : Nat) ≤ 8 := by omega
  generalize spanN (clOf l : Nat) = s at *
  generalize clOf l = cl at *
  generalize kdOf l = kd at *
  clear hp hh hr hl hsc hs
  go_enter Tryz.func123, Tryz.ntmps123
  go_wp2_with (first
    | ((with_reducible show wpList _ _ _ (⟨some 2, .alloc _, _, _, _, _⟩ :: _) _ _); refine wpList_alloc_var (o := ⟨some 2, _, _, _, _, _⟩) rfl 95 rfl p HP.out _ HZ.out ?_; intro w1 HA1 HB1)
    | (go_at_call 174; refine (HH.out _ HB1.out).mono ?_; rintro e w2 ⟨rfl, hb⟩; have HA2 := Lib.hid ((hb.block p (lt_of_heap HA1.out)).trans HA1.out); have HB2 : Hid (Below p w w2) := HB1.out.trans (hb.mono (Nat.le_of_lt (lt_of_heap HA1.out))); clear hb)
    | (go_at_call 78; refine (HSP.out _).mono ?_; rintro e w' ⟨rfl, rfl⟩)
    | ((with_reducible show wpList _ _ _ (⟨none, .store _ _ _, _, _, _, _⟩ :: _) _ _); refine wpList_store_whole (o := ⟨none, .store 95 (.tmp 2) (.tmp 31), _, _, _, _⟩) rfl _ _ _ rfl rfl p zeroBV.cells.toArray rfl rfl 95 _ HA2.out size_block rfl (by decide +kernel) ?_; intro w6 HA6 HB6))
  refine bodyPost_ret (results_box rfl rfl rfl HA6.out) rfl ⟨rfl, ?_⟩
  rw [HP.out]
  exact HB2.out.trans HB6.out

end Go.Proofs.YtlghphccmgmomaaGreat
