/-
  Proved here, joined: NumA16, PastA16
  Conditions: as each part says.
-/
import Derived.Test.YtlghphccmgmomaaGreatJN41

/-
  Proved here: the blocks that changes write, with the numbers that come next, package arena.
  Conditions: at most three changes, numbers far from the end of what a machine has.
-/
namespace Go.Proofs.YtlghphccmgmomaaGreat
open Go Go.RowKit
set_option maxRecDepth 100000

open Classical
/-! ### Blocks in a slice -/
theorem made_list {α : Type} (R : Rec α) (z0 : α) (hz : R.zv.cells.toList = R.cells z0) (n : Nat) : (madeCells R.zv.cells (n * R.k)).toList = R.enc (List.replicate n z0) := by
  have hk := R.hk
  apply List.ext_getElem?
  intro j
  rcases Nat.lt_or_ge j (n * R.k) with hj | hj
  · have hq : j / R.k < n := (Nat.div_lt_iff_lt_mul hk).2 hj
    have hm : j % R.k < R.k := Nat.mod_lt _ hk
    have h1 := R.enc_at (List.replicate n z0) [] (i := j / R.k) (e := z0) (by rw [List.getElem?_replicate, if_pos hq]) (j % R.k) hm
    rw [List.append_nil, Nat.mul_comm, Nat.div_add_mod] at h1
    rw [h1, ← hz]
    have hs : R.zv.cells.size = R.k := R.zk
    simp only [madeCells, Array.getElem?_toList, Array.getElem?_map, Array.getElem?_range, if_pos hj, Option.map_some]
    rw [hs, getElem!_pos R.zv.cells (j % R.k) (by omega), Array.getElem?_eq_getElem (by omega)]
  · rw [List.getElem?_eq_none (by simp [madeCells]; exact hj), List.getElem?_eq_none (by rw [R.enc_len, List.length_replicate]; exact hj)]
theorem madeR {α : Type} (R : Rec α) (z0 : α) (hz : R.zv.cells.toList = R.cells z0) (w : World) (n : Nat) (hn : n ≤ 1048576) : ∃ w1, (Instr.makeSlice R.tS (.int .i64 (n : Int)) (.int .i64 (n : Int))).run Tryz.prog w = .ok (.slice (some ⟨w.heap.size, 0, none⟩) n n) w1 ∧
    w1.ownsRow w.heap.size R.tE R.k (.slice (some ⟨w.heap.size, 0, none⟩) n n) n (R.enc (List.replicate n z0)) ∧ Below w.heap.size w w1 := by
  obtain ⟨i, hi, hiz, hs, hy⟩ := R.info
  obtain ⟨w1, h1, h2, h3⟩ := run_make_full (P := Tryz.prog) w w.heap.size R.tS R.tE i _ R.k R.und hi hiz hs .i64 .i64 n (by rw [hy, Nat.mul_comm]; have := R.fits hn; omega) (by unfold maxLen; omega) (Nat.le_refl _)
  rw [made_list R z0 hz] at h2
  exact ⟨w1, h1, h2, (Below.refl _ _).grown h3 (Nat.le_refl _) (fun k e => by cases e)⟩
theorem blk_info : (Tryz.prog.info? 95).map (fun i => (i.zero, i.size, i.bytes)) = some (some zeroBV.agg, 7, 72) := by kernel_rfl
def RBk : Rec BV where
  tE := 95
  tS := 91
  k := 7
  by_ := 72
  zv := zeroBV.agg
  cells := fun b => [.int .i64 b.cl, .int .i64 b.kd, .int .u64 (b.id : Nat), .int .u64 (b.ver : Nat), .int .u64 (b.ep : Nat), .string b.key, .string b.val]
  hk := by omega
  klen := fun _ => rfl
  one := fun x u hu => by
    simp only [List.mem_cons, List.not_mem_nil, or_false] at hu
    rcases hu with rfl | rfl | rfl | rfl | rfl | rfl | rfl <;> rfl
  und := Tryz.underlying91
  info := by
    obtain ⟨i, h1, h2⟩ := Option.map_eq_some_iff.1 blk_info
    simp only [Prod.mk.injEq] at h2
    exact ⟨i, h1, h2.1, h2.2.1, h2.2.2⟩
  zk := by kernel_rfl
  small := by omega
theorem blkAt16 {w : World} {A : Option Addr} {l : List BV} (h : RBk.Row w A l) {i : Nat} {e : BV} (hi : l[i]? = some e) : ∃ b off, A = some ⟨b, off, none⟩ ∧ b < w.heap.size ∧
    w.cell? ⟨b, off + i * 7, none⟩ = some (.int .i64 e.cl) ∧ w.cell? ⟨b, off + i * 7 + 1, none⟩ = some (.int .i64 e.kd) ∧ w.cell? ⟨b, off + i * 7 + 2, none⟩ = some (.int .u64 (e.id : Nat)) ∧
    w.cell? ⟨b, off + i * 7 + 3, none⟩ = some (.int .u64 (e.ver : Nat)) ∧ w.cell? ⟨b, off + i * 7 + 4, none⟩ = some (.int .u64 (e.ep : Nat)) ∧ w.cell? ⟨b, off + i * 7 + 5, none⟩ = some (.string e.key) ∧ w.cell? ⟨b, off + i * 7 + 6, none⟩ = some (.string e.val) := by
  obtain ⟨b, off, e1, hlt, hc⟩ := h.2 (by have := (List.getElem?_eq_some_iff.1 hi).1; omega)
  exact ⟨b, off, e1, hlt, hc i e hi 0 _ rfl, hc i e hi 1 _ rfl, hc i e hi 2 _ rfl, hc i e hi 3 _ rfl, hc i e hi 4 _ rfl, hc i e hi 5 _ rfl, hc i e hi 6 _ rfl⟩
/-! ### The blocks that changes write, with their numbers -/
def nNew (G : List Ch) : Nat := (G.filter newH).length
def nNeed (G : List Ch) : Nat := (G.filter needH).length
def blkI (ep id ver : Nat) (G : List Ch) (i : Nat) : BV := match G[i]? with
  | some c => if needH c then blkH c ep (if newH c then id + nNew (G.take i) + 1 else c.old.id) (ver + nNeed (G.take i) + 1) else zeroBV
  | none => zeroBV
def numL (ep id ver : Nat) (G : List Ch) (k : Nat) : List BV := (List.range k).map (blkI ep id ver G)
theorem new_need {c : Ch} (h : newH c = true) : needH c = true := by
  unfold newH needH at *
  rcases kd_cases c.kd with e | e | e | e | ⟨e2, e3, e4, e5, -⟩
  · rw [e]; rfl
  · rw [e] at h; cases h
  · rw [e]; rfl
  · rw [e] at h; cases h
  · rw [e2, e4] at h; cases h
theorem cnt_succ (p : Ch → Bool) {G : List Ch} {i : Nat} {c : Ch} (h : G[i]? = some c) : ((G.take (i + 1)).filter p).length = ((G.take i).filter p).length + if p c then 1 else 0 := by
  rw [List.take_add_one, h]
  cases hc : p c <;> simp [hc]
theorem numL_len (ep id ver : Nat) (G : List Ch) (k : Nat) : (numL ep id ver G k).length = k := by simp [numL]
theorem numL_succ (ep id ver : Nat) (G : List Ch) (k : Nat) : numL ep id ver G (k + 1) = numL ep id ver G k ++ [blkI ep id ver G k] := by
  unfold numL
  rw [List.range_succ, List.map_append]
  rfl
/-- The row behind i rounds. -/
def rowN (ep id ver : Nat) (G : List Ch) (n i : Nat) : List BV := numL ep id ver G i ++ List.replicate (n - i) zeroBV
theorem rowN_len (ep id ver : Nat) (G : List Ch) {n i : Nat} (h : i ≤ n) : (rowN ep id ver G n i).length = n := by
  unfold rowN
  rw [List.length_append, numL_len, List.length_replicate]
  omega
theorem rowN_set (ep id ver : Nat) (G : List Ch) {n i : Nat} (h : i < n) : (rowN ep id ver G n i).set i (blkI ep id ver G i) = rowN ep id ver G n (i + 1) := by
  unfold rowN
  rw [List.set_append_right _ _ (by rw [numL_len]; exact Nat.le_refl _), numL_len, Nat.sub_self, show n - i = (n - (i + 1)) + 1 by omega, List.replicate_succ, List.set_cons_zero, numL_succ, List.append_assoc]
  rfl
theorem rowN_at (ep id ver : Nat) (G : List Ch) {n i : Nat} (h : i < n) : (rowN ep id ver G n i)[i]? = some zeroBV := by
  unfold rowN
  rw [List.getElem?_append_right (by rw [numL_len]; exact Nat.le_refl _), numL_len, Nat.sub_self, show n - i = (n - (i + 1)) + 1 by omega, List.replicate_succ]
  rfl
theorem rowN_end (ep id ver : Nat) (G : List Ch) (n : Nat) : rowN ep id ver G n n = numL ep id ver G n := by simp [rowN]
theorem rowN_skip {ep id ver : Nat} {G : List Ch} {n i : Nat} {c : Ch} (h : i < n) (hg : G[i]? = some c) (hn : needH c = false) : rowN ep id ver G n (i + 1) = rowN ep id ver G n i := by
  rw [← rowN_set ep id ver G h]
  have hb : blkI ep id ver G i = zeroBV := by
    unfold blkI
    rw [hg]
    show (if needH c = true then _ else _) = _
    rw [hn]
    rfl
  rw [hb]
  apply List.ext_getElem?
  intro j
  rw [List.getElem?_set]
  split
  · rename_i e
    subst e
    rw [rowN_at ep id ver G h, if_pos (by rw [rowN_len _ _ _ _ (Nat.le_of_lt h)]; exact h)]
  · rfl
theorem nNew_le (G : List Ch) (i : Nat) : nNew (G.take i) ≤ G.length := Nat.le_trans (List.length_filter_le _ _) (List.length_take_le' i G)
theorem nNeed_le (G : List Ch) (i : Nat) : nNeed (G.take i) ≤ G.length := Nat.le_trans (List.length_filter_le _ _) (List.length_take_le' i G)
section
variable {b : Nat} {w w' : World} {col : Nat → Nat} {z : Pz} {s : Az}
/-- What numbered hands back: a row of blocks of its own. -/
def BkTo (w : World) (l : List BV) (e : Ending) (w' : World) : Prop := ∃ g, e = .returned (.slice (some ⟨g, 0, none⟩) l.length l.length) ∧ w'.ownsRow w.heap.size RBk.tE RBk.k (.slice (some ⟨g, 0, none⟩) l.length l.length) l.length (RBk.enc l) ∧ Below w.heap.size w w'
set_option maxHeartbeats 3200000 in
theorem numbered_any (h : Ar b w col z s) (A : Option Addr) (G : List Ch) (n cap ep : Nat) (hn : G.length = n) (hr : RH.Row w A G) (hn3 : n ≤ 3) (hid : s.id + 10 < 18446744073709551616) (hver : s.ver + 10 < 18446744073709551616) :
    Calls Tryz.prog 25 #[.pointer (some ⟨z.ap, 0, none⟩), .slice A n cap, .int .u64 (ep : Nat)] w (BkTo w (numL ep s.id s.ver G n)) := by
  obtain ⟨B, hB⟩ : ∃ B, w.heap.size = B := ⟨_, rfl⟩
  obtain ⟨R, hR⟩ : ∃ R, BkTo w (numL ep s.id s.ver G n) = R := ⟨_, rfl⟩
  have HFIN : Hid (∀ g W, W.ownsRow B RBk.tE RBk.k (.slice (some ⟨g, 0, none⟩) n n) n (RBk.enc (rowN ep s.id s.ver G n n)) → Below B w W → R (.returned (.slice (some ⟨g, 0, none⟩) n n)) W) := fun g W h1 h2 => by
    rw [rowN_end] at h1
    rw [← hR]
    refine ⟨g, by rw [numL_len], ?_, hB.symm ▸ h2⟩
    rw [numL_len, hB]
    exact h1
  rw [hR]
  have HNM := Lib.hid (numbers_any h)
  have HR := Lib.hid hr
  have HN := Lib.hid hn
  have HBS := Lib.hid hB
  have HZ := Lib.hid zero_ch
  have HI : Hid (s.id + 10 < 18446744073709551616 ∧ s.ver + 10 < 18446744073709551616) := ⟨hid, hver⟩
  generalize z.ap = ap at *
  generalize s.id = id at *
  generalize s.ver = ver at *
  clear h hr hn hR hid hver
  go_enter Tryz.func25, Tryz.ntmps25
  go_wp2_with fail
  refine HNM.out.mono ?_
  rintro e w1 ⟨rfl, k1, hk1⟩
  have HB1 : Hid (Below B w w1) := by rw [hk1]; exact below_drewN (Below.refl _ _) _
  have hsz1 : w1.heap.size = B := by rw [hk1]; exact hB
  clear hk1 hB HNM
  obtain ⟨w2, hmk, ho2, hb2⟩ := madeR RBk zeroBV rfl w1 n (by omega)
  rw [hsz1] at hmk ho2 hb2
  have HO2 := Lib.hid ho2
  have HB2 : Hid (Below B w w2) := HB1.out.trans hb2
  have HBL : Hid (B < w2.heap.size) := by
    obtain ⟨cur, hc, -⟩ := Rec.own_block (R := RBk) ho2
    exact lt_of_heap hc
  clear ho2 hb2
  have hmk2 : (Instr.makeSlice 91 (.int .i64 (n : Int)) (.int .i64 (n : Int))).run Tryz.prog w1 = .ok (.slice (some ⟨B, 0, none⟩) n n) w2 := hmk
  clear hmk
  go_upto_region 3 with fail
  clear hmk2 hsz1
  have HOB : Hid (w2.ownsRow B RBk.tE RBk.k (.slice (some ⟨B, 0, none⟩) n n) n (RBk.enc (rowN ep id ver G n 0))) := HO2.out
  go_wp2
  go_loopg [23, 7, 8] n (fun gk s23 s7 s8 wx => ∃ i : Nat, i + gk = n ∧ s23 = .int .i64 i ∧ s7 = .int .u64 ((id + nNew (G.take i) : Nat) : Int) ∧ s8 = .int .u64 ((ver + nNeed (G.take i) : Nat) : Int) ∧ Hid (wx.ownsRow B RBk.tE RBk.k (.slice (some ⟨B, 0, none⟩) n n) n (RBk.enc (rowN ep id ver G n i))) ∧ Hid (Below B w wx) ∧ Hid (B < wx.heap.size))
  case atStart => exact ⟨0, by omega, rfl, rfl, rfl, HOB.out, HB2.out, HBL.out⟩
  case round =>
    obtain ⟨i, hig, rfl, rfl, rfl, HO, HW, HBZ⟩ := hrel
    cases gk with
    | zero =>
      obtain rfl : i = n := by omega
      have hii : ¬ (i : Int) < (i : Int) := by omega
      go_wp2
      exact HFIN.out _ _ HO.out HW.out
    | succ gk =>
      have hii : (i : Int) < (n : Int) := by omega
      have hi0 : (0 : Int) ≤ (i : Int) := by omega
      have hgi := List.getElem?_eq_getElem (show i < G.length by have := HN.out; omega)
      generalize G[i]'(by have := HN.out; omega) = x at *
      obtain ⟨b', off', rfl, -, c0, c1, c2, c3, c4, c5, c6, c7, c8, c9, c10⟩ := chAt (HR.out.below (HBS.out.symm ▸ HW.out)) hgi
      have HNX := Lib.hid (fun w1 => need_any16 x w1)
      have HWX := Lib.hid (fun w1 => new_any16 x w1)
      have HBX := Lib.hid (fun i v w1 => blockof_any x ep i v w1)
      obtain ⟨g, hg⟩ : ∃ g, wr.heap.size = g := ⟨_, rfl⟩
      have HGX := Lib.hid hg
      have HGB : Hid (B < g) := hg ▸ HBZ.out
      have HC1 : Hid (nNew (G.take (i + 1)) = nNew (G.take i) + if newH x then 1 else 0) := cnt_succ newH hgi
      have HC2 : Hid (nNeed (G.take (i + 1)) = nNeed (G.take i) + if needH x then 1 else 0) := cnt_succ needH hgi
      have HL1 : Hid (nNew (G.take i) ≤ 3 ∧ nNeed (G.take i) ≤ 3) := ⟨by have := nNew_le G i; have := HN.out; omega, by have := nNeed_le G i; have := HN.out; omega⟩
      have HNN : Hid (newH x = true → needH x = true) := new_need
      have HSK : Hid (needH x = false → rowN ep id ver G n (i + 1) = rowN ep id ver G n i) := fun h => rowN_skip (by omega) hgi h
      have HBK : Hid (needH x = true → (rowN ep id ver G n i).set i (blkH x ep (if newH x then id + nNew (G.take i) + 1 else x.old.id) (ver + nNeed (G.take i) + 1)) = rowN ep id ver G n (i + 1)) := fun h => by
        rw [← rowN_set ep id ver G (show i < n by omega)]
        congr 1
        unfold blkI
        rw [hgi]
        show _ = if needH x = true then _ else _
        rw [if_pos h]
      have HAT : Hid ((rowN ep id ver G n i)[i]? = some zeroBV) := rowN_at ep id ver G (by omega)
      have HRL : Hid ((rowN ep id ver G n i).length = n) := rowN_len ep id ver G (by omega)
      obtain ⟨P1, hPe⟩ : ∃ P, rowN ep id ver G n (i + 1) = P := ⟨_, rfl⟩
      rw [hPe] at HSK HBK
      have HPE := Lib.hid hPe
      obtain ⟨a1, ha1⟩ : ∃ P, nNew (G.take (i + 1)) = P := ⟨_, rfl⟩
      rw [ha1] at HC1
      have HAE := Lib.hid ha1
      obtain ⟨e1, he1⟩ : ∃ P, nNeed (G.take (i + 1)) = P := ⟨_, rfl⟩
      rw [he1] at HC2
      have HEE := Lib.hid he1
      clear hPe ha1 he1
      generalize rowN ep id ver G n i = P0 at *
      generalize nNew (G.take i) = a0 at *
      generalize nNeed (G.take i) = e0 at *
      clear hgi hg
      obtain ⟨p, hp⟩ : ∃ p, id + a0 = p := ⟨_, rfl⟩
      obtain ⟨q, hq⟩ : ∃ q, ver + e0 = q := ⟨_, rfl⟩
      rw [hp, hq] at HBK ⊢
      have HP1 : Hid (id + a1 = p + if newH x then 1 else 0) := by show _ = _; rw [HC1.out, ← hp]; omega
      have HQ1 : Hid (ver + e1 = q + if needH x then 1 else 0) := by show _ = _; rw [HC2.out, ← hq]; omega
      have hp1 : (p : Int) + 1 < 18446744073709551616 := by have := HI.out; have := HL1.out; omega
      have hq1 : (q : Int) + 1 < 18446744073709551616 := by have := HI.out; have := HL1.out; omega
      have hp0 : (0 : Int) ≤ (p : Int) + 1 := by omega
      have hq0 : (0 : Int) ≤ (q : Int) + 1 := by omega
      clear hp hq HC1 HC2
      generalize needH x = m at *
      generalize newH x = u at *
      go_wp2_with (first
        | ((with_reducible show wpList _ _ _ (⟨some 11, .alloc _, _, _, _, _⟩ :: _) _ _); refine wpList_alloc_var (o := ⟨some 11, _, _, _, _, _⟩) rfl 31 rfl g HGX.out _ HZ.out ?_; intro v1 H1 B1)
        | ((with_reducible show wpList _ _ _ (⟨none, .store _ (.tmp 11) _, _, _, _, _⟩ :: _) _ _); refine wpList_store_whole (o := ⟨none, .store 31 (.tmp 11) (.tmp 27), _, _, _, _⟩) rfl _ _ _ rfl rfl g #[.int .i64 x.kd, .string x.key, .string x.val, .bool x.had, .string x.old.str, .int .u64 (x.old.id : Nat), .int .u64 (x.old.ver : Nat), .int .i64 x.old.line, .int .i64 x.old.cl, .int .i64 x.line, .int .i64 x.cl] rfl rfl 31 _ H1.out size_ch rfl (onesCh _ _ _ _ _ _ _ _ _ _ _) ?_; intro v2 H2 B2; obtain ⟨p0, p1, p2, p3, p4, p5, p6, p7, p8, p9, p10⟩ := cells11 H2.out; have HB2' : Hid (Below g wr v2) := B1.out.trans B2.out; have HW2 : Hid (Below B w v2) := HW.out.trans (HB2'.out.mono (Nat.le_of_lt HGB.out)); have HL2 : Hid (g < v2.heap.size) := lt_of_heap H2.out; clear c0 c1 c2 c3 c4 c5 c6 c7 c8 c9 c10)
        | fail)
      refine (HNX.out _).mono ?_
      rintro e v3 ⟨rfl, b3⟩
      clear p0 p1 p2 p3 p4 p5 p6 p7 p8 p9 p10
      have HL23 : Hid (B ≤ v2.heap.size) := Nat.le_of_lt (Nat.lt_trans HGB.out HL2.out)
      have HW3 : Hid (Below B w v3) := HW2.out.trans (b3.mono HL23.out)
      have H3 := Lib.hid ((b3.block g HL2.out).trans H2.out)
      have HL3 : Hid (g < v3.heap.size) := lt_of_heap H3.out
      have HO3 := Lib.hid (own_keep (own_keep HO.out (HGX.out.symm ▸ HB2'.out)) b3)
      have HLB3 : Hid (B < v3.heap.size) := Nat.lt_trans HGB.out HL3.out
      obtain ⟨p0, p1, p2, p3, p4, p5, p6, p7, p8, p9, p10⟩ := cells11 H3.out
      clear b3
      cases m with
      | false =>
        have hu : u = false := by
          cases u with
          | false => rfl
          | true => exact absurd (HNN.out rfl) (by simp)
        subst hu
        have HO4 : Hid (v3.ownsRow B RBk.tE RBk.k (.slice (some ⟨B, 0, none⟩) n n) n (RBk.enc P1)) := by rw [HSK.out rfl]; exact HO3.out
        go_wp2
        go_roundg gk
        case measure => omega
        case rel => exact ⟨i + 1, by omega, by go_num, by rw [HAE.out, HP1.out]; rfl, by rw [HEE.out, HQ1.out]; rfl, by rw [HPE.out]; exact HO4, HW3, HLB3⟩
      | true =>
        go_wp2_with fail
        refine (HWX.out _).mono ?_
        rintro e v4 ⟨rfl, b4⟩
        clear p0 p1 p2 p3 p4 p5 p6 p7 p8 p9 p10
        have HW4 : Hid (Below B w v4) := HW3.out.trans (b4.mono (Nat.le_of_lt HLB3.out))
        have H4 := Lib.hid ((b4.block g HL3.out).trans H3.out)
        have HL4 : Hid (g < v4.heap.size) := lt_of_heap H4.out
        have HO4 := Lib.hid (own_keep HO3.out b4)
        have HLB4 : Hid (B < v4.heap.size) := Nat.lt_trans HGB.out HL4.out
        obtain ⟨p0, p1, p2, p3, p4, p5, p6, p7, p8, p9, p10⟩ := cells11 H4.out
        clear b4
        have HEND2 : Hid (∀ y : BV, P0.set i y = P1 → ∀ v5, Below v4.heap.size v4 v5 → (∃ cur, v5.heap[B]? = some (.cells cur 95 (0, 0))) ∧ (∀ j, v5.frozen? ⟨B, j, none⟩ = false) ∧ (∃ o0 o1 o2 o3 o4 o5 o6, v5.cell? ⟨B, i * 7, none⟩ = some o0 ∧ v5.cell? ⟨B, i * 7 + 1, none⟩ = some o1 ∧ v5.cell? ⟨B, i * 7 + 2, none⟩ = some o2 ∧ v5.cell? ⟨B, i * 7 + 3, none⟩ = some o3 ∧ v5.cell? ⟨B, i * 7 + 4, none⟩ = some o4 ∧ v5.cell? ⟨B, i * 7 + 5, none⟩ = some o5 ∧ v5.cell? ⟨B, i * 7 + 6, none⟩ = some o6) ∧
            (v5.setCells B (i * 7) [.int .i64 y.cl, .int .i64 y.kd, .int .u64 (y.id : Nat), .int .u64 (y.ver : Nat), .int .u64 (y.ep : Nat), .string y.key, .string y.val]).ownsRow B RBk.tE RBk.k (.slice (some ⟨B, 0, none⟩) n n) n (RBk.enc P1) ∧ Below B w (v5.setCells B (i * 7) [.int .i64 y.cl, .int .i64 y.kd, .int .u64 (y.id : Nat), .int .u64 (y.ver : Nat), .int .u64 (y.ep : Nat), .string y.key, .string y.val]) ∧ B < (v5.setCells B (i * 7) [.int .i64 y.cl, .int .i64 y.kd, .int .u64 (y.id : Nat), .int .u64 (y.ver : Nat), .int .u64 (y.ep : Nat), .string y.key, .string y.val]).heap.size) := fun y hy v5 hb => by
          have ho := own_keep HO4.out hb
          obtain ⟨cur, hcur, -⟩ := Rec.own_block (R := RBk) ho
          obtain ⟨-, A9, c9', e9, -, -, r9, -, -⟩ := Rec.row_of_own (R := RBk) ho (by rw [HRL.out]; omega)
          cases e9
          obtain ⟨b8, o8, e8, -, k0, k1, k2, k3, k4, k5, k6⟩ := blkAt16 r9 HAT.out
          cases e8
          simp only [Nat.zero_add] at k0 k1 k2 k3 k4 k5 k6
          refine ⟨⟨cur, hcur⟩, fun j => by simp [World.frozen?, hcur], ⟨_, _, _, _, _, _, _, k0, k1, k2, k3, k4, k5, k6⟩, ?_, ?_, ?_⟩
          · have := Rec.own_set (R := RBk) ho HRL.out (show i < n by omega) y
            rw [hy] at this
            exact this
          · exact (HW4.out.trans (hb.mono (Nat.le_of_lt HLB4.out))).grown (grown_setCells B _ _ _) (by have := (HW4.out.trans (hb.mono (Nat.le_of_lt HLB4.out))).size; rw [HBS.out] at this; exact this) (fun k e => by cases e; exact Nat.le_refl _)
          · rw [(setCells_rest B _ _ _).2.2.2]
            exact Nat.lt_of_lt_of_le HLB4.out hb.size
        have hL7 : ∀ v5 : World, Below v4.heap.size v4 v5 → B < v5.heap.size := fun v5 hb => Nat.lt_of_lt_of_le HLB4.out hb.size
        clear hL7
        cases u with
        | false =>
          have HBY := Lib.hid fun w1 => HBX.out x.old.id (q + 1) w1
          have HEX := Lib.hid (HEND2.out _ (HBK.out (by first | rfl | trivial)))
          simp only [Bool.false_eq_true, if_false] at HEX
          generalize blkH x ep x.old.id (q + 1) = y at *
          go_wp2_with fail
          refine (HBY.out _).mono ?_
          rintro e v5 ⟨rfl, b5⟩
          obtain ⟨-, hfz, ⟨o0, o1, o2, o3, o4, o5, o6, k0, k1, k2, k3, k4, k5, k6⟩, ho6, hw6, hl6⟩ := HEX.out v5 b5
          obtain ⟨v6, hv6⟩ : ∃ v6, v5.setCells B (i * 7) [.int .i64 y.cl, .int .i64 y.kd, .int .u64 (y.id : Nat), .int .u64 (y.ver : Nat), .int .u64 (y.ep : Nat), .string y.key, .string y.val] = v6 := ⟨_, rfl⟩
          rw [hv6] at ho6 hw6 hl6
          have HO6 := Lib.hid ho6
          have HW6 := Lib.hid hw6
          have HL6 := Lib.hid hl6
          have f0 := hfz (i * 7)
          have f1 := hfz (i * 7 + 1)
          have f2 := hfz (i * 7 + 2)
          have f3 := hfz (i * 7 + 3)
          have f4 := hfz (i * 7 + 4)
          have f5 := hfz (i * 7 + 5)
          have f6 := hfz (i * 7 + 6)
          have hv7 : ((((((v5.setCell ⟨B, i * 7, none⟩ (.int .i64 y.cl)).setCell ⟨B, i * 7 + 1, none⟩ (.int .i64 y.kd)).setCell ⟨B, i * 7 + 2, none⟩ (.int .u64 (y.id : Nat))).setCell ⟨B, i * 7 + 3, none⟩ (.int .u64 (y.ver : Nat))).setCell ⟨B, i * 7 + 4, none⟩ (.int .u64 (y.ep : Nat))).setCell ⟨B, i * 7 + 5, none⟩ (.string y.key)).setCell ⟨B, i * 7 + 6, none⟩ (.string y.val) = v6 := hv6
          clear hfz hv6 ho6 hw6 hl6 b5
          go_upto_region 13 with fail
          clear hv7
          go_wp2
          go_roundg gk
          case measure => omega
          case rel => exact ⟨i + 1, by omega, by go_num, by rw [HAE.out, HP1.out]; rfl, by rw [HEE.out, HQ1.out]; rfl, by rw [HPE.out]; exact HO6, HW6, HL6⟩
        | true =>
          have HBY := Lib.hid fun w1 => HBX.out (p + 1) (q + 1) w1
          have HEX := Lib.hid (HEND2.out _ (HBK.out (by first | rfl | trivial)))
          simp only [if_true] at HEX
          generalize blkH x ep (p + 1) (q + 1) = y at *
          go_wp2_with fail
          refine (HBY.out _).mono ?_
          rintro e v5 ⟨rfl, b5⟩
          obtain ⟨-, hfz, ⟨o0, o1, o2, o3, o4, o5, o6, k0, k1, k2, k3, k4, k5, k6⟩, ho6, hw6, hl6⟩ := HEX.out v5 b5
          obtain ⟨v6, hv6⟩ : ∃ v6, v5.setCells B (i * 7) [.int .i64 y.cl, .int .i64 y.kd, .int .u64 (y.id : Nat), .int .u64 (y.ver : Nat), .int .u64 (y.ep : Nat), .string y.key, .string y.val] = v6 := ⟨_, rfl⟩
          rw [hv6] at ho6 hw6 hl6
          have HO6 := Lib.hid ho6
          have HW6 := Lib.hid hw6
          have HL6 := Lib.hid hl6
          have f0 := hfz (i * 7)
          have f1 := hfz (i * 7 + 1)
          have f2 := hfz (i * 7 + 2)
          have f3 := hfz (i * 7 + 3)
          have f4 := hfz (i * 7 + 4)
          have f5 := hfz (i * 7 + 5)
          have f6 := hfz (i * 7 + 6)
          have hv7 : ((((((v5.setCell ⟨B, i * 7, none⟩ (.int .i64 y.cl)).setCell ⟨B, i * 7 + 1, none⟩ (.int .i64 y.kd)).setCell ⟨B, i * 7 + 2, none⟩ (.int .u64 (y.id : Nat))).setCell ⟨B, i * 7 + 3, none⟩ (.int .u64 (y.ver : Nat))).setCell ⟨B, i * 7 + 4, none⟩ (.int .u64 (y.ep : Nat))).setCell ⟨B, i * 7 + 5, none⟩ (.string y.key)).setCell ⟨B, i * 7 + 6, none⟩ (.string y.val) = v6 := hv6
          clear hfz hv6 ho6 hw6 hl6 b5
          go_upto_region 13 with fail
          clear hv7
          go_wp2
          go_roundg gk
          case measure => omega
          case rel => exact ⟨i + 1, by omega, by go_num, by rw [HAE.out, HP1.out]; rfl, by rw [HEE.out, HQ1.out]; rfl, by rw [HPE.out]; exact HO6, HW6, HL6⟩
end

end Go.Proofs.YtlghphccmgmomaaGreat

/-
  Proved here: slices.ContainsFunc at blocks, and whether one is past the end.
  Conditions: none.
-/
namespace Go.Proofs.YtlghphccmgmomaaGreat
open Go Go.RowKit
set_option maxRecDepth 100000

/-- What a predicate over blocks answers, in every world that has come of w. -/
def PredK (g : Nat) (cb : Array Value) (l : List BV) (p : BV → Bool) (w : World) : Prop :=
  ∀ W, Below w.heap.size w W → ∀ x ∈ l, Calls Tryz.prog g (#[.agg #[.int .i64 x.cl, .int .i64 x.kd, .int .u64 (x.id : Nat), .int .u64 (x.ver : Nat), .int .u64 (x.ep : Nat), .string x.key, .string x.val]] ++ cb) W fun e w' => e = .returned (.bool (p x)) ∧ Below W.heap.size W w'
set_option maxHeartbeats 800000 in
theorem idxk_any {w : World} {A : Option Addr} {l : List BV} (n cap : Nat) (hn : l.length = n) (hr : RBk.Row w A l) (g : Nat) (cb : Array Value) (lb : Array Value) (p : BV → Bool) (hlb : lb = #[])
    (eg : ∀ args w, (callFunc g args).run Tryz.prog w = .ok (.enter g args) w) (hc : PredK g cb l p w) :
    Calls Tryz.prog 61 #[.slice A n cap, .func (.func g) lb cb] w fun e w' => e = .returned (.int .i64 (fIdx p l)) ∧ Below w.heap.size w w' := by
  subst hlb
  have hmax := hr.1
  rw [hn] at hmax
  obtain ⟨B, hB⟩ : ∃ B, w.heap.size = B := ⟨_, rfl⟩
  obtain ⟨r, hr0⟩ : ∃ r, fIdx p l = r := ⟨_, rfl⟩
  rw [hr0, hB]
  have HR := Lib.hid hr
  have HN := Lib.hid hn
  have HC : Hid (∀ W, Below B w W → ∀ x ∈ l, Calls Tryz.prog g (#[.agg #[.int .i64 x.cl, .int .i64 x.kd, .int .u64 (x.id : Nat), .int .u64 (x.ver : Nat), .int .u64 (x.ep : Nat), .string x.key, .string x.val]] ++ cb) W fun e w' => e = .returned (.bool (p x)) ∧ Below W.heap.size W w') := hB ▸ hc
  have HBS := Lib.hid hB
  have HR0 := Lib.hid hr0
  clear hr hn hc hr0 hB
  go_enter Tryz.func61, Tryz.ntmps61
  go_wp2
  go_loopg [8] n (fun gk s8 wx => ∃ i : Nat, i + gk = n ∧ s8 = .int .i64 i ∧ Hid (Below B w wx) ∧ Hid (∀ j y, j < i → l[j]? = some y → p y = false))
  case atStart => exact ⟨0, by omega, rfl, Below.refl _ _, fun j y hj => by omega⟩
  case round =>
    obtain ⟨i, hig, rfl, HW, HP⟩ := hrel
    cases gk with
    | zero =>
      obtain rfl : i = n := by omega
      have hii : ¬ (i : Int) < (i : Int) := by omega
      obtain rfl : r = -1 := by
        rw [← HR0.out]
        exact fIdx_no p l fun j y hy => HP.out j y (by have := (List.getElem?_eq_some_iff.1 hy).1; have := HN.out; omega) hy
      go_wp2
      go_ret
      exact ⟨rfl, HW.out⟩
    | succ gk =>
      have hii : (i : Int) < (n : Int) := by omega
      have hil : i < l.length := by have := HN.out; omega
      have hgi := List.getElem?_eq_getElem hil
      have HCX := Lib.hid (HC.out wr HW.out _ (List.getElem_mem hil))
      generalize l[i] = x at *
      obtain ⟨b, off, rfl, -, c0, c1, c2, c3, c4, c5, c6⟩ := blkAt16 (HR.out.below (HBS.out.symm ▸ HW.out)) hgi
      have HGI := Lib.hid hgi
      have HP2 : Hid (p x = false → ∀ j y, j < i + 1 → l[j]? = some y → p y = false) := fun hp j y hj hy => by
        rcases Nat.lt_or_ge j i with h | h
        · exact HP.out j y h hy
        · obtain rfl : j = i := by omega
          rw [HGI.out] at hy
          cases hy
          exact hp
      have HP3 : Hid (p x = true → r = i) := fun hp => by rw [← HR0.out]; exact fIdx_at p l i x HP.out HGI.out hp
      have hbw : B ≤ wr.heap.size := by have := HW.out.size; have := HBS.out; omega
      clear hgi hil
      generalize p x = z at *
      generalize x.cl = x0 at *
      generalize x.kd = x1 at *
      generalize (x.id : Int) = x2 at *
      generalize (x.ver : Int) = x3 at *
      generalize (x.ep : Int) = x4 at *
      generalize x.key = x5 at *
      generalize x.val = x6 at *
      cases z with
      | true =>
        obtain rfl := HP3.out rfl
        go_wp2_with (go_at_fn g; refine HCX.out.mono ?_; rintro e w' ⟨rfl, hb'⟩)
        go_ret
        exact ⟨rfl, HW.out.trans (hb'.mono hbw)⟩
      | false =>
        have HP4 := Lib.hid (HP2.out rfl)
        go_wp2_with (go_at_fn g; refine HCX.out.mono ?_; rintro e w' ⟨rfl, hb'⟩)
        go_roundg gk
        case measure => omega
        case rel => exact ⟨i + 1, by omega, by go_num, HW.out.trans (hb'.mono hbw), HP4⟩
set_option maxHeartbeats 400000 in
theorem containsk_any {w : World} {A : Option Addr} {l : List BV} (n cap : Nat) (hn : l.length = n) (hr : RBk.Row w A l) (g : Nat) (cb : Array Value) (lb : Array Value) (p : BV → Bool) (hlb : lb = #[])
    (eg : ∀ args w, (callFunc g args).run Tryz.prog w = .ok (.enter g args) w) (hc : PredK g cb l p w) :
    Calls Tryz.prog 26 #[.slice A n cap, .func (.func g) lb cb] w fun e w' => e = .returned (.bool (l.any p)) ∧ Below w.heap.size w w' := by
  have H := Lib.hid (idxk_any n cap hn hr g cb lb p hlb eg hc)
  have he := fIdx_any p l
  generalize fIdx p l = r at *
  generalize l.any p = z at *
  subst he
  clear hc hr hlb
  go_enter Tryz.func26, Tryz.ntmps26
  go_wp2_with fail
  refine H.out.mono ?_
  rintro e w' ⟨rfl, hb⟩
  go_wp2
  go_ret
  exact ⟨rfl, hb⟩
set_option maxHeartbeats 400000 in
theorem pastend_any {w : World} {A : Option Addr} {l : List BV} (n cap : Nat) (hn : l.length = n) (hr : RBk.Row w A l) :
    Calls Tryz.prog 26 #[.slice A n cap, .func (.func 27) #[] #[]] w fun e w' => e = .returned (.bool (l.any pastB)) ∧ Below w.heap.size w w' :=
  containsk_any n cap hn hr 27 #[] #[] pastB rfl (enters_of Tryz.func27 (by kernel_rfl) rfl) (fun W _ x _ => past_any x W)

end Go.Proofs.YtlghphccmgmomaaGreat
