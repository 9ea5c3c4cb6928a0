/-
  Proved here, joined: CurB16
  Conditions: as each part says.
-/
import Derived.Test.YtlghphccmgmomaaGreatJN40
import Derived.Deep.Cut
import Derived.Deep.CutRange

/-
  Proved here: whether the indexes still say what changes were prepared for, package arena.
  Conditions: texts of at most 2000 bytes, at most three changes.
-/
namespace Go.Proofs.YtlghphccmgmomaaGreat
open Go Go.RowKit
set_option maxRecDepth 100000

open Classical
attribute [local go_sem high] eq_link
theorem guard_link16 : Tryz.prog.eqGuardType Tryz.prog.depth 29 = false := by kernel_rfl
def Ch.K (c : Ch) : Ky := c.key.data.toList
/-- Is the change c prepared for the links T, and for the line Q? -/
def curC (T Q : List Ln) (c : Ch) : Bool :=
  if chgH c then !((hasT T c.K != c.had) || (hasT T c.K && !eqLn (linkT T c.K) c.old))
  else if c.kd == 5 then Q.head?.isSome && eqLn (Q.head?.getD Ln.zero) c.old else true
abbrev L0 : Obj := .cells #[.string ⟨#[]⟩, .int .u64 0, .int .u64 0, .int .i64 0, .int .i64 0] 29
/-- What 'k, has := ..' leaves in a region that draws: a link in a variable of its own, the change's block, the rest. -/
def GotL (w : World) (B g : Nat) (cs : Array Value) (v0 v1 v2 v3 v4 : Value) (f : Bool) (s7 s8 : Value) (wx : World) : Prop :=
  ∃ g7, s7 = .pointer (some ⟨g7, 0, none⟩) ∧ s8 = .bool f ∧ Hid (wx.heap[g7]? = some (.cells #[v0, v1, v2, v3, v4] 29 (0, 0))) ∧ Hid (wx.heap[g]? = some (.cells cs 31 (0, 0))) ∧ Hid (Below B w wx)
section
variable {w v x1 : World} {B g : Nat} {cs : Array Value} {v0 v1 v2 v3 v4 : Value} {f : Bool}
theorem gotL_1 (hg : v.heap[g]? = some (.cells cs 31 (0, 0))) (hB : Below B w v) (hle : B ≤ v.heap.size) (hb : Below v.drew.heap.size v.drew x1) : GotL w B g cs v0 v1 v2 v3 v4 f (.pointer (some ⟨x1.heap.size, 0, none⟩)) (.bool f) (x1.alloc (.cells #[v0, v1, v2, v3, v4] 29)) := by
  have hs := hb.size
  have h1 : x1.heap[g]? = some (.cells cs 31 (0, 0)) := (hb.block g (lt_of_heap hg)).trans hg
  refine ⟨_, rfl, rfl, heap_alloc_new _ _, (((Below.refl _ _).alloc (Nat.le_refl x1.heap.size) _).block g (lt_of_heap h1)).trans h1, ?_⟩
  exact hB.trans (((Below.refl _ _).drew.trans hb).alloc hs _ |>.mono hle)
theorem gotL_2 (hg : v.heap[g]? = some (.cells cs 31 (0, 0))) (hB : Below B w v) (hle : B ≤ v.heap.size) (hb : Below (v.drew.alloc L0).heap.size (v.drew.alloc L0) x1) : GotL w B g cs v0 v1 v2 v3 v4 f (.pointer (some ⟨v.heap.size, 0, none⟩)) (.bool f) (((((x1.setCell ⟨v.heap.size, 0, none⟩ v0).setCell ⟨v.heap.size, 1, none⟩ v1).setCell ⟨v.heap.size, 2, none⟩ v2).setCell ⟨v.heap.size, 3, none⟩ v3).setCell ⟨v.heap.size, 4, none⟩ v4) := by
  have hs := hb.size
  have hsz : (v.drew.alloc L0).heap.size = v.heap.size + 1 := by simp
  have hl := lt_of_heap hg
  have ha : Below v.heap.size v (v.drew.alloc L0) := (Below.refl _ _).drew.alloc (Nat.le_refl _) _
  have h0 : (v.drew.alloc L0).heap[v.heap.size]? = some (.cells #[.string ⟨#[]⟩, .int .u64 0, .int .u64 0, .int .i64 0, .int .i64 0] 29 (0, 0)) := heap_alloc_new v.drew _
  have h1 := (hb.block v.heap.size (by omega)).trans h0
  have hg1 : x1.heap[g]? = some (.cells cs 31 (0, 0)) := (hb.block g (by omega)).trans ((ha.block g hl).trans hg)
  have hbb : Below v.heap.size v x1 := ha.trans (hb.mono (by omega))
  have hfin := below_set5 hbb (Nat.le_refl v.heap.size) 0 v0 v1 v2 v3 v4
  have hself := below_set5 (Below.refl v.heap.size x1) (Nat.le_refl v.heap.size) 0 v0 v1 v2 v3 v4
  exact ⟨_, rfl, rfl, heap_set5 h1 v0 v1 v2 v3 v4, (hself.block g hl).trans hg1, hB.trans (hfin.mono hle)⟩
end
theorem cells5L16 {w : World} {g : Nat} {T : TypeId} {v0 v1 v2 v3 v4 : Value} (h : w.heap[g]? = some (.cells #[v0, v1, v2, v3, v4] T (0, 0))) : w.cell? ⟨g, 0, none⟩ = some v0 ∧ w.cell? ⟨g, 1, none⟩ = some v1 ∧ w.cell? ⟨g, 2, none⟩ = some v2 ∧ w.cell? ⟨g, 3, none⟩ = some v3 ∧ w.cell? ⟨g, 4, none⟩ = some v4 := by
  refine ⟨?_, ?_, ?_, ?_, ?_⟩ <;> simp [World.cell?, h]
section
variable {b : Nat} {w w' : World} {col : Nat → Nat} {z : Pz} {s : Az}
set_option maxHeartbeats 3200000 in
theorem current_any (h : Ar b w col z s) (A : Option Addr) (G : List Ch) (n cap : Nat) (hn : G.length = n) (hr : RH.Row w A G) (hn3 : n ≤ 3) (hs : ∀ c ∈ G, Short c) :
    Calls Tryz.prog 22 #[.pointer (some ⟨z.ap, 0, none⟩), .slice A n cap] w fun e w' => e = .returned (.bool (G.all (curC s.T s.Q))) ∧ Below w.heap.size w w' := by
  obtain ⟨r, hrb⟩ : ∃ r, G.all (curC s.T s.Q) = r := ⟨_, rfl⟩
  have HRB := Lib.hid hrb
  rw [hrb]
  obtain ⟨B, hB⟩ : ∃ B, w.heap.size = B := ⟨_, rfl⟩
  have HGT : Hid (∀ W, Below B w W → ∀ k : ByteArray, k.size ≤ 1073741824 → Calls Tryz.prog 52 #[.pointer (some ⟨z.tp, 0, none⟩), .string k] W fun e w' => e = .returned (.tuple #[(linkT s.T k.data.toList).agg, .bool (hasT s.T k.data.toList)]) ∧ Below W.heap.size W w') := fun W hW k hk => tbget_any (h.below (hB.symm ▸ hW)).tb k hk
  have HHD : Hid (∀ W, Below B w W → Calls Tryz.prog 53 #[.pointer (some ⟨z.lp, 0, none⟩)] W fun e w' => e = .returned (hdV s.Q) ∧ Below W.heap.size W w') := fun W hW => fihead_below (h.below (hB.symm ▸ hW)).fi
  have HAP : Hid (∀ W, Below B w W → W.cell? ⟨z.ap, 8, none⟩ = some (.pointer (some ⟨z.tp, 0, none⟩)) ∧ W.cell? ⟨z.ap, 10, none⟩ = some (.pointer (some ⟨z.lp, 0, none⟩)) ∧ z.ap < B) := fun W hW => by
    obtain ⟨-, -, -, -, -, a8, -, a10, -⟩ := (h.below (hB.symm ▸ hW)).at_
    obtain ⟨on, hm⟩ := h.me
    exact ⟨a8, a10, hB ▸ lt_of_heap hm⟩
  rw [hB]
  have HR := Lib.hid hr
  have HN := Lib.hid hn
  have HBS := Lib.hid hB
  have HS := Lib.hid hs
  have HZ := Lib.hid zero_ch
  have HZL := Lib.hid zero_link
  have hgu := guard_link16
  generalize s.T = T at *
  generalize s.Q = Q at *
  generalize z.ap = ap at *
  generalize z.tp = tp at *
  generalize z.lp = lp at *
  clear h hr hn hB hrb hs
  go_enter Tryz.func22, Tryz.ntmps22
  go_wp2
  go_loopg [13] n (fun gk s13 wx => ∃ i : Nat, i + gk = n ∧ s13 = .int .i64 i ∧ Hid (Below B w wx) ∧ Hid ((G.take i).all (curC T Q) = true))
  case atStart => exact ⟨0, by omega, rfl, Below.refl _ _, rfl⟩
  case round =>
    obtain ⟨i, hig, rfl, HW, HG⟩ := hrel
    cases gk with
    | zero =>
      obtain rfl : i = n := by omega
      have hii : ¬ (i : Int) < (i : Int) := by omega
      obtain rfl : r = true := by
        rw [← HRB.out]
        have := HG.out
        rw [← HN.out, List.take_length] at this
        exact this
      go_wp2
      go_ret
      exact ⟨rfl, HW.out⟩
    | succ gk =>
      have hii : (i : Int) < (n : Int) := by omega
      have hi0 : (0 : Int) ≤ (i : Int) := by omega
      have hgi := List.getElem?_eq_getElem (show i < G.length by have := HN.out; omega)
      generalize G[i]'(by have := HN.out; omega) = x at *
      obtain ⟨b', off', rfl, -, c0, c1, c2, c3, c4, c5, c6, c7, c8, c9, c10⟩ := chAt (HR.out.below (HBS.out.symm ▸ HW.out)) hgi
      have HSX : Hid (x.key.size ≤ 1073741824) := Nat.le_trans (HS.out x (List.mem_of_getElem? hgi)).1 (by omega)
      have HCX := Lib.hid (fun w1 => chg_any16 x w1)
      have hbB : B ≤ wr.heap.size := by have := HW.out.size; have := HBS.out; omega
      obtain ⟨g, hg⟩ : ∃ g, wr.heap.size = g := ⟨_, rfl⟩
      have HGX := Lib.hid hg
      have HGB : Hid (B ≤ g) := hg ▸ hbB
      have HN1 : Hid (curC T Q x = false → r = false) := fun h => by rw [← HRB.out]; exact all_no hgi h
      have HN2 : Hid (curC T Q x = true → (G.take (i + 1)).all (curC T Q) = true) := fun h => by rw [all_next hgi, HG.out, h]; rfl
      have HGX2 := Lib.hid (fun W (hW : Below B w W) => HGT.out W hW x.key HSX.out)
      unfold curC Ch.K eqLn at HN1 HN2
      unfold Ln.agg at HGX2
      unfold hdV Ln.agg at HHD
      clear hgi hbB hg HSX
      obtain ⟨y, hy⟩ : ∃ y, linkT T x.key.data.toList = y := ⟨_, rfl⟩
      obtain ⟨hs2, hhs⟩ : ∃ t, hasT T x.key.data.toList = t := ⟨_, rfl⟩
      obtain ⟨y', hy'⟩ : ∃ y, Q.head?.getD Ln.zero = y := ⟨_, rfl⟩
      obtain ⟨hs', hhs'⟩ : ∃ t, Q.head?.isSome = t := ⟨_, rfl⟩
      rw [hy, hhs] at HGX2 HN1
      rw [hy', hhs'] at HHD HN1
      have HN3 : Hid ((if chgH x then !((hs2 != x.had) || (hs2 && !(y.str.toList == x.old.str.toList && (((y.id : Nat) : Int) == (x.old.id : Nat) && (((y.ver : Nat) : Int) == (x.old.ver : Nat) && (y.line == x.old.line && y.cl == x.old.cl)))))) else if x.kd == 5 then hs' && (y'.str.toList == x.old.str.toList && (((y'.id : Nat) : Int) == (x.old.id : Nat) && (((y'.ver : Nat) : Int) == (x.old.ver : Nat) && (y'.line == x.old.line && y'.cl == x.old.cl)))) else true) = true → (G.take (i + 1)).all (curC T Q) = true) := fun h => HN2.out (by rw [hy, hhs, hy', hhs']; exact h)
      clear HN2 hy hhs hy' hhs'
      generalize chgH x = m at *
      generalize x.kd = x0 at *
      generalize x.key = x1 at *
      generalize x.val = x2 at *
      generalize x.had = x3 at *
      generalize x.old.str = x4 at *
      generalize (x.old.id : Int) = x5 at *
      generalize (x.old.ver : Int) = x6 at *
      generalize x.old.line = x7 at *
      generalize x.old.cl = x8 at *
      generalize x.line = x9 at *
      generalize x.cl = x10 at *
      generalize y.str = y0 at *
      generalize (y.id : Int) = y1 at *
      generalize (y.ver : Int) = y2 at *
      generalize y.line = y3 at *
      generalize y.cl = y4 at *
      generalize y'.str = z0 at *
      generalize (y'.id : Int) = z1 at *
      generalize (y'.ver : Int) = z2 at *
      generalize y'.line = z3 at *
      generalize y'.cl = z4 at *
      obtain ⟨q, hq⟩ : ∃ q, (y0.toList == x4.toList && (y1 == x5 && (y2 == x6 && (y3 == x7 && y4 == x8)))) = q := ⟨_, rfl⟩
      obtain ⟨q', hq'⟩ : ∃ q, (z0.toList == x4.toList && (z1 == x5 && (z2 == x6 && (z3 == x7 && z4 == x8)))) = q := ⟨_, rfl⟩
      rw [hq, hq'] at HN1 HN3
      have HQ := Lib.hid hq
      have HQ' := Lib.hid hq'
      clear hq hq'
      go_wp2_with (first
        | ((with_reducible show wpList _ _ _ (⟨some 6, .alloc _, _, _, _, _⟩ :: _) _ _); refine wpList_alloc_var (o := ⟨some 6, _, _, _, _, _⟩) rfl 31 rfl g HGX.out _ HZ.out ?_; intro v1 H1 B1)
        | ((with_reducible show wpList _ _ _ (⟨none, .store _ (.tmp 6) _, _, _, _, _⟩ :: _) _ _); refine wpList_store_whole (o := ⟨none, .store 31 (.tmp 6) (.tmp 16), _, _, _, _⟩) rfl _ _ _ rfl rfl g #[.int .i64 x0, .string x1, .string x2, .bool x3, .string x4, .int .u64 x5, .int .u64 x6, .int .i64 x7, .int .i64 x8, .int .i64 x9, .int .i64 x10] rfl rfl 31 _ H1.out size_ch rfl (onesCh _ _ _ _ _ _ _ _ _ _ _) ?_; intro v2 H2 B2; obtain ⟨p0, p1, p2, p3, p4, p5, p6, p7, p8, p9, p10⟩ := cells11 H2.out; have HB2 : Hid (Below g wr v2) := B1.out.trans B2.out; have HW2 : Hid (Below B w v2) := HW.out.trans (HB2.out.mono HGB.out); have HL2 : Hid (g < v2.heap.size) := lt_of_heap H2.out; clear c0 c1 c2 c3 c4 c5 c6 c7 c8 c9 c10)
        | fail)
      refine (HCX.out _).mono ?_
      rintro e v3 ⟨rfl, b3⟩
      clear p0 p1 p2 p3 p4 p5 p6 p7 p8 p9 p10
      have HL23 : Hid (B ≤ v2.heap.size) := Nat.le_of_lt (Nat.lt_of_le_of_lt HGB.out HL2.out)
      have HW3 : Hid (Below B w v3) := HW2.out.trans (b3.mono HL23.out)
      have H3 := Lib.hid ((b3.block g HL2.out).trans H2.out)
      have HL3 : Hid (g < v3.heap.size) := lt_of_heap H3.out
      have HLB3 : Hid (B ≤ v3.heap.size) := Nat.le_of_lt (Nat.lt_of_le_of_lt HGB.out HL3.out)
      obtain ⟨p0, p1, p2, p3, p4, p5, p6, p7, p8, p9, p10⟩ := cells11 H3.out
      obtain ⟨k8, k10, -⟩ := HAP.out v3 HW3.out
      clear b3
      cases m with
      | false =>
        cases hk : (x0 == 5) with
        | false =>
          rw [hk] at HN3
          have HG2 := Lib.hid (HN3.out rfl)
          go_wp2
          go_roundg gk
          case measure => omega
          case rel => exact ⟨i + 1, by omega, by go_num, HW3.out, HG2⟩
        | true =>
          rw [hk] at HN1 HN3
          go_wp2_with fail
          refine (HHD.out v3 HW3.out).mono ?_
          rintro e v4 ⟨rfl, b4⟩
          clear p0 p1 p2 p3 p4 p5 p6 p7 p8 p9 p10
          have HW4 : Hid (Below B w v4) := HW3.out.trans (b4.mono HLB3.out)
          have H4 := Lib.hid ((b4.block g HL3.out).trans H3.out)
          have HLB4 : Hid (B ≤ v4.heap.size) := Nat.le_trans HLB3.out b4.size
          obtain ⟨g9, hg9⟩ : ∃ g9, v4.heap.size = g9 := ⟨_, rfl⟩
          have HG9 := Lib.hid hg9
          have HGL : Hid (g < g9) := hg9 ▸ lt_of_heap H4.out
          clear b4 hg9
          have hq9 := HQ'.out
          go_upto_region 10 with (first
            | ((with_reducible show wpList _ _ _ (⟨some 9, .alloc _, _, _, _, _⟩ :: _) _ _); refine wpList_alloc_var (o := ⟨some 9, _, _, _, _, _⟩) rfl 29 rfl g9 HG9.out _ HZL.out ?_; intro v5 H5 B5)
            | ((with_reducible show wpList _ _ _ (⟨none, .store _ (.tmp 9) _, _, _, _, _⟩ :: _) _ _); refine wpList_store_whole (o := ⟨none, .store 29 (.tmp 9) (.tmp 53), _, _, _, _⟩) rfl _ _ _ rfl rfl g9 #[.string z0, .int .u64 z1, .int .u64 z2, .int .i64 z3, .int .i64 z4] rfl rfl 29 _ H5.out size_link rfl (onesL _ _ _ _ _) ?_; intro v6 H6 B6)
            | fail)
          have HB6 : Hid (Below g9 v4 v6) := B5.out.trans B6.out
          have HW6 : Hid (Below B w v6) := HW4.out.trans (HB6.out.mono (Nat.le_of_lt (Nat.lt_of_le_of_lt HGB.out HGL.out)))
          have H46 := Lib.hid ((HB6.out.block g HGL.out).trans H4.out)
          obtain ⟨p0, p1, p2, p3, p4, p5, p6, p7, p8, p9, p10⟩ := cells11 H46.out
          obtain ⟨l0, l1, l2, l3, l4⟩ := cells5L16 H6.out
          cases hs' with
          | false =>
            obtain rfl := HN1.out rfl
            go_wp2
            go_ret
            exact ⟨rfl, HW6.out⟩
          | true =>
            cases q' with
            | false =>
              obtain rfl := HN1.out rfl
              go_wp2
              go_ret
              exact ⟨rfl, HW6.out⟩
            | true =>
              have HG2 := Lib.hid (HN3.out rfl)
              go_wp2
              go_roundg gk
              case measure => omega
              case rel => exact ⟨i + 1, by omega, by go_num, HW6.out, HG2⟩
      | true =>
        have hq9 := HQ.out
        have HAB := Lib.hid (HAP.out v3 HW3.out).2.2
        have dga : ¬ g = ap := fun e => by have := HAB.out; have := HGB.out; omega
        have dag : ¬ ap = g := fun e => dga e.symm
        have dgv : ¬ v3.heap.size = g := fun e => by have := HL3.out; omega
        have dvg : ¬ g = v3.heap.size := fun e => dgv e.symm
        have dav : ¬ ap = v3.heap.size := fun e => by have := HAB.out; have := HLB3.out; omega
        have dva : ¬ v3.heap.size = ap := fun e => dav e.symm
        have HKV : Hid (∀ V X, Below v3.heap.size v3 V → Below V.heap.size V X → X.cell? ⟨ap, 8, none⟩ = some (.pointer (some ⟨tp, 0, none⟩)) ∧ X.cell? ⟨g, 1, none⟩ = some (.string x1)) := fun V X h1 h2 => by
          have hvx : Below v3.heap.size v3 X := h1.trans (h2.mono h1.size)
          obtain ⟨-, e1, -⟩ := cells11 ((hvx.block g HL3.out).trans H3.out)
          exact ⟨(HAP.out X (HW3.out.trans (hvx.mono HLB3.out))).1, e1⟩
        have HKL : Hid (∀ X, Below (v3.drew.alloc L0).heap.size (v3.drew.alloc L0) X → X.heap[v3.heap.size]? = some (.cells #[.string ⟨#[]⟩, .int .u64 0, .int .u64 0, .int .i64 0, .int .i64 0] 29 (0, 0))) := fun X h2 => by
          have hsz : (v3.drew.alloc L0).heap.size = v3.heap.size + 1 := by simp
          exact (h2.block v3.heap.size (by omega)).trans (heap_alloc_new v3.drew _)
        have HDV : Hid (Below v3.heap.size v3 v3.drew ∧ Below v3.heap.size v3 (v3.drew.alloc L0)) := ⟨(Below.refl _ _).drew, (Below.refl _ _).drew.alloc (Nat.le_refl _) _⟩
        go_upto_region 5 with fail
        go_cut [7, 8] from 20 to 63 (fun s7 s8 wx => GotL w B g #[.int .i64 x0, .string x1, .string x2, .bool x3, .string x4, .int .u64 x5, .int .u64 x6, .int .i64 x7, .int .i64 x8, .int .i64 x9, .int .i64 x10] (.string y0) (.int .u64 y1) (.int .u64 y2) (.int .i64 y3) (.int .i64 y4) hs2 s7 s8 wx)
        case first =>
          go_region_held3 (fun V => V.cell? ⟨ap, 8, none⟩ = some (.pointer (some ⟨tp, 0, none⟩)) ∧ V.cell? ⟨g, 1, none⟩ = some (.string x1)) (go_keep)
            (first
              | (go_at_call 52; refine (HGX2.out v3.drew HW3.out.drew).mono ?_; rintro e x1' ⟨rfl, hb⟩; obtain ⟨t8, t1⟩ := HKV.out _ x1' HDV.out.1 hb)
              | (go_at_call 52; refine (HGX2.out (v3.drew.alloc L0) (HW3.out.drew.alloc HLB3.out _)).mono ?_; rintro e x1' ⟨rfl, hb⟩; obtain ⟨t8, t1⟩ := HKV.out _ x1' HDV.out.2 hb; obtain ⟨f0, f1, f2, f3, f4⟩ := frozenL (HKL.out x1' hb); obtain ⟨y0', y1', y2', y3', y4'⟩ := cells5L16 (HKL.out x1' hb))
              | fail)
          all_goals
            go_wp2
            go_meet
            case rel => first
              | (have h := gotL_1 (v0 := .string y0) (v1 := .int .u64 y1) (v2 := .int .u64 y2) (v3 := .int .i64 y3) (v4 := .int .i64 y4) (f := hs2) H3.out HW3.out HLB3.out hb; with_reducible exact h)
              | (have h := gotL_2 (v0 := .string y0) (v1 := .int .u64 y1) (v2 := .int .u64 y2) (v3 := .int .i64 y3) (v4 := .int .i64 y4) (f := hs2) H3.out HW3.out HLB3.out hb; with_reducible exact h)
        case rest =>
          obtain ⟨g7, rfl, rfl, H7, H47, HW7⟩ := hcut
          clear p0 p1 p2 p3 p4 p5 p6 p7 p8 p9 p10
          obtain ⟨p0, p1, p2, p3, p4, p5, p6, p7, p8, p9, p10⟩ := cells11 H47.out
          obtain ⟨l0, l1, l2, l3, l4⟩ := cells5L16 H7.out
          cases hs2 <;> cases x3 <;> cases q
          all_goals first
            | (obtain rfl := HN1.out rfl
               go_wp2
               go_ret
               exact ⟨rfl, HW7.out⟩)
            | (have HG2 := Lib.hid (HN3.out rfl)
               go_wp2
               go_roundg gk
               case measure => omega
               case rel => exact ⟨i + 1, by omega, by go_num, HW7.out, HG2⟩)
end

end Go.Proofs.YtlghphccmgmomaaGreat
