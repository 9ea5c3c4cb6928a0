/-
  Proved here: what chapter 12's own Set answers and leaves.
  Conditions: fewer than 2^20 links.
-/
import Derived.Test.YtfdifimakaiccaaRef12D
import Derived.Deep.RegionHeld3
namespace Go.Proofs.Ytfdifimakaiccaa
open Go Go.RowKit
set_option maxRecDepth 100000

/-- Is one of the links behind a key? -/
def anyP (T : List Ln) (k : Ky) : Bool := T.any fun a => Op.bytesLess k a.k
/-- What chapter 12's own Set has made of the links gone through. -/
def outP (T : List Ln) (x : Ln) : List Ln := if anyP T x.k then putT T x else T
theorem if_off {b : Bool} (h : b = false) : ¬ b = true := by rw [h]; simp
theorem anyP_snoc (T : List Ln) (a : Ln) (k : Ky) : anyP (T ++ [a]) k = (anyP T k || Op.bytesLess k a.k) := by simp [anyP]
theorem putT_in {T : List Ln} {x : Ln} (h : anyP T x.k = true) (S : List Ln) : putT (T ++ S) x = putT T x ++ S := by
  induction T with
  | nil => cases h
  | cons a T ih =>
    show (if Op.bytesLess x.k a.k = true then x :: a :: (T ++ S) else a :: putT (T ++ S) x) = (if Op.bytesLess x.k a.k = true then x :: a :: T else a :: putT T x) ++ S
    by_cases ha : Op.bytesLess x.k a.k = true
    · rw [if_pos ha, if_pos ha]; rfl
    · rw [if_neg ha, if_neg ha]
      have hT : anyP T x.k = true := by
        have h1 : (Op.bytesLess x.k a.k || anyP T x.k) = true := h
        rw [Bool.or_eq_true] at h1
        exact h1.resolve_left ha
      rw [ih hT]; rfl
theorem putT_out {T : List Ln} {x : Ln} (h : anyP T x.k = false) (S : List Ln) : putT (T ++ S) x = T ++ putT S x := by
  induction T with
  | nil => rfl
  | cons a T ih =>
    have h1 : (Op.bytesLess x.k a.k || anyP T x.k) = false := h
    rw [Bool.or_eq_false_iff] at h1
    show (if Op.bytesLess x.k a.k = true then x :: a :: (T ++ S) else a :: putT (T ++ S) x) = a :: T ++ putT S x
    rw [if_neg (if_off h1.1), ih h1.2]; rfl
theorem outP_in {T : List Ln} {x : Ln} (h : anyP T x.k = true) (a : Ln) : outP (T ++ [a]) x = outP T x ++ [a] ∧ anyP (T ++ [a]) x.k = true := by
  have h2 : anyP (T ++ [a]) x.k = true := by rw [anyP_snoc, h]; rfl
  refine ⟨?_, h2⟩
  unfold outP
  rw [if_pos h, if_pos h2, putT_in h]
theorem outP_no {T : List Ln} {x : Ln} (h : anyP T x.k = false) {a : Ln} (ha : Op.bytesLess x.k a.k = false) : outP (T ++ [a]) x = outP T x ++ [a] ∧ anyP (T ++ [a]) x.k = false := by
  have h2 : anyP (T ++ [a]) x.k = false := by rw [anyP_snoc, h, ha]; rfl
  refine ⟨?_, h2⟩
  unfold outP
  rw [if_neg (if_off h), if_neg (if_off h2)]
theorem outP_yes {T : List Ln} {x : Ln} (h : anyP T x.k = false) {a : Ln} (ha : Op.bytesLess x.k a.k = true) : outP (T ++ [a]) x = outP T x ++ [x] ++ [a] ∧ anyP (T ++ [a]) x.k = true := by
  have h2 : anyP (T ++ [a]) x.k = true := by rw [anyP_snoc, h, ha]; rfl
  refine ⟨?_, h2⟩
  unfold outP
  rw [if_neg (if_off h), if_pos h2, putT_out h]
  show T ++ (if Op.bytesLess x.k a.k = true then x :: [a] else a :: putT [] x) = _
  rw [if_pos ha]
  simp
theorem outP_all {T : List Ln} {x : Ln} (h : anyP T x.k = true) : outP T x = putT T x := by unfold outP; rw [if_pos h]
theorem outP_last {T : List Ln} {x : Ln} (h : anyP T x.k = false) : outP T x ++ [x] = putT T x := by
  have := putT_out h []
  rw [List.append_nil] at this
  unfold outP
  rw [if_neg (if_off h), this]; rfl
theorem outP_len (T : List Ln) (x : Ln) : (outP T x).length ≤ T.length + 1 := by
  unfold outP
  split
  · rw [putT_len]; omega
  · omega
theorem RowL.cell5 {w : World} {b off : Nat} {l : List Ln} (h : RowL w (some ⟨b, off, none⟩) l) {i : Nat} {e : Ln} (hi : l[i]? = some e) :
    w.cell? ⟨b, off + i * 5, none⟩ = some (.string e.str) ∧ w.cell? ⟨b, off + i * 5 + 1, none⟩ = some (.int .u64 (e.id : Nat)) ∧ w.cell? ⟨b, off + i * 5 + 2, none⟩ = some (.int .u64 (e.ver : Nat)) ∧
    w.cell? ⟨b, off + i * 5 + 3, none⟩ = some (.int .i64 e.line) ∧ w.cell? ⟨b, off + i * 5 + 4, none⟩ = some (.int .i64 e.cl) := by
  obtain ⟨b2, off2, e1, -, h1⟩ := h.at_ hi
  cases e1
  exact h1
set_option maxHeartbeats 3200000 in
set_option maxRecDepth 100000 in
theorem r12set_any {w : World} {p lo q : Nat} {L : List Ln} (h : Rt w p lo q L) (hlo : lo ≤ w.heap.size) (hl : L.length < 1048576) (x : Ln) :
    Calls Try.prog 12 #[.pointer (some ⟨p, 0, none⟩), .agg #[.string x.str, .int .u64 (x.id : Nat), .int .u64 (x.ver : Nat), .int .i64 x.line, .int .i64 x.cl]] w fun e w' => e = .returned (.bool (hasT L x.k)) ∧ RtTo w p lo q (setT L x) w' := by
  obtain ⟨g, hg⟩ : ∃ g, w.heap.size = g := ⟨_, rfl⟩
  have HG := Lib.hid hg
  obtain ⟨R, hR⟩ : ∃ R, RtTo w p lo q (setT L x) = R := ⟨_, rfl⟩
  obtain ⟨w1, hw1⟩ : ∃ w1, w.alloc (.cells #[.string x.str, .int .u64 (x.id : Nat), .int .u64 (x.ver : Nat), .int .i64 x.line, .int .i64 x.cl] 33) = w1 := ⟨_, rfl⟩
  have hb1 : Below g w w1 := by rw [← hw1, ← hg]; exact (Below.refl _ _).alloc (Nat.le_refl _) _
  have hx1 : LBox w1 g x := by rw [← hw1, ← hg]; exact heap_alloc_new w _
  have HB1 := Lib.hid hb1
  have HX1 : Hid (w1.heap[g]? = some (.cells #[.string x.str, .int .u64 (x.id : Nat), .int .u64 (x.ver : Nat), .int .i64 x.line, .int .i64 x.cl] 33 (0, 0))) := hx1
  have HGET : Hid (∀ w1, Below g w w1 → Calls Try.prog 25 #[.pointer (some ⟨p, 0, none⟩), .string x.str] w1 fun e w' => e = .returned (.tuple #[.agg #[.string (linkT L x.k).str, .int .u64 ((linkT L x.k).id : Nat), .int .u64 ((linkT L x.k).ver : Nat), .int .i64 (linkT L x.k).line, .int .i64 (linkT L x.k).cl], .bool (hasT L x.k)]) ∧ Below w1.heap.size w1 w') := fun w1 hb => r12get_any (h.below (hg.symm ▸ hb)) x.str
  obtain ⟨A, cap, -, -, hrd⟩ := h.reads
  have HRC : Hid (∀ w4, Below g w w4 → w4.cell? ⟨p, 0, none⟩ = some (.slice A L.length cap) ∧ w4.frozen? ⟨p, 0, none⟩ = false) := fun w4 hb => ⟨(hrd w4 (hg.symm ▸ hb)).1, (h.below (hg.symm ▸ hb)).frozen⟩
  have HWO : Hid (∀ w4, Below g w w4 → Calls Try.prog 26 #[.slice A L.length cap, .string x.str] w4 (WoTo L x.k w4)) := fun w4 hb => without_any L.length cap rfl (hrd w4 (hg.symm ▸ hb)).2 hl x.str
  have HFIN : Hid (∀ w5 w6 v, Below g w w5 → g < w5.heap.size → Below w5.heap.size w5 w6 → w6.ownsRow w5.heap.size 33 5 v (setT L x).length (encL (setT L x)) → R (w6.setCell ⟨p, 0, none⟩ v)) := fun w5 w6 v h5 hg5 h6 ho => by
    rw [← hR]
    have hdl : (dropT L x.k).length ≤ L.length := List.length_filter_le _ _
    have hsl : (setT L x).length ≤ 1048576 := by unfold setT; rw [putT_len]; omega
    exact rtTo_of h hg (hg ▸ hlo) h5 hg5 h6 ho hsl ⟨rfl, rfl, rfl, Nat.le_refl _, fun _ _ _ _ => rfl⟩
  have HDL : Hid ((dropT L x.k).length < 1048576) := Nat.lt_of_le_of_lt (List.length_filter_le _ _) hl
  have HSET : Hid (putT (dropT L x.k) x = setT L x) := rfl
  have HSLN : Hid ((setT L x).length ≤ 1048576) := by
    have hdl : (dropT L x.k).length ≤ L.length := List.length_filter_le _ _
    show _ ≤ _
    unfold setT; rw [putT_len]; omega
  have HLP : Hid (p < g) := hg ▸ h.lt_p
  have HZ := Lib.hid zero_link
  have HXK : Hid (x.str.data.toList = x.k) := rfl
  have HAPX := Lib.hid (fun (w : World) (B : Nat) (v : Value) (l : List Ln) (h1 : w.ownsRow B 33 5 v l.length (encL l)) (h2 : l.length < 1048576) (h3 : B ≤ w.heap.size) => run_appL_one w B v l x h1 h2 h3)
  have HGTX := Lib.hid (fun (a : Ln) => gt_str a.str x.str)
  have HBX := Lib.hid (fun (w' : World) (h' : w'.heap[g]? = some (.cells #[.string x.str, .int .u64 (x.id : Nat), .int .u64 (x.ver : Nat), .int .i64 x.line, .int .i64 x.cl] 33 (0, 0))) => cellsL h')
  obtain ⟨y, hy⟩ : ∃ y, linkT L x.k = y := ⟨_, rfl⟩
  rw [hy] at HGET
  rw [hR]
  unfold WoTo at HWO
  generalize hasT L x.k = hb at *
  generalize setT L x = S' at *
  generalize dropT L x.k = D at *
  generalize L.length = n at *
  generalize y.str = y0 at *
  generalize (y.id : Int) = y1 at *
  generalize (y.ver : Int) = y2 at *
  generalize y.line = y3 at *
  generalize y.cl = y4 at *
  generalize x.str = x0 at *
  generalize (x.id : Int) = x1 at *
  generalize (x.ver : Int) = x2 at *
  generalize x.line = x3 at *
  generalize x.cl = x4 at *
  clear h hy hR hrd hb1 hx1 hl hlo
  go_enter Try.func12, Try.ntmps12
  obtain ⟨b0, b1, b2, b3, b4⟩ := HBX.out w1 HX1.out
  go_wp2_with fail
  refine (HGET.out w1 HB1.out).mono ?_
  clear hw1 hg
  rintro e w2 ⟨rfl, hb2⟩
  have hlt1 := lt_of_heap HX1.out
  have HB2 : Hid (Below g w w2) := HB1.out.trans (hb2.mono (by omega))
  have HX2 := Lib.hid ((hb2.block g hlt1).trans HX1.out)
  obtain ⟨g2, hg2⟩ : ∃ g2, w2.heap.size = g2 := ⟨_, rfl⟩
  have HG2 := Lib.hid hg2
  have HL2 : Hid (g < g2) := hg2 ▸ lt_of_heap HX2.out
  clear hb2 hlt1 hg2
  go_wp2_with (first
    | ((with_reducible show wpList _ _ _ (⟨some 5, .alloc _, _, _, _, _⟩ :: _) _ _); refine wpList_alloc_var (o := ⟨some 5, _, _, _, _, _⟩) rfl 33 rfl g2 HG2.out _ HZ.out ?_; intro w3 H3 B3)
    | ((with_reducible show wpList _ _ _ (⟨none, .store _ (.tmp 5) _, _, _, _, _⟩ :: _) _ _); refine wpList_store_whole (o := ⟨none, .store 33 (.tmp 5) (.tmp 16), _, _, _, _⟩) rfl _ _ _ rfl rfl g2 #[.string y0, .int .u64 y1, .int .u64 y2, .int .i64 y3, .int .i64 y4] rfl rfl 33 _ H3.out size_link rfl (onesL _ _ _ _ _) ?_; intro w4 H4 B4)
    | fail)
  have HB4 : Hid (Below g w w4) := HB2.out.trans ((B3.out.trans B4.out).mono (Nat.le_of_lt HL2.out))
  have HX4 := Lib.hid ((B4.out.block g HL2.out).trans ((B3.out.block g HL2.out).trans HX2.out))
  have HL4 : Hid (g < w4.heap.size) := lt_of_heap HX4.out
  clear H3 B3 H4 B4 HX2 HL2 HG2 HB2
  have HB4d : Hid (Below g w w4.drew) := below_drewN HB4.out 1
  obtain ⟨k0, -⟩ := HRC.out w4.drew HB4d.out
  obtain ⟨b0, -, -, -, -⟩ := HBX.out w4.drew HX4.out
  go_region_held3 (fun w' => w'.cell? ⟨p, 0, none⟩ = some (.slice A n cap) ∧ w'.cell? ⟨g, 0, none⟩ = some (.string x0)) (go_keep)
    (first | (go_at_call 26; refine (HWO.out w4.drew HB4d.out).mono ?_; rintro e w5 ⟨v5, rfl, ho5, hb5⟩; obtain ⟨-, A2, cap2, rfl, -⟩ := rowL_of_own ho5 (Nat.le_of_lt HDL.out); have HO5 := Lib.hid ho5; have HBL5 := Lib.hid hb5; have HX5 := Lib.hid ((hb5.block g HL4.out).trans HX4.out); have HB5 : Hid (Below g w w5) := HB4d.out.trans (hb5.mono (Nat.le_of_lt HL4.out)); have k5 := (HRC.out w5 HB5.out).1; have b5 := (HBX.out w5 HX5.out).1; clear ho5 hb5))
  all_goals
    clear b0 b1 b2 b3 b4 k0 k5 b5
    obtain ⟨B, hB⟩ : ∃ B, w5.heap.size = B := ⟨_, rfl⟩
    have HBS := Lib.hid hB
    have HO5' : Hid (w5.ownsRow w4.heap.size 33 5 (.slice A2 D.length cap2) D.length (encL D)) := HO5.out
    obtain ⟨-, A3, cap3, e3, -, hr5, -⟩ := rowL_of_own HO5.out (Nat.le_of_lt HDL.out)
    cases e3
    have HR5 := Lib.hid hr5
    have HGB : Hid (g < B) := hB ▸ lt_of_heap HX5.out
    have HFB : Hid (∀ w6 v, Below B w5 w6 → w6.ownsRow B 33 5 v S'.length (encL S') → R (w6.setCell ⟨p, 0, none⟩ v)) := fun w6 v h6 ho => HFIN.out w5 w6 v HB5.out (hB.symm ▸ HGB.out) (hB.symm ▸ h6) (hB.symm ▸ ho)
    obtain ⟨d, hd⟩ : ∃ d, D.length = d := ⟨_, rfl⟩
    have HD := Lib.hid hd
    rw [hd] at HDL
    rw [hd]
    clear hr5 hB hd HO5 HO5' HFIN
    go_wp2
    go_loopg [7, 8, 10] d (fun gk s7 s8 s10 wx => ∃ i : Nat, i + gk = d ∧ s10 = .int .i64 i ∧ s8 = .bool (anyP (D.take i) x.k) ∧ Hid (wx.ownsRow B 33 5 s7 (outP (D.take i) x).length (encL (outP (D.take i) x))) ∧ Hid (Below B w5 wx))
    case atStart => exact ⟨0, by omega, rfl, rfl, World.ownsRow_nil _ _ _ _, HBS.out ▸ Below.refl _ _⟩
    case round =>
      obtain ⟨i, hig, rfl, rfl, HO, HB⟩ := hrel
      have HXr := Lib.hid ((HB.out.block g HGB.out).trans HX5.out)
      have HBr : Hid (B ≤ wr.heap.size) := by have h1 := HB.out.size; have h2 := HBS.out; show _ ≤ _; omega
      have HRr : Hid (∀ w', Below B w5 w' → w'.cell? ⟨p, 0, none⟩ = some (.slice A n cap) ∧ w'.frozen? ⟨p, 0, none⟩ = false) := fun w' hb => HRC.out w' (HB5.out.trans (hb.mono (Nat.le_of_lt HGB.out)))
      have HLEN : Hid ((outP (D.take i) x).length ≤ i + 1) := by
        have h1 := outP_len (D.take i) x
        have h2 := List.length_take_le i D
        show _ ≤ _
        omega
      cases gk with
      | zero =>
        obtain rfl : i = d := by omega
        have hii : ¬ (i : Int) < (i : Int) := by omega
        have hall : D.take i = D := by rw [← HD.out]; exact List.take_length
        rw [hall] at HO ⊢
        cases hin : anyP D x.k with
        | true =>
          rw [outP_all hin, HSET.out] at HO
          obtain ⟨-, A7, cap7, rfl, -⟩ := rowL_of_own HO.out HSLN.out
          have HF := Lib.hid (HFB.out wr _ HB.out HO.out)
          obtain ⟨k1, k2⟩ := HRr.out wr HB.out
          obtain ⟨w6, hw6⟩ : ∃ w6, wr.setCell ⟨p, 0, none⟩ (.slice A7 S'.length cap7) = w6 := ⟨_, rfl⟩
          rw [hw6] at HF
          clear hin hall hig HO HLEN
          go_wp2
          go_ret
          exact ⟨rfl, HF.out⟩
        | false =>
          obtain ⟨v', w', a1, a2, a3, -⟩ := HAPX.out wr B u7 (outP D x) HO.out (by have h1 := HLEN.out; rw [hall] at h1; have h2 := HDL.out; have h3 := outP_last hin; have h4 := congrArg List.length h3; rw [List.length_append, putT_len, HD.out] at h4; simp at h4; omega) HBr.out
          rw [outP_last hin, HSET.out] at a2
          obtain ⟨-, A7, cap7, rfl, -⟩ := rowL_of_own a2 HSLN.out
          have HB2 : Hid (Below B w5 w') := HB.out.grown a3 HBr.out (fun j hj => own_ge HO.out j hj)
          have HF := Lib.hid (HFB.out w' _ HB2.out a2)
          have E1 := Lib.hid a1
          obtain ⟨k1, k2⟩ := HRr.out w' HB2.out
          obtain ⟨w6, hw6⟩ : ∃ w6, w'.setCell ⟨p, 0, none⟩ (.slice A7 S'.length cap7) = w6 := ⟨_, rfl⟩
          rw [hw6] at HF
          obtain ⟨b0, b1, b2, b3, b4⟩ := HBX.out wr HXr.out
          clear hin hall hig HO HLEN a1 a2 a3
          go_wp2_with (first
            | (at_builtin; refine wpList_app rfl (.tmp 56) (.tmp 58) 28 rfl rfl rfl E1.out ?_))
          go_ret
          exact ⟨rfl, HF.out⟩
      | succ gk =>
        have hii : (i : Int) < (d : Int) := by omega
        have hdm : d < 1048576 := HDL.out
        have hgi := List.getElem?_eq_getElem (show i < D.length by have := HD.out; omega)
        generalize D[i]'(by have := HD.out; omega) = a at *
        obtain ⟨bd, off, hA3, -, c0, c1, c2, c3, c4⟩ := (HR5.out.below (HBS.out.symm ▸ HB.out)).at_ hgi
        subst hA3
        have hts := take_snoc hgi
        have hgt := HGTX.out a
        rw [HXK.out, show a.str.data.toList = a.k from rfl] at hgt
        have HAPA := Lib.hid (fun (w : World) (v : Value) (l : List Ln) (h1 : w.ownsRow B 33 5 v l.length (encL l)) (h2 : l.length < 1048576) (h3 : B ≤ w.heap.size) => run_appL_one w B v l a h1 h2 h3)
        obtain ⟨b0, b1, b2, b3, b4⟩ := HBX.out wr HXr.out
        have HC6 := Lib.hid (fun (w6 : World) (hb6 : Below B w5 w6) => (HR5.out.below (HBS.out.symm ▸ hb6)).cell5 hgi)
        cases hin : anyP (D.take i) x.k with
        | true =>
          obtain ⟨o1, o2⟩ := outP_in hin a
          rw [← hts] at o1 o2
          have O1 := Lib.hid o1
          have O2 := Lib.hid o2
          have hlen : (outP (D.take i) x).length < 1048576 := by have h1 := HLEN.out; have h2 := HDL.out; omega
          generalize outP (D.take i) x = l at *
          clear o1 o2 hts hin hgi HLEN HR5
          generalize a.str = a0 at *
          generalize (a.id : Int) = a1 at *
          generalize (a.ver : Int) = a2 at *
          generalize a.line = a3 at *
          generalize a.cl = a4 at *
          go_wp2
          go_quiet (fail)
          obtain ⟨v', w', t1, t2, t3, -⟩ := HAPA.out (wr.drewN nq) u7 l (own_keep (w := wr) HO.out (below_drewN (Below.refl _ _) nq)) hlen HBr.out
          rw [← O1.out] at t2
          have T1 := Lib.hid t1
          have T2 := Lib.hid t2
          have T3 : Hid (Below B w5 w') := (below_drewN HB.out nq).grown t3 HBr.out (fun j hj => own_ge HO.out j hj)
          clear t1 t2 t3 hlen
          go_wp2_with (first
            | (at_builtin; refine wpList_app rfl (.tmp 47) (.tmp 52) 28 rfl rfl rfl T1.out ?_))
          go_roundg gk
          case measure => omega
          case rel => exact ⟨i + 1, by omega, by go_num, by rw [O2.out], T2, T3⟩
        | false =>
          cases hz : Op.bytesLess x.k a.k with
          | true =>
            obtain ⟨o1, o2⟩ := outP_yes hin hz
            rw [← hts] at o1 o2
            have O1 := Lib.hid o1
            have O2 := Lib.hid o2
            have hlen : (outP (D.take i) x).length + 1 < 1048576 := by
              have h1 := HDL.out
              have h2 := List.length_take_le i D
              have h3 : (outP (D.take i) x).length = (D.take i).length := by unfold outP; rw [if_neg (if_off hin)]
              omega
            rw [hz] at hgt
            generalize outP (D.take i) x = l at *
            clear o1 o2 hts hin hz hgi HLEN HR5
            generalize a.str = a0 at *
            generalize (a.id : Int) = a1 at *
            generalize (a.ver : Int) = a2 at *
            generalize a.line = a3 at *
            generalize a.cl = a4 at *
            go_wp2
            go_quiet (fail)
            obtain ⟨v1, w6, t1, t2, t3, -⟩ := HAPX.out (wr.drewN nq) B u7 l (own_keep (w := wr) HO.out (below_drewN (Below.refl _ _) nq)) (by omega) HBr.out
            have T1 := Lib.hid t1
            have T2 := Lib.hid t2
            have T3 : Hid (Below B w5 w6) := (below_drewN HB.out nq).grown t3 HBr.out (fun j hj => own_ge HO.out j hj)
            have HB6 : Hid (B ≤ w6.heap.size) := by have h1 := T3.out.size; have h2 := HBS.out; show _ ≤ _; omega
            obtain ⟨v2, w7, r1, r2, r3, -⟩ := HAPA.out w6 v1 (l ++ [x]) T2.out (by simp; omega) HB6.out
            rw [← O1.out] at r2
            have R1 := Lib.hid r1
            have R2 := Lib.hid r2
            have R3 : Hid (Below B w5 w7) := T3.out.grown r3 HB6.out (fun j hj => own_ge T2.out j hj)
            obtain ⟨m0, m1, m2, m3, m4⟩ := HC6.out w6 T3.out
            clear t1 t2 t3 r1 r2 r3 hlen
            go_wp2_with (first
              | (at_builtin; refine wpList_app rfl (.tmp 43) (.tmp 45) 28 rfl rfl rfl T1.out ?_)
              | (at_builtin; refine wpList_app rfl (.tmp 47) (.tmp 52) 28 rfl rfl rfl R1.out ?_))
            go_roundg gk
            case measure => omega
            case rel => exact ⟨i + 1, by omega, by go_num, by rw [O2.out], R2, R3⟩
          | false =>
            obtain ⟨o1, o2⟩ := outP_no hin hz
            rw [← hts] at o1 o2
            have O1 := Lib.hid o1
            have O2 := Lib.hid o2
            have hlen : (outP (D.take i) x).length < 1048576 := by have h1 := HLEN.out; have h2 := HDL.out; omega
            rw [hz] at hgt
            generalize outP (D.take i) x = l at *
            clear o1 o2 hts hin hgi HLEN HR5 hz
            generalize a.str = a0 at *
            generalize (a.id : Int) = a1 at *
            generalize (a.ver : Int) = a2 at *
            generalize a.line = a3 at *
            generalize a.cl = a4 at *
            go_wp2
            go_quiet (fail)
            obtain ⟨v', w', t1, t2, t3, -⟩ := HAPA.out (wr.drewN nq) u7 l (own_keep (w := wr) HO.out (below_drewN (Below.refl _ _) nq)) hlen HBr.out
            rw [← O1.out] at t2
            have T1 := Lib.hid t1
            have T2 := Lib.hid t2
            have T3 : Hid (Below B w5 w') := (below_drewN HB.out nq).grown t3 HBr.out (fun j hj => own_ge HO.out j hj)
            clear t1 t2 t3 hlen
            go_wp2_with (first
              | (at_builtin; refine wpList_app rfl (.tmp 47) (.tmp 52) 28 rfl rfl rfl T1.out ?_))
            go_roundg gk
            case measure => omega
            case rel => exact ⟨i + 1, by omega, by go_num, by rw [O2.out], T2, T3⟩

end Go.Proofs.Ytfdifimakaiccaa
