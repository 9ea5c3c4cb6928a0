/-
    Proved here: what package block's Encode answers.
  Conditions: texts of at most 2,000 bytes.
-/
import Derived.Test.YtokobelmoanneaaBlockE
import Derived.Deep.RegionHeld3
namespace Go.Proofs.Ytokobelmoanneaa
open Go Go.RowKit

/-- A block in a variable of its own. -/
def Box (w : World) (p : Nat) (b : BV) : Prop := w.heap[p]? = some (.cells #[.int .i64 b.cl, .int .i64 b.kd, .int .u64 (b.id : Nat), .int .u64 (b.ver : Nat), .int .u64 (b.ep : Nat), .string b.key, .string b.val] 24 (0, 0))
theorem box_new (w : World) (b : BV) : Box (w.alloc (.cells #[.int .i64 b.cl, .int .i64 b.kd, .int .u64 (b.id : Nat), .int .u64 (b.ver : Nat), .int .u64 (b.ep : Nat), .string b.key, .string b.val] 24)) w.heap.size b := by
  show (w.heap.push _)[w.heap.size]? = _
  simp
theorem Box.below {w w' : World} {p B : Nat} {b : BV} (h : Box w p b) (hb : Below B w w') (hp : p < B) : Box w' p b := (hb.block p hp).trans h
theorem Box.lt {w : World} {p : Nat} {b : BV} (h : Box w p b) : p < w.heap.size := lt_of_heap h
theorem Box.cell {w : World} {p : Nat} {b : BV} (h : Box w p b) (j : Nat) : w.cell? ⟨p, j, none⟩ = #[Value.int .i64 b.cl, .int .i64 b.kd, .int .u64 (b.id : Nat), .int .u64 (b.ver : Nat), .int .u64 (b.ep : Nat), .string b.key, .string b.val][j]? := by
  unfold Box at h
  simp [World.cell?, h]
theorem Box.cells {w : World} {p : Nat} {cl kd : Int} {id ver ep : Nat} {key val : ByteArray} (h : Box w p ⟨cl, kd, id, ver, ep, key, val⟩) : w.cell? ⟨p, 0, none⟩ = some (.int .i64 cl) ∧ w.cell? ⟨p, 1, none⟩ = some (.int .i64 kd) ∧ w.cell? ⟨p, 2, none⟩ = some (.int .u64 (id : Nat)) ∧ w.cell? ⟨p, 3, none⟩ = some (.int .u64 (ver : Nat)) ∧ w.cell? ⟨p, 4, none⟩ = some (.int .u64 (ep : Nat)) ∧ w.cell? ⟨p, 5, none⟩ = some (.string key) ∧ w.cell? ⟨p, 6, none⟩ = some (.string val) :=
  ⟨h.cell 0, h.cell 1, h.cell 2, h.cell 3, h.cell 4, h.cell 5, h.cell 6⟩
set_option maxHeartbeats 400000 in
set_option maxRecDepth 100000 in
theorem enc_no (b : BV) (h1 : b.key.size ≤ 2000) (h2 : b.val.size ≤ 2000) (hm : mayB b = false) (w : World) : Calls Try.prog 15 #[b.agg] w fun e w' => e = .returned (.tuple #[.slice none 0 0, .int .i64 3]) ∧ Below w.heap.size w w' := by
  have HM := Lib.hid (fun W => may_any b h1 h2 W)
  rw [hm] at HM
  rw [BV.agg] at HM ⊢
  obtain ⟨cl, kd, id, ver, ep, key, val⟩ := b
  simp only at *
  clear hm
  go_enter Try.func15, Try.ntmps15
  go_wp2_with fail
  refine (HM.out _).mono ?_
  rintro e w2 ⟨rfl, hb⟩
  have HB := Lib.hid hb
  clear hb
  go_wp2
  go_ret2
  exact ⟨rfl, below_box HB.out⟩
/-- What Encode leaves of a block that may be. -/
def LinesTo (w : World) (l : List UInt8) (e : Ending) (w' : World) : Prop :=
  ∃ V, e = .returned (.tuple #[V, .int .i64 0]) ∧ w'.ownsRow w.heap.size 5 1 V l.length (enc l) ∧ Below w.heap.size w w'
/-- A part of a block, read as a row. -/
theorem Blk.rowAt {w : World} {g : Nat} {l : List UInt8} (h : Blk w g (enc l)) (a k : Nat) (hk : a + k ≤ l.length) (hl : l.length ≤ 1073741824) : Row w (some ⟨g, a, none⟩) ((l.drop a).take k) := by
  have hlen : ((l.drop a).take k).length = k := by simp; omega
  refine ⟨by omega, fun _ => ⟨g, a, rfl, Blk.lt h, fun j hj => ?_⟩⟩
  rw [hlen] at hj
  rw [Blk.cell h, enc_at l (a + j) (by omega)]
  simp [List.getD, List.getElem?_take_of_lt hj, List.getElem?_drop]
/-- Bytes put behind a row that the call made. -/
theorem run_app_below (w : World) (base n : Nat) (v : Value) (xs : List Value) (hown : w.ownsRow base 5 1 v n xs) (A : Option Addr) (m c : Nat) (l : List UInt8) (hm : l.length = m) (hr : Row w A l) (hc : A = none → c = 0) (hn : n + m ≤ 1073741824) (hbase : base ≤ w.heap.size) :
    ∃ v' w', (Builtin.append_ #[27, 27] 27 #[v, .slice A m c]).run Try.prog w = .ok v' w' ∧ w'.ownsRow base 5 1 v' (n + m) (xs ++ enc l) ∧ Below base w w' := by
  obtain ⟨v', w', h1, h2, h3, _⟩ := run_app w base n v xs hown A m c l hm hr hc hn hbase
  exact ⟨v', w', h1, h2, (Below.refl _ _).grown h3 hbase (own_ge hown)⟩
theorem app_first {w4 : World} {q g g4 m : Nat} {R F : List UInt8} (hR : R.length = m) (h28 : 28 ≤ m) (hm : m ≤ 469) (hF : F.length = 36) (hq : q ≤ g4) (h4 : Blk w4 g4 (enc F)) (hd : Blk w4 g (enc R)) :
    ∃ V w5, (Builtin.append_ #[27, 27] 27 #[.slice (some ⟨g4, 0, none⟩) 36 36, .slice (some ⟨g, 0, none⟩) 28 m]).run Try.prog w4 = .ok V w5 ∧ w5.ownsRow q 5 1 V 64 (enc (F ++ R.take 28)) ∧ Below q w4 w5 := by
  have hr := hd.rowAt 0 28 (by omega) (by omega)
  rw [List.drop_zero] at hr
  obtain ⟨V, w5, h1, h2, h3⟩ := run_app_below w4 q 36 _ _ (own_mono (blk_own h4 hF (by omega)) hq) (some ⟨g, 0, none⟩) 28 m (R.take 28) (by simp; omega) hr (by intro h; cases h) (by omega) (by have := Blk.lt h4; omega)
  exact ⟨V, w5, h1, by rw [← enc_append]; exact h2, h3⟩
/-- A tag and 63 bytes put behind lines. -/
theorem app_line {w : World} {q g a k : Nat} {V : Value} {R l : List UInt8} (hR : R.length ≤ 1000) (ha : a + 63 ≤ R.length) (hl : l.length ≤ 1000) (hg : g < q) (hq : q ≤ w.heap.size) (ho : w.ownsRow q 5 1 V l.length (enc l)) (hd : Blk w g (enc R)) :
    ∃ V1 w1 V2 w2, (Builtin.append_ #[27, 27] 27 #[V, .slice (some ⟨w.heap.size, 0, none⟩) 1 1]).run Try.prog (w.alloc (.cells #[.int .u8 2] 5)) = .ok V1 w1 ∧
      (Builtin.append_ #[27, 27] 27 #[V1, .slice (some ⟨g, a, none⟩) 63 k]).run Try.prog w1 = .ok V2 w2 ∧ w2.ownsRow q 5 1 V2 (l.length + 64) (enc (l ++ 2 :: (R.drop a).take 63)) ∧ Below q w w2 := by
  obtain ⟨V1, w1, h1, h2, h3⟩ := run_app_one w q V l 2 ho (by omega) hq
  have hd1 := hd.below h3 hg
  obtain ⟨V2, w2, h4, h5, h6⟩ := run_app_below w1 q (l.length + 1) V1 _ h2 (some ⟨g, a, none⟩) 63 k ((R.drop a).take 63) (by simp; omega) (hd1.rowAt a 63 ha (by omega)) (by intro h; cases h) (by omega) (Nat.le_trans hq h3.size)
  refine ⟨V1, w1, V2, w2, h1, h4, ?_, h3.trans h6⟩
  rw [enc_append, List.append_assoc] at h5
  exact h5
/-- At a step of a region that draws its order: an append whose run is known. -/
theorem step_app {P : Program} {ops : Array Oper} {o : Oper} {a : Act} {K : Act → World → Prop} {Q : Exit → Act → World → Prop} {E : Prop} (hgd : o.guard = none) (s x : Operand) (t : TypeId)
    (ho : o.op = .call { callee := .builtin .append, args := #[s, x], argTypes := #[t, t] }) {w w' : World} {v V v' : Value} (hs : a.eval s = v) (hx : a.eval x = V)
    (hrun : (Builtin.append_ #[t, t] o.type #[v, V]).run P w = .ok v' w') (h : K (a.put o.dst v') w') : if Region.wanted o (yielded ops a.tmps) = true then Oper.wp P o a w K Q else E := by
  have hw : Region.wanted o (yielded ops a.tmps) = true := by simp [Region.wanted, hgd]
  rw [if_pos hw]
  unfold Oper.wp execOp
  simp only [ho, resolve, invoke, builtin, Sem.run_bind, Sem.run_pure, Result.andThen_ok, List.map_toArray, List.map_cons, List.map_nil, hs, hx, hrun]
  exact h
theorem tags_lenLe (n : Nat) (r : List UInt8) (h : 63 * n ≤ r.length) : (tags n r).length = 64 * n := by
  induction n generalizing r with
  | zero => rfl
  | succ n ih =>
    have := ih (r.drop 63) (by rw [List.length_drop]; omega)
    simp only [tags, List.length_cons, List.length_append, List.length_take, this]
    omega
/-- Where there is a rest, it lies at g from a on. -/
def RestAt (m : Nat) (A : Option Addr) (g a : Nat) : Prop := 0 < m → A = some ⟨g, a, none⟩
/-- The lines so far, i lines behind the first one. -/
def soFar (F R : List UInt8) (i : Nat) : List UInt8 := F ++ R.take 28 ++ tags i (R.drop 28)
theorem soFar_len {F R : List UInt8} {i : Nat} (hF : F.length = 36) (hR : 28 + 63 * i ≤ R.length) : (soFar F R i).length = 64 + 64 * i := by
  have := tags_lenLe i (R.drop 28) (by rw [List.length_drop]; omega)
  simp only [soFar, List.length_append, List.length_take, this]
  omega
theorem soFar_next {F R : List UInt8} {i : Nat} (hR : 28 + 63 * i ≤ R.length) : soFar F R i ++ 2 :: (R.drop (28 + 63 * i)).take 63 = soFar F R (i + 1) := by
  rw [soFar, soFar, tags_snoc i (R.drop 28) (by rw [List.length_drop]; omega), List.drop_drop]
  simp
set_option maxHeartbeats 1600000 in
set_option maxRecDepth 100000 in
theorem enc_ok (b : BV) (ho : b.ok) (hm : mayB b = true) (w : World) : Calls Try.prog 15 #[b.agg] w (LinesTo w (linesL b)) := by
  obtain ⟨hks, hvs, _⟩ := mayB_sizes hm
  have HM := Lib.hid (fun W => may_any b (by omega) (by omega) W)
  rw [hm] at HM
  have HPD := Lib.hid (fun W => padded_any b hm W)
  have HHD := Lib.hid (fun W A c (h : Row W A (roomL b)) => bhead_any b ho hm A c W h)
  have HRL := Lib.hid (roomL_len hm)
  have HN := Lib.hid (box_new w b)
  have hrn := restN_le b.cl
  have hlt := linesL_eq b
  rw [← List.append_assoc, ← List.append_assoc] at hlt
  have HLE := Lib.hid hlt
  have HFL := Lib.hid (show (headL b ++ lay 4 (addS 0 (headL b ++ roomL b))).length = 36 by simp [headL_len, lay_len])
  have HHL := Lib.hid (headL_len b)
  obtain ⟨p, hp⟩ : ∃ p, w.heap.size = p := ⟨_, rfl⟩
  rw [BV.agg] at HM HPD HHD ⊢
  obtain ⟨w0, hw0⟩ : ∃ w0, w.alloc (.cells #[.int .i64 b.cl, .int .i64 b.kd, .int .u64 (b.id : Nat), .int .u64 (b.ver : Nat), .int .u64 (b.ep : Nat), .string b.key, .string b.val] 24) = w0 := ⟨_, rfl⟩
  rw [hw0, hp] at HN
  have HB0 : Hid (Below p w w0) := (by rw [← hp, ← hw0]; exact (Below.refl _ _).alloc (Nat.le_refl _) _)
  clear hm ho hlt
  generalize headL b ++ lay 4 (addS 0 (headL b ++ roomL b)) = F at *
  generalize roomL b = R at *
  generalize linesL b = L at *
  generalize restN b.cl = m at *
  obtain ⟨N, hN⟩ : ∃ N, 28 + 63 * m = N := ⟨_, rfl⟩
  rw [hN] at HPD HHD HRL
  have h28 : 28 ≤ N := by omega
  have h469 : N ≤ 469 := by omega
  have h28' : (28 : Int) ≤ (N : Int) := by omega
  have HNM := Lib.hid hN
  clear hN
  obtain ⟨cl, kd, id, ver, ep, key, val⟩ := b
  simp only at *
  obtain ⟨c0, c1, c2, c3, c4, c5, c6⟩ := HN.out.cells
  go_enter Try.func15, Try.ntmps15
  go_wp2_with fail
  refine (HM.out _).mono ?_
  rintro e w2 ⟨rfl, hb⟩
  have HB2 : Hid (Below p w w2) := HB0.out.trans (hb.mono (Nat.le_of_lt HN.out.lt))
  have HN2 := Lib.hid (HN.out.below hb HN.out.lt)
  clear hb c0 c1 c2 c3 c4 c5 c6
  obtain ⟨c0, c1, c2, c3, c4, c5, c6⟩ := HN2.out.cells
  go_wp2_with fail
  refine (HPD.out _).mono ?_
  rintro e w3 ⟨g, rfl, hg, hblk, hb⟩
  have HB3 : Hid (Below p w w3) := HB2.out.trans (hb.mono (Nat.le_of_lt HN2.out.lt))
  have HN3 := Lib.hid (HN2.out.below hb HN2.out.lt)
  have HK3 := Lib.hid hblk
  have HPG : Hid (p < g) := Nat.lt_of_lt_of_le HN2.out.lt hg
  clear hb c0 c1 c2 c3 c4 c5 c6 hblk hg
  obtain ⟨c0, c1, c2, c3, c4, c5, c6⟩ := HN3.out.cells
  go_wp2_with fail
  obtain ⟨q, hq⟩ : ∃ q, w3.heap.size = q := ⟨_, rfl⟩
  have HQ := Lib.hid hq
  clear hq
  have HGQ : Hid (g < q) := HQ.out ▸ Blk.lt HK3.out
  have HR3 := Lib.hid (row_drew (HK3.out.row (by rw [HRL.out]; omega)))
  go_region_held3 (fun w' => w'.cell? ⟨p, 0, none⟩ = some (.int .i64 cl) ∧ w'.cell? ⟨p, 1, none⟩ = some (.int .i64 kd) ∧ w'.cell? ⟨p, 2, none⟩ = some (.int .u64 (id : Nat)) ∧ w'.cell? ⟨p, 3, none⟩ = some (.int .u64 (ver : Nat)) ∧ w'.cell? ⟨p, 4, none⟩ = some (.int .u64 (ep : Nat)) ∧ w'.cell? ⟨p, 5, none⟩ = some (.string key) ∧ w'.cell? ⟨p, 6, none⟩ = some (.string val)) (go_keep)
    (first
      | (go_at_call 35; refine (HHD.out _ (some ⟨g, 0, none⟩) _ HR3.out).mono ?_; rintro e w4 ⟨g4, rfl, hg4, hblk4, hb4⟩; obtain ⟨V, w5, hrun, hown, hb5⟩ := app_first HRL.out h28 h469 HFL.out (HQ.out ▸ hg4) hblk4 (Blk.below (w := w3.drew) HK3.out hb4 (show g < w3.heap.size from HQ.out.symm ▸ HGQ.out)); have HRUN := Lib.hid hrun; have HO5 := Lib.hid hown; have HB5 : Hid (Below q w3 w5) := (Below.refl _ _).drew.trans ((show Below q w3.drew w4 from HQ.out ▸ hb4).trans hb5); obtain ⟨d0, d1, d2, d3, d4, d5, d6⟩ := (Box.below (w := w3.drew) HN3.out hb4 HN3.out.lt).cells; obtain ⟨e0, e1, e2, e3, e4, e5, e6⟩ := (HN3.out.below HB5.out (HQ.out ▸ HN3.out.lt)).cells; clear hg4 hblk4 hb4 hrun hown hb5)
      | (refine step_app rfl (.tmp 14) (.tmp 16) 27 rfl rfl rfl HRUN.out ?_))
  clear d0 d1 d2 d3 d4 d5 d6 e0 e1 e2 e3 e4 e5 e6 c0 c1 c2 c3 c4 c5 c6 HHD HRUN
  have HSF : Hid (w5.ownsRow q 5 1 V (64 + 64 * 0) (enc (soFar F R 0))) := (by have := HO5.out; show World.ownsRow _ _ _ _ _ _ _; simpa [soFar, tags] using this)
  have HLE2 : Hid (L = soFar F R m) := HLE.out
  have HPQ : Hid (p < q) := HQ.out ▸ HN3.out.lt
  clear HO5 HLE
  have HLOOP : Hid (m = 0 ∧ N = 28 ∨ ¬ N = 28 ∧ 0 < m) := by
    have := HNM.out
    show _ ∨ _
    omega
  have HA0 : Hid (∃ A0 : Option Addr, RestAt m A0 g (28 + 63 * 0) ∧ (N = 28 ∧ A0 = some ⟨g, 0, none⟩ ∨ ¬ N = 28 ∧ A0 = some ⟨g, 28, none⟩)) := by
    rcases HLOOP.out with ⟨h1, h2⟩ | ⟨h1, h2⟩
    · exact ⟨some ⟨g, 0, none⟩, fun h => (by omega), .inl ⟨h2, rfl⟩⟩
    · exact ⟨some ⟨g, 28, none⟩, fun _ => rfl, .inr ⟨h1, rfl⟩⟩
  obtain ⟨A0, hA1, hA2⟩ := HA0.out
  have HA1 := Lib.hid hA1
  obtain ⟨M, hM⟩ : ∃ M, N - 28 = M := ⟨_, rfl⟩
  have HM1 : Hid (M = 63 * m) := by have := HNM.out; show _ = _; omega
  have HM2 := Lib.hid hM
  clear hA1 HA0 HLOOP
  rcases hA2 with ⟨hN, hA2⟩ | ⟨hN, hA2⟩
  all_goals
    first
      | (subst hN; subst hA2; obtain rfl : M = 0 := by omega)
      | subst hA2
    go_wp2
    try rw [HM2.out]
    clear hM
    go_loopg [5, 6] m (fun gk s5 s6 wx => ∃ (i K : Nat) (V' : Value) (A' : Option Addr), i + gk = m ∧ V' = s5 ∧ s6 = .slice A' K K ∧ Hid (K = 63 * gk) ∧ Hid (RestAt gk A' g (28 + 63 * i)) ∧ Hid (wx.ownsRow q 5 1 V' (64 + 64 * i) (enc (soFar F R i))) ∧ Hid (Below q w3 wx))
    case atStart => exact ⟨0, _, V, _, by omega, rfl, rfl, HM1, HA1, HSF, HB5⟩
    case round =>
      obtain ⟨i, K, V', A', hik, rfl, rfl, HK, HA, HO, HW⟩ := hrel
      cases gk with
      | zero =>
        obtain rfl : i = m := by omega
        obtain rfl : K = 0 := HK.out
        go_wp2
        go_ret2
        refine ⟨V', rfl, ?_, ?_⟩
        · rw [HLE2.out, soFar_len HFL.out (by rw [HRL.out]; have := HNM.out; omega)]
          exact own_mono HO.out (by have h1 := HPQ.out; omega)
        · have h1 := HPQ.out
          rw [hp]
          exact HB3.out.trans (HW.out.mono (by omega))
      | succ gk =>
        obtain rfl := HA.out (by omega)
        have hKe : K = 63 * (gk + 1) := HK.out
        have hRi : 28 + 63 * i + 63 ≤ R.length := by rw [HRL.out]; have := HNM.out; omega
        have hsl : (soFar F R i).length = 64 + 64 * i := soFar_len HFL.out (by omega)
        obtain ⟨V1, x1, V2, x2, hr1, hr2, hown, hbel⟩ := app_line (w := wr) (q := q) (g := g) (a := 28 + 63 * i) (k := K) (V := V') (R := R) (l := soFar F R i) (by rw [HRL.out]; omega) hRi (by omega) HGQ.out (Nat.le_trans (Nat.le_of_eq HQ.out.symm) HW.out.size) (by rw [hsl]; exact HO.out) (Blk.below HK3.out HW.out HGQ.out)
        rw [soFar_next (by omega), hsl] at hown
        have HR1 := Lib.hid hr1
        have HR2 := Lib.hid hr2
        have HO2 : Hid (x2.ownsRow q 5 1 V2 (64 + 64 * (i + 1)) (enc (soFar F R (i + 1)))) := hown
        have HW2 : Hid (Below q w3 x2) := HW.out.trans hbel
        have hK1 : 0 < K := by omega
        have hK2 : 63 ≤ K := by omega
        have hK3 : K ≤ 469 := by omega
        have hK4 : (63 : Int) ≤ (K : Int) := by omega
        obtain ⟨K2, hK5⟩ : ∃ K2, K - 63 = K2 := ⟨_, rfl⟩
        have HK5 := Lib.hid hK5
        have HKN : Hid (K2 = 63 * gk) := by show _ = _; omega
        rcases Classical.em (K = 63) with hKK | hKK
        · obtain rfl : gk = 0 := by omega
          obtain rfl : K2 = 0 := by omega
          subst hKK
          clear hKe hRi hsl hr1 hr2 hown hbel hK5 hK1 hK2 hK3 hK4
          go_wp2_with (first | (at_builtin; refine wpList_app rfl (.tmp 25) (.tmp 26) 27 rfl rfl rfl HR1.out ?_) | (at_builtin; refine wpList_app rfl (.tmp 28) (.tmp 30) 27 rfl rfl rfl HR2.out ?_))
          go_roundg 0
          case measure => omega
          case rel => exact ⟨i + 1, 0, V2, _, by omega, rfl, rfl, rfl, fun h => absurd h (by omega), HO2, HW2⟩
        · have hgk : 0 < gk := by omega
          clear hKe hRi hsl hr1 hr2 hown hbel hK5
          go_wp2_with (first | (at_builtin; refine wpList_app rfl (.tmp 25) (.tmp 26) 27 rfl rfl rfl HR1.out ?_) | (at_builtin; refine wpList_app rfl (.tmp 28) (.tmp 30) 27 rfl rfl rfl HR2.out ?_))
          rw [HK5.out]
          go_roundg gk
          case measure => omega
          case rel => exact ⟨i + 1, K2, V2, _, by omega, rfl, rfl, HKN, fun _ => (by rw [show 28 + 63 * i + 63 = 28 + 63 * (i + 1) by omega]), HO2, HW2⟩

end Go.Proofs.Ytokobelmoanneaa
