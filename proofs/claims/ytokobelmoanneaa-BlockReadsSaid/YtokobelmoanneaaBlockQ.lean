/-
    Proved here: what chapter 6's own Lines answers.
  Conditions: a block that may be.
-/
import Derived.Test.YtokobelmoanneaaBlockP
namespace Go.Proofs.Ytokobelmoanneaa
open Go Go.RowKit

/-- A row written out, put behind a row. -/
theorem lit_join {W : World} {q : Nat} {V : Value} {l : List UInt8} (k : List UInt8) (ho : W.ownsRow q 5 1 V l.length (enc l)) (hq : q ≤ W.heap.size) (hl : l.length + k.length ≤ 1000) :
    ∃ V' W', (Builtin.append_ #[27, 27] 27 #[V, .slice (some ⟨W.heap.size, 0, none⟩) k.length k.length]).run Try.prog (W.alloc (.cells (enc k).toArray 5)) = .ok V' W' ∧ W'.ownsRow q 5 1 V' (l ++ k).length (enc (l ++ k)) ∧ Below q W W' := by
  have hb : Below W.heap.size W (W.alloc (.cells (enc k).toArray 5)) := (Below.refl _ _).alloc (Nat.le_refl _) _
  obtain ⟨V', W', h1, h2, h3⟩ := own_join (cap := k.length) (own_keep ho hb) (Nat.le_trans hq hb.size) (row_lit W k (by omega)) rfl hl
  exact ⟨V', W', h1, h2, (hb.mono hq).trans h3⟩
theorem head_parts (b : BV) : (((((head4 b ++ lay 2 b.val.size) ++ [0, 0]) ++ lay 8 b.id) ++ lay 8 b.ver) ++ lay 8 b.ep) = headL b := by
  rw [headL, V_len]
  simp [head4]
/-- The lines ahead of line k, and how much of the data they have. -/
def upTo6 (F R : List UInt8) : Nat → List UInt8
  | 0 => F
  | k + 1 => soFar F R k
def atOf : Nat → Nat
  | 0 => 0
  | k + 1 => 28 + 63 * k
/-- Where line k begins to be filled, behind its tag. -/
def preOf (F R : List UInt8) : Nat → List UInt8
  | 0 => F
  | k + 1 => soFar F R k ++ [2]
def cntOf : Nat → Nat
  | 0 => 28
  | _ + 1 => 63
theorem at_next (k : Nat) : atOf k + cntOf k = atOf (k + 1) := by cases k <;> simp [atOf, cntOf] <;> omega
theorem pre_end (F R : List UInt8) (k : Nat) (h : atOf (k + 1) ≤ R.length) : preOf F R k ++ (R.drop (atOf k)).take (cntOf k) = upTo6 F R (k + 1) := by
  cases k with
  | zero => simp [preOf, atOf, cntOf, upTo6, soFar, tags]
  | succ k =>
    have := soFar_next (F := F) (R := R) (i := k) (by simp [atOf] at h; omega)
    simp only [preOf, atOf, cntOf, upTo6, ← this, List.append_assoc, List.cons_append, List.nil_append]
theorem upTo6_len {F R : List UInt8} (hF : F.length = 36) (k : Nat) (h : atOf k ≤ R.length) : (upTo6 F R k).length = if k = 0 then 36 else 64 * k := by
  cases k with
  | zero => exact hF
  | succ k =>
    simp only [atOf] at h
    rw [upTo6, soFar_len hF h, if_neg (by omega)]
    omega
theorem preOf_len {F R : List UInt8} (hF : F.length = 36) (k : Nat) (h : atOf k ≤ R.length) : (preOf F R k).length + cntOf k = 64 * (k + 1) := by
  cases k with
  | zero => simp [preOf, cntOf, hF]
  | succ k =>
    simp only [atOf] at h
    simp only [preOf, cntOf, List.length_append, soFar_len hF h, List.length_cons, List.length_nil]
    omega
theorem pre_snoc (P R : List UInt8) (a j : Nat) (h : a + j < R.length) : P ++ (R.drop a).take (j + 1) = (P ++ (R.drop a).take j) ++ [R.getD (a + j) 0] := by
  rw [List.append_assoc, List.take_succ_eq_append_getElem (by rw [List.length_drop]; omega), List.getElem_drop]
  simp [List.getD, List.getElem?_eq_getElem h]
/-- One byte put behind a row: the new row written out. -/
theorem app_byte {W : World} {q g n cap : Nat} {l : List UInt8} (x : UInt8) (hl : l.length = n) (hn : n ≤ 1000) (ho : W.ownsRow q 5 1 (.slice (some ⟨g, 0, none⟩) n cap) n (enc l)) (hq : q ≤ W.heap.size) :
    ∃ g' cap' W', (Builtin.append_ #[27, 27] 27 #[.slice (some ⟨g, 0, none⟩) n cap, .slice (some ⟨W.heap.size, 0, none⟩) 1 1]).run Try.prog (W.alloc (.cells #[.int .u8 (x.toNat : Nat)] 5)) = .ok (.slice (some ⟨g', 0, none⟩) (n + 1) cap') W' ∧ W'.ownsRow q 5 1 (.slice (some ⟨g', 0, none⟩) (n + 1) cap') (n + 1) (enc (l ++ [x])) ∧ Below q W W' := by
  obtain ⟨V', W', h1, h2, h3⟩ := run_app_one W q _ l x (by rw [hl]; exact ho) (by omega) hq
  rw [hl] at h2
  obtain ⟨g', cap', rfl, _⟩ := own_form h2 (by omega) (by omega)
  exact ⟨g', cap', W', h1, h2, h3⟩
set_option maxHeartbeats 8000000 in
set_option maxRecDepth 100000 in
theorem rlines_any (b : BV) (ho : b.ok) (hm : mayB b = true) (w : World) : Calls Try.prog 36 #[b.agg] w (RowTo w (linesL b)) := by
  obtain ⟨hks, hvs, _⟩ := mayB_sizes hm
  have hcl := mayB_cl hm
  have hkd := mayB_kd hm
  have hrn := restN_le b.cl
  have HRL := Lib.hid (roomL_len hm)
  have HDL := Lib.hid (dataL_len b)
  have HDE := Lib.hid (data_le hm)
  have HRD : Hid (roomL b = dataL b ++ List.replicate (28 + 63 * restN b.cl - (dataL b).length) 0) := rfl
  have HDD : Hid ((b.key ++ b.val).data.toList = dataL b) := app_data b.key b.val
  have HCAP := Lib.hid (fun W => rcap_any b.cl W)
  have HSPN := Lib.hid (fun W => rspan_any b.cl W)
  rw [capN_rest hcl] at HCAP
  rw [spanN_rest hcl] at HSPN
  have HLY := Lib.hid (fun W => rlay_any 2 b.val.size (by omega) (by omega) W)
  have HL1 := Lib.hid (fun W => rlay_any 8 b.id (by omega) ho.id W)
  have HL2 := Lib.hid (fun W => rlay_any 8 b.ver (by omega) ho.ver W)
  have HL3 := Lib.hid (fun W => rlay_any 8 b.ep (by omega) ho.ep W)
  have HN := Lib.hid (box_new w b)
  have HHL := Lib.hid (headL_len b)
  have HHP := Lib.hid (head_parts b)
  have hlt := linesL_eq b
  rw [← List.append_assoc, ← List.append_assoc] at hlt
  have hsl : addS 0 (headL b ++ roomL b) < 4294967296 := addS_lt (by omega)
  have HTX := Lib.hid (fun (T : ByteArray) (hT : T.data.toList = headL b ++ roomL b) (hs : T.size ≤ 1073741824) W => (by have := rtext_any T hs W; rw [hT] at this; exact this : Calls Try.prog 52 #[.string T] W fun e w' => e = .returned (.int .u32 (addS 0 (headL b ++ roomL b) : Nat)) ∧ W = w'))
  have HL4 := Lib.hid (fun W => rlay_any 4 (addS 0 (headL b ++ roomL b)) (by omega) (by omega) W)
  have HLE := Lib.hid hlt
  have u1 : IntKind.u8.wrap b.cl = b.cl := by show b.cl % 256 = _; omega
  have u2 : IntKind.u8.wrap b.kd = b.kd := by show b.kd % 256 = _; omega
  have H4 : Hid (∀ W : World, (W.alloc (.cells #[.int .u8 1, .int .u8 b.cl, .int .u8 b.kd, .int .u8 (b.key.size : Nat)] 5)).ownsRow W.heap.size 5 1 (.slice (some ⟨W.heap.size, 0, none⟩) 4 4) (head4 b).length (enc (head4 b))) := fun W => by
    have h1 := own_lit W (head4 b) (by simp [head4])
    have e : (enc (head4 b)).toArray = #[.int .u8 1, .int .u8 b.cl, .int .u8 b.kd, .int .u8 (b.key.size : Nat)] := by
      simp only [head4, enc, List.map_cons, List.map_nil]
      rw [byte_toNat (by omega), byte_toNat (by omega), byte_toNat (by rw [K_len]; omega), K_len]
      rw [show ((b.cl.toNat : Nat) : Int) = b.cl by omega, show ((b.kd.toNat : Nat) : Int) = b.kd by omega]
      rfl
    rw [e] at h1
    exact h1
  have H4L : Hid ((head4 b).length = 4) := rfl
  obtain ⟨p, hp⟩ : ∃ p, w.heap.size = p := ⟨_, rfl⟩
  have HP := Lib.hid hp
  rw [BV.agg]
  obtain ⟨w0, hw0⟩ : ∃ w0, w.alloc (.cells #[.int .i64 b.cl, .int .i64 b.kd, .int .u64 (b.id : Nat), .int .u64 (b.ver : Nat), .int .u64 (b.ep : Nat), .string b.key, .string b.val] 24) = w0 := ⟨_, rfl⟩
  rw [hw0, hp] at HN
  have HB0 : Hid (Below p w w0) := (by rw [← hp, ← hw0]; exact (Below.refl _ _).alloc (Nat.le_refl _) _)
  obtain ⟨q, hq⟩ : ∃ q, w0.heap.size = q := ⟨_, rfl⟩
  have HPQ : Hid (p < q) := hq ▸ HN.out.lt
  obtain ⟨w1, hw1⟩ : ∃ w1, w0.alloc (.cells #[.int .u8 1, .int .u8 b.cl, .int .u8 b.kd, .int .u8 (b.key.size : Nat)] 5) = w1 := ⟨_, rfl⟩
  have HO1 := Lib.hid (H4.out w0)
  rw [hq, hw1] at HO1
  have HX1 : Hid (Below q w0 w1) := (by rw [← hq, ← hw1]; exact (Below.refl _ _).alloc (Nat.le_refl _) _)
  have HQ1 : Hid (q ≤ w1.heap.size) := (by have := HX1.out.size; rw [hq] at this; exact this)
  generalize headL b = F32 at *
  generalize head4 b = F4 at *
  generalize dataL b = D at *
  generalize roomL b = R at *
  generalize linesL b = L at *
  generalize restN b.cl = m at *
  obtain ⟨cl, kd, id, ver, ep, key, val⟩ := b
  simp only at *
  clear H4 hm ho hlt hcl hkd
  obtain ⟨c0, c1, c2, c3, c4, c5, c6⟩ := HN.out.cells
  obtain ⟨e0, e1, e2, e3, e4, e5, e6⟩ := (HN.out.below HX1.out HPQ.out).cells
  go_enter Try.func36, Try.ntmps36
  go_wp2_with fail
  refine (HLY.out _).mono ?_
  rintro e v1 ⟨V1, rfl, hown, hb⟩
  obtain ⟨V2, w2, hrun, hown2, hb2⟩ := lay_join HO1.out HQ1.out hb hown (by omega) (by rw [H4L.out]; omega)
  have HRUN2 := Lib.hid hrun
  have HO2 := Lib.hid hown2
  have HX2 : Hid (Below q w0 w2) := HX1.out.trans hb2
  have HQ2 : Hid (q ≤ w2.heap.size) := Nat.le_trans HQ1.out hb2.size
  clear hown hb hrun hown2 hb2 c0 c1 c2 c3 c4 c5 c6 e0 e1 e2 e3 e4 e5 e6
  obtain ⟨c0, c1, c2, c3, c4, c5, c6⟩ := (HN.out.below HX2.out HPQ.out).cells
  have HLN2 : Hid ((F4 ++ lay 2 val.size).length = 6) := (by show _ = _; rw [List.length_append, H4L.out, lay_len])
  obtain ⟨V3, w3, hrun3, hown3, hb3⟩ := lit_join [0, 0] HO2.out HQ2.out (by rw [HLN2.out]; decide)
  have HRUN3 : Hid ((Builtin.append_ #[27, 27] 27 #[V2, .slice (some ⟨w2.heap.size, 0, none⟩) 2 2]).run Try.prog (w2.alloc (.cells #[.int .u8 0, .int .u8 0] 5)) = .ok V3 w3) := hrun3
  have HO3 := Lib.hid hown3
  have HX3 : Hid (Below q w0 w3) := HX2.out.trans hb3
  have HQ3 : Hid (q ≤ w3.heap.size) := Nat.le_trans HQ2.out hb3.size
  have HLN3 : Hid ((F4 ++ lay 2 val.size ++ [0, 0]).length = 8) := (by show _ = _; rw [List.length_append, HLN2.out]; rfl)
  clear hrun3 hown3 hb3 c0 c1 c2 c3 c4 c5 c6
  obtain ⟨c0, c1, c2, c3, c4, c5, c6⟩ := (HN.out.below HX3.out HPQ.out).cells
  obtain ⟨d0, d1, d2, d3, d4, d5, d6⟩ := (HN.out.below HX2.out HPQ.out).cells
  go_wp2_with (first
    | ((with_reducible show wpList _ _ _ (⟨some 27, _, _, _, _, _⟩ :: _) _ _); at_builtin; refine wpList_app (o := ⟨some 27, _, _, _, _, _⟩) rfl (.tmp 21) (.tmp 26) 27 rfl rfl rfl HRUN2.out ?_)
    | ((with_reducible show wpList _ _ _ (⟨some 30, _, _, _, _, _⟩ :: _) _ _); at_builtin; refine wpList_app (o := ⟨some 30, _, _, _, _, _⟩) rfl (.tmp 28) (.tmp 29) 27 rfl rfl rfl HRUN3.out ?_))
  refine (HL1.out _).mono ?_
  rintro e v3 ⟨V1, rfl, hown, hb⟩
  obtain ⟨V4, w4, hrun, hown2, hb2⟩ := lay_join HO3.out HQ3.out hb hown (by omega) (by rw [HLN3.out]; omega)
  have HRUN4 := Lib.hid hrun
  have HO4 := Lib.hid hown2
  have HX4 : Hid (Below q w0 w4) := HX3.out.trans hb2
  have HQ4 : Hid (q ≤ w4.heap.size) := Nat.le_trans HQ3.out hb2.size
  clear hown hb hrun hown2 hb2 d0 d1 d2 d3 d4 d5 d6 c0 c1 c2 c3 c4 c5 c6
  obtain ⟨c0, c1, c2, c3, c4, c5, c6⟩ := (HN.out.below HX4.out HPQ.out).cells
  have HLN4 : Hid ((F4 ++ lay 2 val.size ++ [0, 0] ++ lay 8 id).length = 16) := (by show _ = _; rw [List.length_append, HLN3.out, lay_len])
  go_wp2_with (first
    | ((with_reducible show wpList _ _ _ (⟨some 35, _, _, _, _, _⟩ :: _) _ _); at_builtin; refine wpList_app (o := ⟨some 35, _, _, _, _, _⟩) rfl (.tmp 31) (.tmp 34) 27 rfl rfl rfl HRUN4.out ?_))
  refine (HL2.out _).mono ?_
  rintro e v4 ⟨V1, rfl, hown, hb⟩
  obtain ⟨V5, w5, hrun, hown2, hb2⟩ := lay_join HO4.out HQ4.out hb hown (by omega) (by rw [HLN4.out]; omega)
  have HRUN5 := Lib.hid hrun
  have HO5 := Lib.hid hown2
  have HX5 : Hid (Below q w0 w5) := HX4.out.trans hb2
  have HQ5 : Hid (q ≤ w5.heap.size) := Nat.le_trans HQ4.out hb2.size
  clear hown hb hrun hown2 hb2 c0 c1 c2 c3 c4 c5 c6
  obtain ⟨c0, c1, c2, c3, c4, c5, c6⟩ := (HN.out.below HX5.out HPQ.out).cells
  have HLN5 : Hid ((F4 ++ lay 2 val.size ++ [0, 0] ++ lay 8 id ++ lay 8 ver).length = 24) := (by show _ = _; rw [List.length_append, HLN4.out, lay_len])
  go_wp2_with (first
    | ((with_reducible show wpList _ _ _ (⟨some 40, _, _, _, _, _⟩ :: _) _ _); at_builtin; refine wpList_app (o := ⟨some 40, _, _, _, _, _⟩) rfl (.tmp 36) (.tmp 39) 27 rfl rfl rfl HRUN5.out ?_))
  refine (HL3.out _).mono ?_
  rintro e v5 ⟨V1, rfl, hown, hb⟩
  obtain ⟨V6, w6, hrun, hown2, hb2⟩ := lay_join HO5.out HQ5.out hb hown (by omega) (by rw [HLN5.out]; omega)
  have HRUN6 := Lib.hid hrun
  have HO6 := Lib.hid hown2
  have HX6 : Hid (Below q w0 w6) := HX5.out.trans hb2
  have HQ6 : Hid (q ≤ w6.heap.size) := Nat.le_trans HQ5.out hb2.size
  clear hown hb hrun hown2 hb2 c0 c1 c2 c3 c4 c5 c6
  obtain ⟨c0, c1, c2, c3, c4, c5, c6⟩ := (HN.out.below HX6.out HPQ.out).cells
  rw [HHP.out] at HO6
  obtain ⟨g6, cap6, hV6, hcap6, hgp6, hgl6, hrow6⟩ := own_form HO6.out (by rw [HHL.out]; omega) (by rw [HHL.out]; omega)
  subst hV6
  have hconv := run_conv w6 (some ⟨g6, 0, none⟩) F32.length cap6 F32 rfl hrow6
  rw [HHL.out] at hconv
  have HV6 : Hid (F32.length = 32) := HHL
  clear hrow6 hgp6 hgl6
  clear HLN2 HLN3 HLN4 HLN5 HO1 HO2 HO3 HO4 HO5
  go_wp2_with (first
    | ((with_reducible show wpList _ _ _ (⟨some 45, _, _, _, _, _⟩ :: _) _ _); at_builtin; refine wpList_app (o := ⟨some 45, _, _, _, _, _⟩) rfl (.tmp 41) (.tmp 44) 27 rfl rfl rfl HRUN6.out ?_))
  obtain ⟨N, hN⟩ : ∃ N, 28 + 63 * m = N := ⟨_, rfl⟩
  have HNM := Lib.hid hN
  rw [hN] at HCAP HRL HDE HRD
  have hN2 : N ≤ 469 := by omega
  obtain ⟨S0, hS0⟩ : ∃ S0, key ++ val = S0 := ⟨_, rfl⟩
  rw [hS0] at HDD ⊢
  obtain ⟨FB, hFB⟩ : ∃ FB : ByteArray, (⟨F32.toArray⟩ : ByteArray) = FB := ⟨_, rfl⟩
  rw [hFB] at hconv
  have HFB : Hid (FB.data.toList = F32) := (by show _ = _; rw [← hFB])
  have hfs : FB.size ≤ 32 := by rw [show FB.size = FB.data.toList.length from rfl, HFB.out, HHL.out]; omega
  generalize addS 0 (F32 ++ R) = c at *
  rw [HHL.out] at HO6 ⊢
  clear hN hS0 hFB
  go_loopg [5] (N - D.length) (fun gk s5 wx => ∃ (j zn : Nat) (Z : ByteArray), j + gk = N - D.length ∧ s5 = .string Z ∧ Hid (Z.data.toList = D ++ List.replicate j 0) ∧ Hid (Z.size = zn) ∧ Hid (zn = D.length + j) ∧ w6 = wx)
  case atStart => exact ⟨0, S0.size, S0, by omega, rfl, (by show _ = _; rw [HDD.out]; simp), rfl, (by show _ = _; rw [← HDD.out]; rfl), rfl⟩
  case round =>
    obtain ⟨j, zn, Z, hjg, rfl, HZ, HZN, HZJ, rfl⟩ := hrel
    cases gk with
    | zero =>
      have hzn : zn = N := by have := HZJ.out; have := HDE.out; omega
      have hlt : ¬ (Z.size : Int) < (N : Int) := by have := HZN.out; omega
      have HZR : Hid (Z.data.toList = R) := (by show _ = _; rw [HZ.out, HRD.out, show j = N - D.length by omega])
      have hzs : Z.size ≤ 469 := by have := HZN.out; omega
      clear hzn HZ HZJ
      have HTT := Lib.hid (HTX.out (FB ++ Z) (by rw [app_data, HFB.out, HZR.out]) (by rw [show (FB ++ Z).size = (FB ++ Z).data.toList.length from rfl, app_data, List.length_append, HFB.out, HZR.out, HHL.out, HRL.out]; omega) w6)
      go_wp2_with fail
      refine (HCAP.out _).mono ?_
      rintro e w' ⟨rfl, rfl⟩
      go_wp2_with fail
      refine HTT.out.mono ?_
      rintro e w' ⟨rfl, rfl⟩
      go_wp2_with fail
      refine (HL4.out _).mono ?_
      rintro e v7 ⟨V1, rfl, hown, hb⟩
      obtain ⟨V7, w7, hrun, hown2, hb2⟩ := lay_join (by rw [HHL.out]; exact HO6.out) HQ6.out hb hown (by omega) (by rw [HHL.out]; omega)
      have HRUN7 := Lib.hid hrun
      have HX7 : Hid (Below q w0 w7) := HX6.out.trans hb2
      have HQ7 : Hid (q ≤ w7.heap.size) := Nat.le_trans HQ6.out hb2.size
      obtain ⟨F, hF⟩ : ∃ F, F32 ++ lay 4 c = F := ⟨_, rfl⟩
      rw [hF] at hown2 HLE
      have HFL : Hid (F.length = 36) := (by show _ = _; rw [← hF, List.length_append, HHL.out, lay_len])
      rw [HFL.out] at hown2
      obtain ⟨g7, cap7, hV7, hcap7, _, _, _⟩ := own_form hown2 (by omega) (by omega)
      subst hV7
      have HO7 := Lib.hid hown2
      clear hown hb hrun hown2 hb2 hF
      go_wp2_with (first
        | ((with_reducible show wpList _ _ _ (⟨some 69, _, _, _, _, _⟩ :: _) _ _); at_builtin; refine wpList_app (o := ⟨some 69, _, _, _, _, _⟩) rfl (.tmp 65) (.tmp 68) 27 rfl rfl rfl HRUN7.out ?_))
      have HSD : Hid (S0.data.toList = D) := HDD
      have HSS : Hid (S0.size = D.length) := (by show _ = _; rw [← HSD.out]; rfl)
      have hm8 : m ≤ 7 := hrn
      clear hconv HTX HL4 HCAP HTT HLY HL1 HL2 HL3
      go_loopg [7, 8, 9] (m + 1) (fun gk s7 s8 s9 wx => ∃ (k LL A gx cx : Nat), k + gk = m + 1 ∧ s9 = .int .i64 k ∧ s8 = .int .i64 A ∧ Hid (A = atOf k) ∧ s7 = .slice (some ⟨gx, 0, none⟩) LL cx ∧ Hid (LL = (upTo6 F R k).length) ∧ Hid (wx.ownsRow q 5 1 (.slice (some ⟨gx, 0, none⟩) LL cx) LL (enc (upTo6 F R k))) ∧ Hid (Below q w7 wx))
      case atStart => exact ⟨0, 36, 0, g7, cap7, by omega, rfl, rfl, rfl, rfl, HFL.out.symm, HO7, Below.refl _ _⟩
      case round =>
        obtain ⟨k, LL, A, gx, cx, hkg, rfl, rfl, HA, rfl, HLL, HO, HW⟩ := hrel
        obtain ⟨c0, c1, c2, c3, c4, c5, c6⟩ := (HN.out.below (HX7.out.trans HW.out) HPQ.out).cells
        have hkm : k ≤ m + 1 := by omega
        have HAR : Hid (∀ i, i ≤ m + 1 → atOf i ≤ R.length) := (by
          intro i hi
          rw [HRL.out, ← HNM.out]
          cases i <;> simp only [atOf] <;> omega)
        cases gk with
        | zero =>
          obtain rfl : k = m + 1 := by omega
          have hlt : ¬ ((m + 1 : Nat) : Int) < ((m + 1 : Nat) : Int) := by omega
          go_wp2_with fail
          refine (HSPN.out _).mono ?_
          rintro e w' ⟨rfl, rfl⟩
          go_wp2
          go_ret
          have hL : L = upTo6 F R (m + 1) := HLE.out
          refine ⟨_, rfl, ?_, ?_⟩
          · rw [hL, ← HLL.out, HP.out]
            exact own_mono HO.out (Nat.le_of_lt HPQ.out)
          · rw [HP.out]
            exact HB0.out.trans ((HX7.out.trans HW.out).mono (Nat.le_of_lt HPQ.out))
        | succ go =>
          have hlt : (k : Int) < ((m + 1 : Nat) : Int) := by omega
          have hk74 : decide ((k : Int) < (m : Int) + 1) = true := by simp; omega
          have hqw : q ≤ wr.heap.size := Nat.le_trans HQ7.out HW.out.size
          have hLLn := upTo6_len (R := R) HFL.out k (HAR.out k (by omega))
          rw [← HLL.out] at hLLn
          have hLL5 : LL ≤ 512 := by split at hLLn <;> omega
          have HUL := Lib.hid HLL.out.symm
          obtain ⟨gy, cy, wy, LY, hpart⟩ : ∃ (gy cy : Nat) (wy : World) (LY : Nat), (k = 0 ∧ gy = gx ∧ cy = cx ∧ wy = wr ∧ LY = LL ∨ 0 < k ∧ LY = LL + 1 ∧ (Builtin.append_ #[27, 27] 27 #[.slice (some ⟨gx, 0, none⟩) LL cx, .slice (some ⟨wr.heap.size, 0, none⟩) 1 1]).run Try.prog (wr.alloc (.cells #[.int .u8 2] 5)) = .ok (.slice (some ⟨gy, 0, none⟩) (LL + 1) cy) wy) ∧ wy.ownsRow q 5 1 (.slice (some ⟨gy, 0, none⟩) LY cy) LY (enc (preOf F R k)) ∧ Below q w7 wy ∧ (preOf F R k).length = LY := by
            rcases Nat.eq_zero_or_pos k with h0 | h0
            · subst h0
              exact ⟨gx, cx, wr, LL, .inl ⟨rfl, rfl, rfl, rfl, rfl⟩, HO.out, HW.out, HUL.out⟩
            · obtain ⟨g', c', W', h1, h2, h3⟩ := app_byte 2 HUL.out (by omega) HO.out hqw
              refine ⟨g', c', W', LL + 1, .inr ⟨h0, rfl, h1⟩, ?_, HW.out.trans h3, ?_⟩
              · cases k with
                | zero => omega
                | succ k => exact h2
              · cases k with
                | zero => omega
                | succ k =>
                  have := HUL.out
                  simp only [preOf, List.length_append, List.length_cons, List.length_nil]
                  simp only [upTo6] at this
                  omega
          obtain ⟨hways, hoy, hwy, hpl⟩ := hpart
          have HOY := Lib.hid hoy
          have HWY := Lib.hid hwy
          have HPL := Lib.hid hpl
          have HCNT := Lib.hid (preOf_len (R := R) HFL.out k (HAR.out k (by omega)))
          have HPE := Lib.hid (pre_end F R k (HAR.out (k + 1) (by omega)))
          have HAN := Lib.hid (at_next k)
          have HAE := Lib.hid (HAR.out (k + 1) (by omega))
          have HUN : Hid (64 * (k + 1) = (upTo6 F R (k + 1)).length) := (by
            have := upTo6_len (R := R) HFL.out (k + 1) (HAR.out (k + 1) (by omega))
            rw [if_neg (by omega)] at this
            exact this.symm)
          generalize preOf F R k = P at *
          generalize cntOf k = cnt at *
          clear hoy hwy hpl hLLn
          rcases hways with ⟨hk0, hgx, hcx, hwx, hly⟩ | ⟨hk0, hly, hrun⟩
          all_goals
            first
              | (subst hgx; subst hcx; subst hwx; subst hly; have hkd : decide (0 < k) = false := by simp; omega)
              | (subst hly; have HRN := Lib.hid hrun; have hkd : decide (0 < k) = true := by simp; omega)
            try clear hrun
            clear hk0
            go_wp2_with fail
            refine (HSPN.out _).mono ?_
            rintro e w' ⟨rfl, rfl⟩
            go_wp2_with (first | ((with_reducible show wpList _ _ _ (⟨some 81, _, _, _, _, _⟩ :: _) _ _); at_builtin; refine wpList_app (o := ⟨some 81, _, _, _, _, _⟩) rfl (.tmp 79) (.tmp 80) 27 rfl rfl rfl HRN.out ?_))
            go_loopg [7, 8] cnt (fun gi s7 s8 wx => ∃ (j LJ AJ gj cj : Nat), j + gi = cnt ∧ s8 = .int .i64 AJ ∧ Hid (AJ = A + j) ∧ s7 = .slice (some ⟨gj, 0, none⟩) LJ cj ∧ Hid (LJ = P.length + j) ∧ Hid (wx.ownsRow q 5 1 (.slice (some ⟨gj, 0, none⟩) LJ cj) LJ (enc (P ++ (R.drop A).take j))) ∧ Hid (Below q w7 wx))
            case atStart => exact ⟨0, _, A, _, _, by omega, rfl, rfl, rfl, (by have := HPL.out; show _ = _; omega), (by show World.ownsRow _ _ _ _ _ _ _; rw [List.take_zero, List.append_nil]; exact HOY.out), HWY⟩
            case round =>
              obtain ⟨j, LJ, AJ, gj, cj, hjg, rfl, HAJ, rfl, HLJ, HOJ, HWJ⟩ := hrel
              have hk7 : k ≤ 7 := by omega
              have hLJ : LJ = 64 * (k + 1) - gk := by have := HLJ.out; have := HCNT.out; omega
              have hLJ5 : LJ ≤ 512 := by omega
              have hAJ5 : AJ ≤ 469 := by have := HAJ.out; have := HA.out; have := HAN.out; have := HAE.out; have := HRL.out; omega
              cases gk with
              | zero =>
                have hlt3 : ¬ (LJ : Int) < 64 * ((k : Int) + 1) := by omega
                have HEND : Hid (LJ = (upTo6 F R (k + 1)).length) := (by have := HUN.out; show _ = _; omega)
                have HAEQ : Hid (AJ = atOf (k + 1)) := (by have := HAJ.out; have := HA.out; have := HAN.out; show _ = _; omega)
                obtain rfl : j = cnt := by omega
                have HOEQ : Hid (wr.ownsRow q 5 1 (.slice (some ⟨gj, 0, none⟩) LJ cj) LJ (enc (upTo6 F R (k + 1)))) := (by
                  have h1 := HOJ.out
                  have h2 := HPE.out
                  rw [← HA.out] at h2
                  rw [h2] at h1
                  exact h1)
                clear hLJ
                go_wp2
                go_roundg go
                case measure => omega
                case rel => exact ⟨k + 1, LJ, AJ, gj, cj, by omega, by go_num, rfl, HAEQ, rfl, HEND, HOEQ, HWJ⟩
              | succ gi =>
                have hlt3 : (LJ : Int) < 64 * ((k : Int) + 1) := by omega
                have hAR : A + j < R.length := by have := HA.out; have := HAN.out; have := HAE.out; omega
                have hqx : q ≤ wr.heap.size := Nat.le_trans HQ7.out HWJ.out.size
                have hpl2 : (P ++ (R.drop A).take j).length = LJ := by have := HLJ.out; rw [List.length_append, List.length_take, List.length_drop]; omega
                obtain ⟨x, hx⟩ : ∃ x, R.getD (A + j) 0 = x := ⟨_, rfl⟩
                obtain ⟨g', c', W', hr1, ho1, hb1⟩ := app_byte x hpl2 (by omega) HOJ.out hqx
                have HR1 := Lib.hid hr1
                have HO1' : Hid (W'.ownsRow q 5 1 (.slice (some ⟨g', 0, none⟩) (LJ + 1) c') (LJ + 1) (enc (P ++ (R.drop A).take (j + 1)))) := (by
                  have h1 := ho1
                  rw [← hx, ← pre_snoc P R A j hAR] at h1
                  exact h1)
                have HW' : Hid (Below q w7 W') := HWJ.out.trans hb1
                have HL' : Hid (LJ + 1 = P.length + (j + 1)) := (by have := HLJ.out; show _ = _; omega)
                have HA' : Hid (AJ + 1 = A + (j + 1)) := (by have := HAJ.out; show _ = _; omega)
                rcases Nat.lt_or_ge AJ S0.size with hsz | hsz
                · have hcd : (AJ : Int) < (S0.size : Int) := by omega
                  have hxe : S0[AJ] = x := by
                    rw [← hx, HRD.out, List.getD, List.getElem?_append_left (by have := HSS.out; have := HAJ.out; omega), ← HSD.out, ← HAJ.out]
                    rw [List.getElem?_eq_getElem (by have : S0.data.toList.length = S0.size := rfl; omega)]
                    rfl
                  have hxt : S0[AJ].toNat = x.toNat := by rw [hxe]
                  have hxl := UInt8.toNat_lt x
                  generalize x.toNat = xn at *
                  clear hr1 ho1 hb1 hx hxe hpl2 hLJ
                  go_wp2_with (first | ((with_reducible show wpList _ _ _ (⟨some 97, _, _, _, _, _⟩ :: _) _ _); at_builtin; refine wpList_app (o := ⟨some 97, _, _, _, _, _⟩) rfl (.tmp 92) (.tmp 96) 27 rfl rfl rfl HR1.out ?_))
                  go_roundg gi
                  case measure => omega
                  case rel => exact ⟨j + 1, LJ + 1, AJ + 1, g', c', by omega, by go_num, HA', rfl, HL', HO1', HW'⟩
                · have hcd : ¬ (AJ : Int) < (S0.size : Int) := by omega
                  have hxe : x = 0 := by
                    rw [← hx, HRD.out, List.getD, List.getElem?_append_right (by have := HSS.out; have := HAJ.out; omega), List.getElem?_replicate]
                    split <;> rfl
                  subst hxe
                  have HR2 : Hid ((Builtin.append_ #[27, 27] 27 #[.slice (some ⟨gj, 0, none⟩) LJ cj, .slice (some ⟨wr.heap.size, 0, none⟩) 1 1]).run Try.prog (wr.alloc (.cells #[.int .u8 0] 5)) = .ok (.slice (some ⟨g', 0, none⟩) (LJ + 1) c') W') := hr1
                  clear hr1 ho1 hb1 hx hpl2 hLJ
                  go_wp2_with (first | ((with_reducible show wpList _ _ _ (⟨some 100, _, _, _, _, _⟩ :: _) _ _); at_builtin; refine wpList_app (o := ⟨some 100, _, _, _, _, _⟩) rfl (.tmp 98) (.tmp 99) 27 rfl rfl rfl HR2.out ?_))
                  go_roundg gi
                  case measure => omega
                  case rel => exact ⟨j + 1, LJ + 1, AJ + 1, g', c', by omega, by go_num, HA', rfl, HL', HO1', HW'⟩
    | succ gk =>
      have hlt : (Z.size : Int) < (N : Int) := by have := HZN.out; have := HZJ.out; have := HDE.out; omega
      go_wp2_with fail
      refine (HCAP.out _).mono ?_
      rintro e w' ⟨rfl, rfl⟩
      go_wp2
      go_roundg gk
      case measure => omega
      case rel =>
        refine ⟨j + 1, zn + 1, _, by omega, rfl, ?_, ?_, ?_, rfl⟩
        · show _ = _
          rw [app_data, HZ.out, List.append_assoc, List.replicate_succ']
        · show _ = _
          rw [show ∀ T : ByteArray, T.size = T.data.toList.length from fun _ => rfl, app_data, List.length_append, show Z.data.toList.length = Z.size from rfl, HZN.out]
          rfl
        · have := HZJ.out
          show _ = _
          omega

end Go.Proofs.Ytokobelmoanneaa
