/-
  Proved here: the statements' own alike answers true of a device of the program's and one of the chapter's whose lines are alike, and leaves both.
  Conditions: devices of at most 258 lines.
-/
import Derived.Test.YtgfbehdnmdmnhaaOver3
import Derived.Deep.RegionHeld3
namespace Go.Proofs.Ytgfbehdnmdmnhaa
open Go Go.RowKit

theorem six_keep {w w' : World} {p q n cap : Nat} {ca cb cc cd ce : Int} (hb : Below w.heap.size w w') (h : w.cell? ⟨p, 0, none⟩ = some (.slice (some ⟨q, 0, none⟩) n cap) ∧ w.cell? ⟨p, 1, none⟩ = some (.int .i64 ca) ∧ w.cell? ⟨p, 2, none⟩ = some (.int .i64 cb) ∧ w.cell? ⟨p, 3, none⟩ = some (.int .i64 cc) ∧ w.cell? ⟨p, 4, none⟩ = some (.int .i64 cd) ∧ w.cell? ⟨p, 5, none⟩ = some (.int .i64 ce)) (hp : p < w.heap.size) :
    w'.cell? ⟨p, 0, none⟩ = some (.slice (some ⟨q, 0, none⟩) n cap) ∧ w'.cell? ⟨p, 1, none⟩ = some (.int .i64 ca) ∧ w'.cell? ⟨p, 2, none⟩ = some (.int .i64 cb) ∧ w'.cell? ⟨p, 3, none⟩ = some (.int .i64 cc) ∧ w'.cell? ⟨p, 4, none⟩ = some (.int .i64 cd) ∧ w'.cell? ⟨p, 5, none⟩ = some (.int .i64 ce) :=
  ⟨(hb.cell (p := ⟨p, 0, none⟩) hp).trans h.1, (hb.cell (p := ⟨p, 1, none⟩) hp).trans h.2.1, (hb.cell (p := ⟨p, 2, none⟩) hp).trans h.2.2.1, (hb.cell (p := ⟨p, 3, none⟩) hp).trans h.2.2.2.1, (hb.cell (p := ⟨p, 4, none⟩) hp).trans h.2.2.2.2.1, (hb.cell (p := ⟨p, 5, none⟩) hp).trans h.2.2.2.2.2⟩
theorem aggI5 (a b c d e : Int) : aggI [a, b, c, d, e] = .agg #[.int .i64 a, .int .i64 b, .int .i64 c, .int .i64 d, .int .i64 e] := rfl
theorem Dv.cells5 {T D : TypeId} {w : World} {p q : Nat} {st : List Cl} {cs : List Int} (h : Dv T D w p q st cs) : ∃ a b c d e, cs = [a, b, c, d, e] ∧ w.cell? ⟨p, 1, none⟩ = some (.int .i64 a) ∧ w.cell? ⟨p, 2, none⟩ = some (.int .i64 b) ∧ w.cell? ⟨p, 3, none⟩ = some (.int .i64 c) ∧ w.cell? ⟨p, 4, none⟩ = some (.int .i64 d) ∧ w.cell? ⟨p, 5, none⟩ = some (.int .i64 e) := by
  obtain ⟨a, b, c, d, e, rfl⟩ := five_of h.five
  exact ⟨a, b, c, d, e, rfl, (h.count 0 (by decide)).1, (h.count 1 (by decide)).1, (h.count 2 (by decide)).1, (h.count 3 (by decide)).1, (h.count 4 (by decide)).1⟩
theorem rload_at {w : World} {p q : Nat} {s : St} (h : DvT w p q s) (i : Nat) (hi : i < s.1.length) : Calls Try.prog 47 #[.pointer (some ⟨p, 0, none⟩), .int .i64 i] w (Loaded 76 w (clAt s.1 (i : Int)).v) := rload_ok h (clAt_some hi)
theorem rdurable_at {w : World} {p q : Nat} {s : St} (h : DvT w p q s) (i : Nat) (hi : i < s.1.length) : Calls Try.prog 48 #[.pointer (some ⟨p, 0, none⟩), .int .i64 i] w (Loaded 76 w (clAt s.1 (i : Int)).p) := rdurable_ok h (clAt_some hi)
theorem same_nil (w : World) : Calls Try.prog 25 #[.slice none 0 0, .slice none 0 0] w fun e w' => e = .returned (.bool true) ∧ w = w' := same_any w none none 0 0 0 0 [] [] rfl rfl (row_nil _ _) (row_nil _ _)
theorem same_arr {T U : TypeId} (w : World) (g h : Nat) (x : List UInt8) (hx : x.length = 64) (ha : Arr T w g x) (hb : Arr U w h x) : Calls Try.prog 25 #[.slice (some ⟨g, 0, none⟩) 64 64, .slice (some ⟨h, 0, none⟩) 64 64] w fun e w' => e = .returned (.bool true) ∧ w = w' := by
  have := same_any w (some ⟨g, 0, none⟩) (some ⟨h, 0, none⟩) 64 64 64 64 x x hx hx (ha.row (by omega)) (hb.row (by omega))
  rwa [show (x == x) = true by simp] at this
set_option maxHeartbeats 3200000 in
set_option maxRecDepth 100000 in
theorem alike_any {w : World} {p q p' q' : Nat} {s r : St} (h : DvS w p q s) (h' : DvT w p' q' r) (hs : Sim s r) :
    Calls Try.prog 17 #[.pointer (some ⟨p, 0, none⟩), .pointer (some ⟨p', 0, none⟩)] w fun e w' => e = .returned (.bool true) ∧ Below w.heap.size w w' := by
  have HD := Lib.hid h
  have HE := Lib.hid h'
  have HS := Lib.hid hs
  obtain ⟨n, hn⟩ : ∃ n, r.1.length = n := ⟨_, rfl⟩
  have HN := Lib.hid hn
  have HNS : Hid (s.1.length = n) := hs.len.trans hn
  have hn2 : n ≤ 258 := by have := h'.len; omega
  obtain ⟨B, hB⟩ : ∃ B, w.heap.size = B := ⟨_, rfl⟩
  have HBB := Lib.hid hB
  rw [hB]
  clear h h' hs hn hB
  go_enter Try.func17, Try.ntmps17
  go_wp2
  go_loopg [5] (n + 2) (fun gk s5 wx => ∃ (k : Nat) (x : Int), k + gk = n + 2 ∧ s5 = .int .i64 x ∧ Hid (x = (k : Int) - 1) ∧ Hid (DvS wx p q s) ∧ Hid (DvT wx p' q' r) ∧ Hid (Below B w wx))
  case atStart => exact ⟨0, -1, by omega, rfl, rfl, HD, HE, Below.refl _ _⟩
  case round =>
    obtain ⟨k, x, hkg, rfl, HX, HDr, HEr, HBr⟩ := hrel
    obtain ⟨cap, hsl, _⟩ := HEr.out.slice
    rw [HN.out] at hsl
    have HSZ : Hid (B ≤ wr.heap.size) := by have := HBr.out.size; have := HBB.out; show _ ≤ _; omega
    cases gk with
    | succ gk =>
      have hx1 : x ≤ (n : Int) := by have := HX.out; omega
      have hx0 : -1 ≤ x := by have := HX.out; omega
      cases hh : has s.1 x with
      | false =>
        have hh2 : has r.1 x = false := by rw [← HS.out.has]; exact hh
        have HL1 := Lib.hid (load_bad HDr.out x (has_false hh))
        have HL2 := Lib.hid (rload_bad HEr.out x hh2)
        have HL3 := Lib.hid (durable_bad HDr.out x (has_false hh))
        have HL4 := Lib.hid (rdurable_bad HEr.out x hh2)
        clear hh hh2
        go_wp2_with fail
        refine HL1.out.mono ?_
        rintro e w' ⟨rfl, rfl⟩
        go_wp2_with fail
        refine HL2.out.mono ?_
        rintro e w' ⟨rfl, rfl⟩
        go_wp2_with fail
        refine HL3.out.mono ?_
        rintro e w' ⟨rfl, rfl⟩
        go_wp2_with fail
        refine HL4.out.mono ?_
        rintro e w' ⟨rfl, rfl⟩
        go_wp2_with fail
        refine (same_nil wr).mono ?_
        rintro e w' ⟨rfl, rfl⟩
        go_wp2_with fail
        refine (num_any 2 wr).mono ?_
        rintro e w' ⟨rfl, rfl⟩
        go_wp2_with fail
        refine (same_nil wr).mono ?_
        rintro e w' ⟨rfl, rfl⟩
        go_wp2_with fail
        refine (num_any 2 wr).mono ?_
        rintro e w' ⟨rfl, rfl⟩
        go_wp2_with fail
        refine (over_nil wr wr.heap.size (Nat.le_refl _)).mono ?_
        rintro e v1 ⟨rfl, hb⟩
        have D1 := Lib.hid (HDr.out.below hb)
        have E1 := Lib.hid (HEr.out.below hb)
        have B1 := Lib.hid (HBr.out.trans (hb.mono HSZ.out))
        clear hb
        go_wp2_with fail
        refine (over_nil v1 v1.heap.size (Nat.le_refl _)).mono ?_
        rintro e v2 ⟨rfl, hb⟩
        have D2 := Lib.hid (D1.out.below hb)
        have E2 := Lib.hid (E1.out.below hb)
        have B2 := Lib.hid (B1.out.trans (hb.mono (by have := B1.out.size; have := HBB.out; omega)))
        clear hb
        go_wp2
        go_roundg gk
        case measure => omega
        case rel => exact ⟨k + 1, x + 1, by omega, rfl, (by have := HX.out; show _ = _; omega), D2, E2, B2⟩
      | true =>
        obtain ⟨i, rfl, hi⟩ := has_true hh
        have HI := Lib.hid hi
        have HI2 : Hid (i < r.1.length) := HS.out.len ▸ hi
        obtain ⟨h1, h2, _⟩ := HS.out.at_ i hi
        have HOK := Lib.hid (clAt_ok HDr.out i hi)
        obtain ⟨X, hX⟩ : ∃ X, (clAt s.1 (i : Int)).v = X := ⟨_, rfl⟩
        obtain ⟨Y, hY⟩ : ∃ Y, (clAt s.1 (i : Int)).p = Y := ⟨_, rfl⟩
        have HXL : Hid (X.length = 64) := hX ▸ HOK.out.1
        have HYL : Hid (Y.length = 64) := hY ▸ HOK.out.2.1
        have HX2 : Hid ((clAt r.1 (i : Int)).v = X) := h1 ▸ hX
        have HY2 : Hid ((clAt r.1 (i : Int)).p = Y) := h2 ▸ hY
        have HX1 := Lib.hid hX
        have HY1 := Lib.hid hY
        clear hX hY h1 h2 hi hh
        go_wp2_with fail
        refine (load_at HDr.out i HI.out).mono ?_
        rintro e v1 ⟨g1, rfl, hg1, ha, hb⟩
        rw [HX1.out] at ha
        have A1 := Lib.hid ha
        have HL1 : Hid (g1 < v1.heap.size) := A1.out.lt
        have D1 := Lib.hid (HDr.out.below hb)
        have E1 := Lib.hid (HEr.out.below hb)
        have B1 := Lib.hid (hb.mono (Nat.le_refl wr.heap.size))
        clear ha hb
        go_wp2_with fail
        refine (rload_at E1.out i HI2.out).mono ?_
        rintro e v2 ⟨g2, rfl, hg2, ha, hb⟩
        rw [HX2.out] at ha
        have A2 := Lib.hid (A1.out.below hb A1.out.lt)
        have C2 := Lib.hid ha
        have D2 := Lib.hid (D1.out.below hb)
        have E2 := Lib.hid (E1.out.below hb)
        have B2 := Lib.hid (B1.out.trans (hb.mono B1.out.size))
        have Z2 : Hid (v1.heap.size ≤ v2.heap.size) := hb.size
        clear ha hb hg2
        go_wp2_with fail
        refine (durable_at D2.out i HI.out).mono ?_
        rintro e v3 ⟨g3, rfl, hg3, ha, hb⟩
        rw [HY1.out] at ha
        have A3 := Lib.hid (A2.out.below hb A2.out.lt)
        have C3 := Lib.hid (C2.out.below hb C2.out.lt)
        have F3 := Lib.hid ha
        have D3 := Lib.hid (D2.out.below hb)
        have E3 := Lib.hid (E2.out.below hb)
        have B3 := Lib.hid (B2.out.trans (hb.mono B2.out.size))
        have HG3 : Hid (wr.heap.size ≤ g3 ∧ v1.heap.size ≤ g3) := ⟨Nat.le_trans B2.out.size hg3, Nat.le_trans Z2.out hg3⟩
        clear ha hb hg3
        go_wp2_with fail
        refine (rdurable_at E3.out i HI2.out).mono ?_
        rintro e v4 ⟨g4, rfl, hg4, ha, hb⟩
        rw [HY2.out] at ha
        have A4 := Lib.hid (A3.out.below hb A3.out.lt)
        have C4 := Lib.hid (C3.out.below hb C3.out.lt)
        have F4 := Lib.hid (F3.out.below hb F3.out.lt)
        have G4 := Lib.hid ha
        have D4 := Lib.hid (D3.out.below hb)
        have E4 := Lib.hid (E3.out.below hb)
        have B4 := Lib.hid (B3.out.trans (hb.mono B3.out.size))
        clear ha hb hg4
        go_wp2_with fail
        refine (same_arr v4 g1 g2 X HXL.out A4.out C4.out).mono ?_
        rintro e w' ⟨rfl, rfl⟩
        go_wp2_with fail
        refine (num_any 0 v4).mono ?_
        rintro e w' ⟨rfl, rfl⟩
        go_wp2_with fail
        refine (same_arr v4 g3 g4 Y HYL.out F4.out G4.out).mono ?_
        rintro e w' ⟨rfl, rfl⟩
        go_wp2_with fail
        refine (num_any 0 v4).mono ?_
        rintro e w' ⟨rfl, rfl⟩
        go_wp2_with fail
        refine (over_arr v4 g1 X HXL.out A4.out).mono ?_
        rintro e v5 ⟨rfl, ht⟩
        have T5 := Lib.hid ht
        have D5 : Hid (DvS v5 p q s) := by
          have := HDr.out.lt_p
          have := HDr.out.lt_q
          exact D4.out.turns ht (by omega) (by omega) (by omega) (by omega)
        have E5 : Hid (DvT v5 p' q' r) := by
          have := HEr.out.lt_p
          have := HEr.out.lt_q
          exact E4.out.turns ht (by omega) (by omega) (by omega) (by omega)
        have H31 : Hid (g3 ≠ g1) := by have := HL1.out; have := HG3.out; show _ ≠ _; omega
        have F5 := Lib.hid (F4.out.turns ht H31.out H31.out)
        have B5 : Hid (Below wr.heap.size wr v5) := B4.out.trans (ht.below hg1 hg1 B4.out.size)
        clear ht
        go_wp2_with fail
        refine (over_arr v5 g3 Y HYL.out F5.out).mono ?_
        rintro e v6 ⟨rfl, ht⟩
        have HG3' : Hid (wr.heap.size ≤ g3) := by have := HG3.out; show _ ≤ _; omega
        have D6 : Hid (DvS v6 p q s) := by
          have := HDr.out.lt_p
          have := HDr.out.lt_q
          have := HG3'.out
          exact D5.out.turns ht (by omega) (by omega) (by omega) (by omega)
        have E6 : Hid (DvT v6 p' q' r) := by
          have := HEr.out.lt_p
          have := HEr.out.lt_q
          have := HG3'.out
          exact E5.out.turns ht (by omega) (by omega) (by omega) (by omega)
        have B6 : Hid (Below wr.heap.size wr v6) := B5.out.trans (ht.below HG3'.out HG3'.out B5.out.size)
        have B7 : Hid (Below B w v6) := HBr.out.trans (B6.out.mono HSZ.out)
        clear ht
        go_wp2
        go_roundg gk
        case measure => omega
        case rel => exact ⟨k + 1, (i : Int) + 1, by omega, rfl, (by have := HX.out; show _ = _; omega), D6, E6, B7⟩
    | zero =>
      have hx1 : ¬ x ≤ (n : Int) := by have := HX.out; omega
      go_wp2_with fail
      refine (looses_ok HDr.out).mono ?_
      rintro e v1 ⟨V, rfl, ho, hb⟩
      obtain ⟨A, capA, rfl, hrow, _, _⟩ := rowI_of_own ho (by have := idx_len (fun c => c.v != c.p) s.1 0; have := HNS.out; unfold looseL; omega)
      have O1 := Lib.hid ho
      have R1 := Lib.hid hrow
      have D1 := Lib.hid (HDr.out.below hb)
      have E1 := Lib.hid (HEr.out.below hb)
      have B1 := Lib.hid (HBr.out.trans (hb.mono HSZ.out))
      have Z1 : Hid (B ≤ v1.heap.size) := Nat.le_trans HSZ.out hb.size
      have ZA : Hid (wr.heap.size ≤ v1.heap.size) := hb.size
      clear ho hb hrow
      go_wp2_with fail
      refine (ways_ok D1.out).mono ?_
      rintro e v2 ⟨U, rfl, ho, hb⟩
      obtain ⟨C, capC, rfl, hrow, _, _⟩ := rowI_of_own ho (by have := idx_len (fun c => c.on) s.1 0; have := HNS.out; unfold wayL; omega)
      have P2 := Lib.hid ho
      have O2 := Lib.hid (own_below O1.out hb (p := p) (q := q) HDr.out.lt_p HDr.out.lt_q)
      have R2 := Lib.hid (R1.out.below hb)
      have Q2 := Lib.hid hrow
      have D2 := Lib.hid (D1.out.below hb)
      have E2 := Lib.hid (E1.out.below hb)
      have B2 := Lib.hid (B1.out.trans (hb.mono Z1.out))
      have Z2 : Hid (B ≤ v2.heap.size) := Nat.le_trans Z1.out hb.size
      have ZZ : Hid (wr.heap.size ≤ v1.heap.size ∧ v1.heap.size ≤ v2.heap.size) := ⟨ZA.out, hb.size⟩
      have hla : (looseL s.1).length ≤ 258 := by have := idx_len (fun c => c.v != c.p) s.1 0; have := HNS.out; unfold looseL; omega
      have hlb : (wayL s.1).length ≤ 258 := by have := idx_len (fun c => c.on) s.1 0; have := HNS.out; unfold wayL; omega
      obtain ⟨la, hLA⟩ : ∃ l, looseL s.1 = l := ⟨_, rfl⟩
      obtain ⟨lb, hLB⟩ : ∃ l, wayL s.1 = l := ⟨_, rfl⟩
      have HLA : Hid (looseL r.1 = la) := by rw [← HS.out.loose]; exact hLA
      have HLB : Hid (wayL r.1 = lb) := by rw [← HS.out.way]; exact hLB
      rw [hLA] at hla O1 O2 R1 R2 ⊢
      rw [hLB] at hlb P2 Q2 ⊢
      obtain ⟨na, hna⟩ : ∃ n, la.length = n := ⟨_, rfl⟩
      obtain ⟨nb, hnb⟩ : ∃ n, lb.length = n := ⟨_, rfl⟩
      rw [hna] at hla O1 O2 ⊢
      rw [hnb] at hlb P2 ⊢
      have HNA := Lib.hid hna
      have HNB := Lib.hid hnb
      have HLS := Lib.hid (fun w (hw : DvT w p' q' r) => HLA.out ▸ rloose_ok hw)
      have HWS := Lib.hid (fun w (hw : DvT w p' q' r) => HLB.out ▸ rway_ok hw)
      obtain ⟨cap2, hsl2, _⟩ := E2.out.slice
      rw [HN.out] at hsl2
      obtain ⟨ca, cb, cc, cd, ce, hcs, k1, k2, k3, k4, k5⟩ := E2.out.cells5
      have HCS : Hid (s.2 = [ca, cb, cc, cd, ce]) := HS.out.cs.trans hcs
      have heq : ∀ w', (Op.equalIn 10000 59 (.agg #[.int .i64 ca, .int .i64 cb, .int .i64 cc, .int .i64 cd, .int .i64 ce]) (.agg #[.int .i64 ca, .int .i64 cb, .int .i64 cc, .int .i64 cd, .int .i64 ce])).run Try.prog w' = .ok true w' := fun w' => by have := equal_counts [ca, cb, cc, cd, ce] [ca, cb, cc, cd, ce] rfl rfl w'; rwa [show ([ca, cb, cc, cd, ce] == [ca, cb, cc, cd, ce]) = true by simp] at this
      have hgu := guard_counts
      have hnn : ((n : Int) == (n : Int)) = true := by simp
      clear ho hb hsl hrow hLA hLB hna hnb hcs
      go_wp2_with fail
      go_region_held3 (fun w' => w'.cell? ⟨p', 0, none⟩ = some (.slice (some ⟨q', 0, none⟩) n cap2) ∧ w'.cell? ⟨p', 1, none⟩ = some (.int .i64 ca) ∧ w'.cell? ⟨p', 2, none⟩ = some (.int .i64 cb) ∧ w'.cell? ⟨p', 3, none⟩ = some (.int .i64 cc) ∧ w'.cell? ⟨p', 4, none⟩ = some (.int .i64 cd) ∧ w'.cell? ⟨p', 5, none⟩ = some (.int .i64 ce)) (go_keep)
        (first
          | (go_at_call 50; refine (HLS.out _ (E2.out.drew)).mono ?_; rintro e v3 ⟨V3, rfl, ho, hb⟩; obtain ⟨A3, cap3, rfl, hrow3, _, _⟩ := rowI_of_own ho (by have := HNA.out; omega); have hbb : Below v2.heap.size v2 v3 := (Below.refl _ _).drew.trans hb; have HS1 := Lib.hid (samei_any v3 A A3 _ capA cap3 la rfl (R2.out.below hbb) hrow3); have Q3 := Lib.hid (Q2.out.below hbb); have E3 := Lib.hid (E2.out.below hbb); have D3 := Lib.hid (D2.out.below hbb); have B3 := Lib.hid hbb; obtain ⟨q0, q1, q2, q3, q4, q5⟩ := six_keep hbb ⟨hsl2, k1, k2, k3, k4, k5⟩ E2.out.lt_p; rw [HNA.out] at HS1 ⊢; clear ho hb hrow3 hbb)
          | (go_at_call 33; refine HS2.out.mono ?_; rintro e w' ⟨rfl, j2, rfl⟩)
          | (go_at_call 33; refine HS1.out.mono ?_; rintro e w' ⟨rfl, j1, rfl⟩)
          | (go_at_call 51; refine (HWS.out _ (E3.out.below (below_drewN (Below.refl _ _) j1))).mono ?_; rintro e v4 ⟨V4, rfl, ho, hb⟩; obtain ⟨A4, cap4, rfl, hrow4, _, _⟩ := rowI_of_own ho (by have := HNB.out; omega); have hbb : Below v3.heap.size v3 v4 := (below_drewN (Below.refl _ _) j1).trans hb; have HS2 := Lib.hid (samei_any v4 C A4 _ capC cap4 lb rfl (Q3.out.below hbb) hrow4); have D4 := Lib.hid (D3.out.below hbb); have B4 := Lib.hid (B3.out.trans (hbb.mono B3.out.size)); obtain ⟨q0', q1', q2', q3', q4', q5'⟩ := six_keep hbb ⟨q0, q1, q2, q3, q4, q5⟩ E3.out.lt_p; rw [HNB.out] at HS2 ⊢; have E4 := Lib.hid (E3.out.below hbb); clear ho hb hrow4 hbb)
          | (go_at_call 32; refine (counts_ok (D4.out.below (below_drewN (Below.refl _ _) j2))).mono ?_; rintro e v5 ⟨rfl, hb⟩; have hbb : Below v4.heap.size v4 v5 := (below_drewN (Below.refl _ _) j2).trans hb; have D5 := Lib.hid (D4.out.below hbb); have B5 := Lib.hid (B4.out.trans (hbb.mono B4.out.size)); obtain ⟨q0'', q1'', q2'', q3'', q4'', q5''⟩ := six_keep hbb ⟨q0', q1', q2', q3', q4', q5'⟩ E4.out.lt_p; rw [HCS.out, aggI5]; clear hb hbb)
          | (go_at_call 31; refine (lin_ok D5.out).mono ?_; rintro e w' ⟨rfl, rfl⟩; rw [HNS.out]))
      have O5 := Lib.hid (own_below O2.out B5.out (p := p) (q := q) HDr.out.lt_p HDr.out.lt_q)
      have P5 := Lib.hid (own_below P2.out B5.out (p := p) (q := q) D1.out.lt_p D1.out.lt_q)
      have F5 : Hid (Below B w v5) := B2.out.trans (B5.out.mono Z2.out)
      have hz5 : wr.heap.size ≤ v5.heap.size := by have h1 := O1; have := B5.out.size; have := D2.out.lt_p; have hh := ZZ.out; omega
      have hz6 : v1.heap.size ≤ v5.heap.size := by have := B5.out.size; have hh := ZZ.out; omega
      clear heq hgu hnn hsl2 k1 k2 k3 k4 k5 q0 q1 q2 q3 q4 q5 q0' q1' q2' q3' q4' q5' q0'' q1'' q2'' q3'' q4'' q5''
      go_wp2_with fail
      refine (overi_sp v5 wr.heap.size na _ la HNA.out (by omega) O5.out hz5).mono ?_
      rintro e v6 ⟨rfl, hsp⟩
      have P6 := Lib.hid (hsp.own P5.out (own_lt O1.out))
      have F6 : Hid (Below B w v6) := F5.out.trans (hsp.below (fun k hk => Nat.le_trans HSZ.out (own_ge O1.out k hk)) (Nat.le_trans HSZ.out hz5))
      have hz7 : v1.heap.size ≤ v6.heap.size := Nat.le_trans hz6 hsp.size
      clear hsp
      go_wp2_with fail
      refine (overi_sp v6 v1.heap.size nb _ lb HNB.out (by omega) P6.out hz7).mono ?_
      rintro e v7 ⟨rfl, hsp⟩
      have F7 : Hid (Below B w v7) := F6.out.trans (hsp.below (fun k hk => Nat.le_trans Z1.out (own_ge P2.out k hk)) (Nat.le_trans Z1.out hz7))
      clear hsp
      go_wp2
      go_ret
      exact ⟨rfl, F7.out⟩

end Go.Proofs.Ytgfbehdnmdmnhaa
