/-
  Proved here, joined: WrA16, LnkA16
  Conditions: as each part says.
-/
import Derived.Test.YtlghphccmgmomaaGreatJN43

/-
  Proved here: write, package arena.
  Conditions: texts of at most 2000 bytes, lines of at most a million.
-/
namespace Go.Proofs.YtlghphccmgmomaaGreat
open Go Go.RowKit
set_option maxRecDepth 100000

open Classical
section
variable {b : Nat} {w w' w1 w2 : World} {col : Nat → Nat} {z : Pz} {s s1 s2 : Az}
theorem ArTo.next (h1 : ArTo b w col z s1 w1) {f : FuncId} {args : Array Value} {P : Ending → Prop} (h : ∀ col' z', Ar b w1 col' z' s1 → z'.base = z.base → Calls Tryz.prog f args w1 fun e w2 => P e ∧ ArTo b w1 col' z' s2 w2) :
    Calls Tryz.prog f args w1 fun e w2 => P e ∧ ArTo b w col z s2 w2 := by
  obtain ⟨col', z', har, hz, hc, hn⟩ := h1.ar
  refine (h col' z' har hz).mono ?_
  rintro e w2 ⟨hp, k⟩
  exact ⟨hp, ArTo.trans hz h1.st hc hn k⟩
theorem ArTo.belowR (h1 : ArTo b w col z s1 w1) (hb : Below w1.heap.size w1 w2) : ArTo b w col z s1 w2 := by
  obtain ⟨col', z', har, hz, hc, hn⟩ := h1.ar
  exact ArTo.trans hz h1.st hc hn (ArTo.refl har hb)
theorem ArTo.since (h : Ar b w col z s) (hb : Below w.heap.size w w1) (k : ArTo b w1 col z s2 w2) : ArTo b w col z s2 w2 := by
  obtain ⟨col', z', har, hz, hc, hn⟩ := k.ar
  refine ⟨⟨col', z', har, hz, fun j hj => hc j (Nat.lt_of_lt_of_le hj hb.size), fun j hj => ?_⟩, (Stay.of_below hb).trans k.st⟩
  rcases Nat.lt_or_ge j w1.heap.size with h1 | h1
  · exact .inl ((hc j h1).trans (h.nw j hj))
  · exact hn j h1
/-- A block that is not the arena's stays. -/
theorem ArTo.free (h : Ar b w col z s) (k : ArTo b w1 col z s2 w2) {g : Nat} (hg : w.heap.size ≤ g) (hl : g < w1.heap.size) : w2.heap[g]? = w1.heap[g]? :=
  k.st.block g (fun e => by have := h.nw g hg; omega) hl
end
section
variable {b : Nat} {w w' : World} {col : Nat → Nat} {z : Pz} {s : Az}
/-- The clock behind i notes. -/
def notesC (c : Ck) (t line : Int) : Nat → Ck
  | 0 => c
  | i + 1 => (notesC c t line i).note t (line + i)
/-- What the writing of a block leaves. -/
noncomputable def wrS16 (s : Az) (t line : Int) (x : BV) (i : Nat) : Az := { s with id := max s.id x.id, ver := max s.ver x.ver, d := headD s.d line x, c := notesC s.c t line i }
theorem note_next (h : Ar b w col z s) (t x : Int) : Calls Tryz.prog 32 #[.pointer (some ⟨z.cp, 0, none⟩), .int .i64 t, .int .i64 x] w fun e w' => (∃ k, e = .returned (.int .i64 k)) ∧ ArTo b w col z { s with c := s.c.note t x } w' := by
  refine (cknote_any h.ck.full t x).mono ?_
  rintro e w' ⟨rfl, hc, ht⟩
  exact ⟨⟨_, rfl⟩, h.setCk hc ht⟩
set_option maxHeartbeats 3200000 in
theorem write_any (h : Ar b w col z s) (t line : Int) (x : BV) (ho : x.ok) (hks : x.key.size ≤ 2000) (hvs : x.val.size ≤ 2000) (hln : 0 ≤ line ∧ line ≤ 1000000) : Calls Tryz.prog 62 #[.pointer (some ⟨z.ap, 0, none⟩), .int .i64 t, .int .i64 line, .agg #[.int .i64 x.cl, .int .i64 x.kd, .int .u64 (x.id : Nat), .int .u64 (x.ver : Nat), .int .u64 (x.ep : Nat), .string x.key, .string x.val]] w fun e w' => e = .returned (.tuple #[]) ∧ ArTo b w col z (wrS16 s t line x (spanN x.cl)) w' := by
  obtain ⟨g, hg⟩ : ∃ g, w.heap.size = g := ⟨_, rfl⟩
  obtain ⟨w1, hw1⟩ : ∃ w1, w.alloc (.cells #[.int .i64 x.cl, .int .i64 x.kd, .int .u64 (x.id : Nat), .int .u64 (x.ver : Nat), .int .u64 (x.ep : Nat), .string x.key, .string x.val] 95) = w1 := ⟨_, rfl⟩
  have HX1 : Hid (Box w1 g x) := by rw [← hw1, ← hg]; exact heap_alloc_new w _
  have hb1 : Below w.heap.size w w1 := by rw [← hw1]; exact (Below.refl _ _).alloc (Nat.le_refl _) _
  have h1 := h.below hb1
  have HAS := Lib.hid (assign_any h1 x)
  have HKG : Hid (∀ W s2, ArTo b w1 col z s2 W → Box W g x) := fun W s2 k => (ArTo.free h k (Nat.le_of_eq hg) HX1.out.lt).trans HX1.out
  have HSH : Hid (∀ W, ArTo b w1 col z { s with id := max s.id x.id, ver := max s.ver x.ver } W → Calls Tryz.prog 106 #[.agg #[.pointer (some ⟨z.dp, 0, none⟩)], .int .i64 line, .agg #[.int .i64 x.cl, .int .i64 x.kd, .int .u64 (x.id : Nat), .int .u64 (x.ver : Nat), .int .u64 (x.ep : Nat), .string x.key, .string x.val]] W fun e w' => e = .returned (.tuple #[]) ∧ ArTo b w1 col z (wrS16 s t line x 0) w') := fun W k => k.next fun col' z' har hz => by
    have := storehead_any har line x ho hks hvs
    rw [(base_eq hz).2.1] at this
    exact this
  have HNT : Hid (∀ W i, ArTo b w1 col z (wrS16 s t line x i) W → Calls Tryz.prog 32 #[.pointer (some ⟨z.cp, 0, none⟩), .int .i64 t, .int .i64 (line + (i : Nat))] W fun e w' => (∃ k, e = .returned (.int .i64 k)) ∧ ArTo b w1 col z (wrS16 s t line x (i + 1)) w') := fun W i k => k.next fun col' z' har hz => by
    have := note_next har t (line + (i : Nat))
    rw [(base_eq hz).2.2.2.2.2.2.2.1] at this
    exact this
  obtain ⟨R, hR⟩ : ∃ R, (fun e w' => e = Ending.returned (.tuple #[]) ∧ ArTo b w col z (wrS16 s t line x (spanN x.cl)) w') = R := ⟨_, rfl⟩
  have HFIN : Hid (∀ W, ArTo b w1 col z (wrS16 s t line x (spanN x.cl)) W → R (.returned (.tuple #[])) W) := fun W k => by
    rw [← hR]
    exact ⟨rfl, ArTo.since h hb1 k⟩
  have HAT : Hid (∀ W s2, ArTo b w1 col z s2 W → W.cell? ⟨z.ap, 0, none⟩ = some (.pointer (some ⟨z.dp, 0, none⟩)) ∧ W.cell? ⟨z.ap, 6, none⟩ = some (.pointer (some ⟨z.cp, 0, none⟩))) := fun W s2 k => ⟨k.at_.1, k.at_.2.2.2.1⟩
  have HSP : Hid (spanN x.cl ≤ 8) := by
    show spanN x.cl ≤ 8
    rcases spanN_cases x.cl with e | e | e | e | e <;> omega
  rw [hR]
  generalize hsp : spanN x.cl = n at *
  have HSN : Hid (∀ W, Calls Tryz.prog 78 #[.int .i64 x.cl] W fun e w' => e = .returned (.int .i64 (n : Nat)) ∧ W = w') := fun W => hsp ▸ span_any x.cl W
  have HLN : Hid (0 ≤ line ∧ line ≤ 1000000) := hln
  generalize hS0 : wrS16 s t line x = S0 at *
  generalize hSA : ({ s with id := max s.id x.id, ver := max s.ver x.ver } : Az) = SA at *
  clear h h1 hR ho hks hvs hsp hS0 hSA hb1 hln
  obtain ⟨x0, x1, x2, x3, x4, x5, x6⟩ := x
  simp only at *
  generalize z.ap = ap at *
  generalize z.dp = dp at *
  generalize z.cp = cp at *
  obtain ⟨c0, c1, c2, c3, c4, c5, c6⟩ := HX1.out.cells
  go_enter Tryz.func62, Tryz.ntmps62
  go_wp2_with fail
  refine HAS.out.mono ?_
  rintro e w2 ⟨rfl, k2⟩
  have HK2 := Lib.hid k2
  have HB2 := Lib.hid (HKG.out w2 _ k2)
  clear k2 c0 c1 c2 c3 c4 c5 c6
  obtain ⟨c0, c1, c2, c3, c4, c5, c6⟩ := HB2.out.cells
  obtain ⟨a0, a6⟩ := HAT.out w2 _ HK2.out
  have HS2 := Lib.hid (HSH.out w2.drew (HK2.out.belowR (below_drewN (Below.refl _ _) 1)))
  go_upto_region 2 with fail
  go_region_held3 (fun W => W.cell? ⟨ap, 0, none⟩ = some (.pointer (some ⟨dp, 0, none⟩)) ∧ W.cell? ⟨g, 0, none⟩ = some (.int .i64 x0) ∧ W.cell? ⟨g, 1, none⟩ = some (.int .i64 x1) ∧ W.cell? ⟨g, 2, none⟩ = some (.int .u64 (x2 : Nat)) ∧ W.cell? ⟨g, 3, none⟩ = some (.int .u64 (x3 : Nat)) ∧ W.cell? ⟨g, 4, none⟩ = some (.int .u64 (x4 : Nat)) ∧ W.cell? ⟨g, 5, none⟩ = some (.string x5) ∧ W.cell? ⟨g, 6, none⟩ = some (.string x6)) (go_keep)
    (first
      | (go_at_call 106; refine HS2.out.mono ?_; rintro e w3 ⟨rfl, k3⟩; have HK3 := Lib.hid k3; have HB3 := Lib.hid (HKG.out w3 _ k3); obtain ⟨t0, t1, t2, t3, t4, t5, t6⟩ := HB3.out.cells; obtain ⟨u0', u6'⟩ := HAT.out w3 _ k3; clear k3)
      | fail)
  clear c0 c1 c2 c3 c4 c5 c6 a0 a6
  go_wp2_with fail
  refine (HSN.out w3).mono ?_
  rintro e w4 ⟨rfl, rfl⟩
  clear t0 t1 t2 t3 t4 t5 t6 u0' u6'
  go_wp2
  go_loopg [22] n (fun gk s22 wx => ∃ i : Nat, i + gk = n ∧ s22 = .int .i64 i ∧ Hid (ArTo b w1 col z (S0 i) wx))
  case atStart => exact ⟨0, by omega, rfl, HK3.out⟩
  case round =>
    obtain ⟨i, hig, rfl, HK⟩ := hrel
    have hn8 := HSP.out
    cases gk with
    | zero =>
      obtain rfl : i = n := by omega
      have hii : ¬ (i : Int) < (i : Int) := by omega
      go_wp2
      refine bodyPost_end (results_none rfl _ _ _) rfl ?_
      exact HFIN.out _ HK.out
    | succ gk =>
      have hii : (i : Int) < (n : Int) := by omega
      have hi0 : (0 : Int) ≤ (i : Int) := by omega
      obtain ⟨a0, a6⟩ := HAT.out wr _ HK.out
      have HNT2 := Lib.hid (HNT.out wr i HK.out)
      have hl0 := HLN.out.1
      have hl1 := HLN.out.2
      have hs0 : -9223372036854775808 ≤ line + (i : Int) := by omega
      have hs1 : line + (i : Int) ≤ 9223372036854775807 := by omega
      go_wp2_with fail
      refine HNT2.out.mono ?_
      rintro e w5 ⟨⟨k, rfl⟩, k5⟩
      have HK5 := Lib.hid k5
      clear k5
      go_wp2
      go_roundg gk
      case measure => omega
      case rel => exact ⟨i + 1, by omega, by go_num, HK5⟩
end

end Go.Proofs.YtlghphccmgmomaaGreat

/-
  Proved here: link, package arena.
  Conditions: texts of at most 2000 bytes, at most 100,000 links, at most 2000 in the line.
-/
namespace Go.Proofs.YtlghphccmgmomaaGreat
open Go Go.RowKit
set_option maxRecDepth 100000

open Classical
section
variable {b : Nat} {w w' : World} {col : Nat → Nat} {z : Pz} {s : Az}
/-- What link makes of the arena. -/
noncomputable def lnkS (s : Az) (c : Ch) (x : BV) : Az :=
  if c.kd = 2 then
    if c.had then { s with T := setT s.T (linkB c.line x), O := setT s.O (linkB c.line x), B := putB s.B ⟨c.old.line, c.old.cl, s.now, x.ep, -1⟩ }
    else { s with T := setT s.T (linkB c.line x), O := setT s.O (linkB c.line x) }
  else if c.kd = 3 then { s with T := dropT s.T c.K, O := dropT s.O c.K, B := putB s.B ⟨c.old.line, c.old.cl, s.now, x.ep, c.line⟩ }
  else if c.kd = 4 then { s with Q := s.Q ++ [linkB c.line x] }
  else if c.kd = 5 then { s with Q := s.Q.tail, B := putB s.B ⟨c.old.line, c.old.cl, s.now, x.ep, c.line⟩ }
  else s
theorem tbset_next (h : Ar b w col z s) (x : Ln) (hx : x.k.length ≤ 1073741824) (hl : s.T.length < 1048576) : Calls Tryz.prog 107 #[.pointer (some ⟨z.tp, 0, none⟩), .agg #[.string x.str, .int .u64 (x.id : Nat), .int .u64 (x.ver : Nat), .int .i64 x.line, .int .i64 x.cl]] w fun e w' => (∃ v, e = .returned v) ∧ ArTo b w col z { s with T := setT s.T x } w' := by
  refine (tbset_any h.tb x hx hl).mono ?_
  rintro e w' ⟨rfl, k⟩
  exact ⟨⟨_, rfl⟩, h.setTb k⟩
theorem odset_next (h : Ar b w col z s) (x : Ln) (hx : x.k.length ≤ 1073741824) (hl : s.O.length < 1048576) : Calls Tryz.prog 108 #[.pointer (some ⟨z.op, 0, none⟩), .agg #[.string x.str, .int .u64 (x.id : Nat), .int .u64 (x.ver : Nat), .int .i64 x.line, .int .i64 x.cl]] w fun e w' => (∃ v, e = .returned v) ∧ ArTo b w col z { s with O := setT s.O x } w' := by
  refine (odset_any h.od x hx hl).mono ?_
  rintro e w' ⟨rfl, k⟩
  exact ⟨⟨_, rfl⟩, h.setOd k⟩
theorem tbdrop_next (h : Ar b w col z s) (k : ByteArray) (hx : k.size ≤ 1073741824) : Calls Tryz.prog 109 #[.pointer (some ⟨z.tp, 0, none⟩), .string k] w fun e w' => (∃ v, e = .returned v) ∧ ArTo b w col z { s with T := dropT s.T k.data.toList } w' := by
  refine (tbdrop_any h.tb k hx).mono ?_
  rintro e w' ⟨rfl, k⟩
  exact ⟨⟨_, rfl⟩, h.setTb k⟩
theorem oddrop_next (h : Ar b w col z s) (k : ByteArray) (hx : k.size ≤ 1073741824) (hl : s.O.length ≤ 1048576) : Calls Tryz.prog 110 #[.pointer (some ⟨z.op, 0, none⟩), .string k] w fun e w' => (∃ v, e = .returned v) ∧ ArTo b w col z { s with O := dropT s.O k.data.toList } w' := by
  refine (oddrop_any h.od k hx hl).mono ?_
  rintro e w' ⟨rfl, k⟩
  exact ⟨⟨_, rfl⟩, h.setOd k⟩
theorem fipush_next (h : Ar b w col z s) (x : Ln) (hl : s.Q.length ≤ 2040) : Calls Tryz.prog 111 #[.pointer (some ⟨z.lp, 0, none⟩), .agg #[.string x.str, .int .u64 (x.id : Nat), .int .u64 (x.ver : Nat), .int .i64 x.line, .int .i64 x.cl]] w fun e w' => (∃ v, e = .returned v) ∧ ArTo b w col z { s with Q := s.Q ++ [x] } w' := by
  refine (fipush_any h.fi hl x).mono ?_
  rintro e w' ⟨rfl, k⟩
  exact ⟨⟨_, rfl⟩, h.setFi k⟩
theorem fipop_next (h : Ar b w col z s) : Calls Tryz.prog 112 #[.pointer (some ⟨z.lp, 0, none⟩)] w fun e w' => (∃ v, e = .returned v) ∧ ArTo b w col z { s with Q := s.Q.tail } w' := by
  refine (fipop_any h.fi).mono ?_
  rintro e w' ⟨rfl, k⟩
  exact ⟨⟨_, rfl⟩, h.setFi k⟩
set_option maxHeartbeats 6400000 in
theorem link_any (h : Ar b w col z s) (c : Ch) (x : BV) (hck : c.key.size ≤ 2000) (hxk : x.K.length ≤ 2000) (hT : s.T.length ≤ 100000) (hO : s.O.length ≤ 100000) (hQ : s.Q.length ≤ 2000) :
    Calls Tryz.prog 63 #[.pointer (some ⟨z.ap, 0, none⟩), .agg #[.int .i64 c.kd, .string c.key, .string c.val, .bool c.had, .string c.old.str, .int .u64 (c.old.id : Nat), .int .u64 (c.old.ver : Nat), .int .i64 c.old.line, .int .i64 c.old.cl, .int .i64 c.line, .int .i64 c.cl], .agg #[.int .i64 x.cl, .int .i64 x.kd, .int .u64 (x.id : Nat), .int .u64 (x.ver : Nat), .int .u64 (x.ep : Nat), .string x.key, .string x.val]] w fun e w' => e = .returned (.tuple #[]) ∧ ArTo b w col z (lnkS s c x) w' := by
  obtain ⟨g, hg⟩ : ∃ g, w.heap.size = g := ⟨_, rfl⟩
  obtain ⟨w1, hw1⟩ : ∃ w1, w.alloc (.cells #[.int .i64 c.kd, .string c.key, .string c.val, .bool c.had, .string c.old.str, .int .u64 (c.old.id : Nat), .int .u64 (c.old.ver : Nat), .int .i64 c.old.line, .int .i64 c.old.cl, .int .i64 c.line, .int .i64 c.cl] 31) = w1 := ⟨_, rfl⟩
  have hx1 : HBox w1 g c := by rw [← hw1, ← hg]; exact heap_alloc_new w _
  have hb1 : Below w.heap.size w w1 := by rw [← hw1]; exact (Below.refl _ _).alloc (Nat.le_refl _) _
  obtain ⟨gb, hgb⟩ : ∃ g, w1.heap.size = g := ⟨_, rfl⟩
  obtain ⟨w2, hw2⟩ : ∃ w2, w1.alloc (.cells #[.int .i64 x.cl, .int .i64 x.kd, .int .u64 (x.id : Nat), .int .u64 (x.ver : Nat), .int .u64 (x.ep : Nat), .string x.key, .string x.val] 95) = w2 := ⟨_, rfl⟩
  have hx2 : Box w2 gb x := by rw [← hw2, ← hgb]; exact heap_alloc_new w1 _
  have hb2 : Below w1.heap.size w1 w2 := by rw [← hw2]; exact (Below.refl _ _).alloc (Nat.le_refl _) _
  have hb12 : Below w.heap.size w w2 := hb1.trans (hb2.mono hb1.size)
  have hxc : HBox w2 g c := (hb2.block g (hgb ▸ lt_of_heap hx1 |> fun h => by rw [hgb]; exact h)).trans hx1
  have h2 := h.below hb12
  have K0 := Lib.hid (ArTo.refl h2 (Below.refl _ _))
  have HFA : Hid (∀ W s2, ArTo b w2 col z s2 W → W.cell? ⟨z.ap, 8, none⟩ = some (.pointer (some ⟨z.tp, 0, none⟩)) ∧ W.cell? ⟨z.ap, 9, none⟩ = some (.pointer (some ⟨z.op, 0, none⟩)) ∧ W.cell? ⟨z.ap, 10, none⟩ = some (.pointer (some ⟨z.lp, 0, none⟩)) ∧ HBox W g c ∧ Box W gb x) := fun W s2 k => by
    obtain ⟨-, -, -, -, -, a8, a9, a10⟩ := k.at_
    exact ⟨a8, a9, a10, (ArTo.free h k (Nat.le_of_eq hg) hxc.lt).trans hxc, (ArTo.free h k (by rw [← hgb]; exact hb1.size) hx2.lt).trans hx2⟩
  have HLK := Lib.hid (fun W => linkof_any c.line x W)
  have HTS : Hid (∀ W s1, s1.T.length ≤ 100000 → ArTo b w2 col z s1 W → Calls Tryz.prog 107 #[.pointer (some ⟨z.tp, 0, none⟩), .agg #[.string x.key, .int .u64 (x.id : Nat), .int .u64 (x.ver : Nat), .int .i64 c.line, .int .i64 x.cl]] W fun e w' => (∃ v, e = .returned v) ∧ ArTo b w2 col z { s1 with T := setT s1.T (linkB c.line x) } w') := fun W s1 hl k => k.next fun col' z' har hz => by
    have := tbset_next har (linkB c.line x) (Nat.le_trans hxk (by omega)) (by omega)
    rw [(base_eq hz).2.2.2.2.2.2.2.2.2.2.1] at this
    exact this
  have HOS : Hid (∀ W s1, s1.O.length ≤ 100000 → ArTo b w2 col z s1 W → Calls Tryz.prog 108 #[.pointer (some ⟨z.op, 0, none⟩), .agg #[.string x.key, .int .u64 (x.id : Nat), .int .u64 (x.ver : Nat), .int .i64 c.line, .int .i64 x.cl]] W fun e w' => (∃ v, e = .returned v) ∧ ArTo b w2 col z { s1 with O := setT s1.O (linkB c.line x) } w') := fun W s1 hl k => k.next fun col' z' har hz => by
    have := odset_next har (linkB c.line x) (Nat.le_trans hxk (by omega)) (by omega)
    rw [(base_eq hz).2.2.2.2.2.2.2.2.2.2.2.1] at this
    exact this
  have HTD : Hid (∀ W s1, ArTo b w2 col z s1 W → Calls Tryz.prog 109 #[.pointer (some ⟨z.tp, 0, none⟩), .string c.key] W fun e w' => (∃ v, e = .returned v) ∧ ArTo b w2 col z { s1 with T := dropT s1.T c.K } w') := fun W s1 k => k.next fun col' z' har hz => by
    have := tbdrop_next har c.key (by omega)
    rw [(base_eq hz).2.2.2.2.2.2.2.2.2.2.1] at this
    exact this
  have HOD : Hid (∀ W s1, s1.O.length ≤ 100000 → ArTo b w2 col z s1 W → Calls Tryz.prog 110 #[.pointer (some ⟨z.op, 0, none⟩), .string c.key] W fun e w' => (∃ v, e = .returned v) ∧ ArTo b w2 col z { s1 with O := dropT s1.O c.K } w') := fun W s1 hl k => k.next fun col' z' har hz => by
    have := oddrop_next har c.key (by omega) (by omega)
    rw [(base_eq hz).2.2.2.2.2.2.2.2.2.2.2.1] at this
    exact this
  have HFP : Hid (∀ W s1, s1.Q.length ≤ 2000 → ArTo b w2 col z s1 W → Calls Tryz.prog 111 #[.pointer (some ⟨z.lp, 0, none⟩), .agg #[.string x.key, .int .u64 (x.id : Nat), .int .u64 (x.ver : Nat), .int .i64 c.line, .int .i64 x.cl]] W fun e w' => (∃ v, e = .returned v) ∧ ArTo b w2 col z { s1 with Q := s1.Q ++ [linkB c.line x] } w') := fun W s1 hl k => k.next fun col' z' har hz => by
    have := fipush_next har (linkB c.line x) (by omega)
    rw [(base_eq hz).2.2.2.2.2.2.2.2.2.2.2.2] at this
    exact this
  have HFO : Hid (∀ W s1, ArTo b w2 col z s1 W → Calls Tryz.prog 112 #[.pointer (some ⟨z.lp, 0, none⟩)] W fun e w' => (∃ v, e = .returned v) ∧ ArTo b w2 col z { s1 with Q := s1.Q.tail } w') := fun W s1 k => k.next fun col' z' har hz => by
    have := fipop_next har
    rw [(base_eq hz).2.2.2.2.2.2.2.2.2.2.2.2] at this
    exact this
  have HRE : Hid (∀ W s1 an, ArTo b w2 col z s1 W → Calls Tryz.prog 34 #[.pointer (some ⟨z.ap, 0, none⟩), .int .i64 c.old.line, .int .i64 c.old.cl, .int .u64 (x.ep : Nat), .int .i64 an] W fun e w' => e = .returned (.tuple #[]) ∧ ArTo b w2 col z { s1 with B := putB s1.B ⟨c.old.line, c.old.cl, s1.now, x.ep, an⟩ } w') := fun W s1 an k => k.next fun col' z' har hz => by
    have := retire_any har c.old.line c.old.cl x.ep an
    rw [(base_eq hz).1] at this
    exact this
  obtain ⟨R, hR⟩ : ∃ R, (fun e w' => e = Ending.returned (.tuple #[]) ∧ ArTo b w col z (lnkS s c x) w') = R := ⟨_, rfl⟩
  have HFIN : Hid (∀ W s2, lnkS s c x = s2 → ArTo b w2 col z s2 W → R (.returned (.tuple #[])) W) := fun W s2 e k => by
    rw [← hR, e]
    exact ⟨rfl, ArTo.since h hb12 k⟩
  rw [hR]
  have HL : Hid (s.T.length ≤ 100000 ∧ s.O.length ≤ 100000 ∧ s.Q.length ≤ 2000) := ⟨hT, hO, hQ⟩
  clear hR hx1 hb1 hx2 hb2 hb12 hxc h2 h hck hxk hT hO hQ
  obtain ⟨a8, a9, a10, hxc, hxb⟩ := HFA.out w2 _ K0.out
  obtain ⟨kd, key, val, had, ⟨ok, oid, over_, oline, ocl⟩, line, cl⟩ := c
  obtain ⟨x0, x1, x2, x3, x4, x5, x6⟩ := x
  obtain ⟨c0, c1, c2, c3, c4, c5, c6, c7, c8, c9, c10⟩ := hxc.at_
  obtain ⟨q0, q1, q2, q3, q4, q5, q6⟩ := hxb.cells
  simp only at *
  clear hxc hxb
  generalize z.ap = ap at *
  generalize z.tp = tp at *
  generalize z.op = op at *
  generalize z.lp = lp at *
  rcases Classical.em (kd = 2) with rfl | k2
  · skip
    go_enter Tryz.func63, Tryz.ntmps63
    go_upto_region 3 with fail
    go_region_held3 (fun W => W.cell? ⟨ap, 8, none⟩ = some (.pointer (some ⟨tp, 0, none⟩)) ∧ W.cell? ⟨g, 9, none⟩ = some (.int .i64 line) ∧ W.cell? ⟨gb, 0, none⟩ = some (.int .i64 x0) ∧ W.cell? ⟨gb, 1, none⟩ = some (.int .i64 x1) ∧ W.cell? ⟨gb, 2, none⟩ = some (.int .u64 (x2 : Nat)) ∧ W.cell? ⟨gb, 3, none⟩ = some (.int .u64 (x3 : Nat)) ∧ W.cell? ⟨gb, 4, none⟩ = some (.int .u64 (x4 : Nat)) ∧ W.cell? ⟨gb, 5, none⟩ = some (.string x5) ∧ W.cell? ⟨gb, 6, none⟩ = some (.string x6)) (go_keep)
      (first
        | (go_at_call 81; refine (HLK.out w2.drew).mono ?_; rintro e v1 ⟨rfl, b1⟩; have HV1 := Lib.hid (ArTo.belowR (ArTo.belowR K0.out (below_drewN (Below.refl _ _) 1)) b1); obtain ⟨a8_v1, a9_v1, a10_v1, hxc_v1, hxb_v1⟩ := HFA.out v1 _ HV1.out; obtain ⟨c0_v1, c1_v1, c2_v1, c3_v1, c4_v1, c5_v1, c6_v1, c7_v1, c8_v1, c9_v1, c10_v1⟩ := hxc_v1.at_; obtain ⟨q0_v1, q1_v1, q2_v1, q3_v1, q4_v1, q5_v1, q6_v1⟩ := hxb_v1.cells; simp only at c0_v1 c1_v1 c2_v1 c3_v1 c4_v1 c5_v1 c6_v1 c7_v1 c8_v1 c9_v1 c10_v1; clear hxc_v1 hxb_v1; clear b1)
        | (go_at_call 107; refine (HTS.out v1 _ (by exact HL.out.1) HV1.out).mono ?_; rintro e m1 ⟨⟨y1, rfl⟩, k1⟩; have HK1 := Lib.hid k1; obtain ⟨a8_m1, a9_m1, a10_m1, hxc_m1, hxb_m1⟩ := HFA.out m1 _ HK1.out; obtain ⟨c0_m1, c1_m1, c2_m1, c3_m1, c4_m1, c5_m1, c6_m1, c7_m1, c8_m1, c9_m1, c10_m1⟩ := hxc_m1.at_; obtain ⟨q0_m1, q1_m1, q2_m1, q3_m1, q4_m1, q5_m1, q6_m1⟩ := hxb_m1.cells; simp only at c0_m1 c1_m1 c2_m1 c3_m1 c4_m1 c5_m1 c6_m1 c7_m1 c8_m1 c9_m1 c10_m1; clear hxc_m1 hxb_m1; clear k1)
        | fail)
    clear a8 a9 a10 c0 c1 c2 c3 c4 c5 c6 c7 c8 c9 c10 q0 q1 q2 q3 q4 q5 q6
    clear a8_v1 a9_v1 a10_v1 c0_v1 c1_v1 c2_v1 c3_v1 c4_v1 c5_v1 c6_v1 c7_v1 c8_v1 c9_v1 c10_v1 q0_v1 q1_v1 q2_v1 q3_v1 q4_v1 q5_v1 q6_v1
    go_upto_region 4 with fail
    go_region_held3 (fun W => W.cell? ⟨ap, 9, none⟩ = some (.pointer (some ⟨op, 0, none⟩)) ∧ W.cell? ⟨g, 9, none⟩ = some (.int .i64 line) ∧ W.cell? ⟨gb, 0, none⟩ = some (.int .i64 x0) ∧ W.cell? ⟨gb, 1, none⟩ = some (.int .i64 x1) ∧ W.cell? ⟨gb, 2, none⟩ = some (.int .u64 (x2 : Nat)) ∧ W.cell? ⟨gb, 3, none⟩ = some (.int .u64 (x3 : Nat)) ∧ W.cell? ⟨gb, 4, none⟩ = some (.int .u64 (x4 : Nat)) ∧ W.cell? ⟨gb, 5, none⟩ = some (.string x5) ∧ W.cell? ⟨gb, 6, none⟩ = some (.string x6)) (go_keep)
      (first
        | (go_at_call 81; refine (HLK.out m1.drew).mono ?_; rintro e v2 ⟨rfl, b2⟩; have HV2 := Lib.hid (ArTo.belowR (ArTo.belowR HK1.out (below_drewN (Below.refl _ _) 1)) b2); obtain ⟨a8_v2, a9_v2, a10_v2, hxc_v2, hxb_v2⟩ := HFA.out v2 _ HV2.out; obtain ⟨c0_v2, c1_v2, c2_v2, c3_v2, c4_v2, c5_v2, c6_v2, c7_v2, c8_v2, c9_v2, c10_v2⟩ := hxc_v2.at_; obtain ⟨q0_v2, q1_v2, q2_v2, q3_v2, q4_v2, q5_v2, q6_v2⟩ := hxb_v2.cells; simp only at c0_v2 c1_v2 c2_v2 c3_v2 c4_v2 c5_v2 c6_v2 c7_v2 c8_v2 c9_v2 c10_v2; clear hxc_v2 hxb_v2; clear b2)
        | (go_at_call 108; refine (HOS.out v2 _ (by exact HL.out.2.1) HV2.out).mono ?_; rintro e m2 ⟨⟨y2, rfl⟩, k2⟩; have HK2 := Lib.hid k2; obtain ⟨a8_m2, a9_m2, a10_m2, hxc_m2, hxb_m2⟩ := HFA.out m2 _ HK2.out; obtain ⟨c0_m2, c1_m2, c2_m2, c3_m2, c4_m2, c5_m2, c6_m2, c7_m2, c8_m2, c9_m2, c10_m2⟩ := hxc_m2.at_; obtain ⟨q0_m2, q1_m2, q2_m2, q3_m2, q4_m2, q5_m2, q6_m2⟩ := hxb_m2.cells; simp only at c0_m2 c1_m2 c2_m2 c3_m2 c4_m2 c5_m2 c6_m2 c7_m2 c8_m2 c9_m2 c10_m2; clear hxc_m2 hxb_m2; clear k2)
        | fail)
    clear a8_m1 a9_m1 a10_m1 c0_m1 c1_m1 c2_m1 c3_m1 c4_m1 c5_m1 c6_m1 c7_m1 c8_m1 c9_m1 c10_m1 q0_m1 q1_m1 q2_m1 q3_m1 q4_m1 q5_m1 q6_m1
    clear a8_v2 a9_v2 a10_v2 c0_v2 c1_v2 c2_v2 c3_v2 c4_v2 c5_v2 c6_v2 c7_v2 c8_v2 c9_v2 c10_v2 q0_v2 q1_v2 q2_v2 q3_v2 q4_v2 q5_v2 q6_v2
    cases had with
    | false =>
      go_wp2
      refine bodyPost_end (results_none rfl _ _ _) rfl ?_
      exact HFIN.out _ _ (rfl) HK2.out
    | true =>
      go_wp2_with fail
      refine (HRE.out m2 _ (-1) (HK2.out)).mono ?_
      rintro e m3 ⟨rfl, k3⟩
      have HK3 := Lib.hid k3
      obtain ⟨a8_m3, a9_m3, a10_m3, hxc_m3, hxb_m3⟩ := HFA.out m3 _ HK3.out; obtain ⟨c0_m3, c1_m3, c2_m3, c3_m3, c4_m3, c5_m3, c6_m3, c7_m3, c8_m3, c9_m3, c10_m3⟩ := hxc_m3.at_; obtain ⟨q0_m3, q1_m3, q2_m3, q3_m3, q4_m3, q5_m3, q6_m3⟩ := hxb_m3.cells; simp only at c0_m3 c1_m3 c2_m3 c3_m3 c4_m3 c5_m3 c6_m3 c7_m3 c8_m3 c9_m3 c10_m3; clear hxc_m3 hxb_m3
      clear k3
      go_wp2
      refine bodyPost_end (results_none rfl _ _ _) rfl ?_
      exact HFIN.out _ _ (rfl) HK3.out
  rcases Classical.em (kd = 3) with rfl | k3
  · skip
    go_enter Tryz.func63, Tryz.ntmps63
    go_upto_region 8 with fail
    go_region_held3 (fun W => W.cell? ⟨ap, 8, none⟩ = some (.pointer (some ⟨tp, 0, none⟩)) ∧ W.cell? ⟨g, 1, none⟩ = some (.string key)) (go_keep)
      (first
        | (go_at_call 109; refine (HTD.out w2.drew _ (ArTo.belowR K0.out (below_drewN (Below.refl _ _) 1))).mono ?_; rintro e m1 ⟨⟨y1, rfl⟩, k1⟩; have HK1 := Lib.hid k1; obtain ⟨a8_m1, a9_m1, a10_m1, hxc_m1, hxb_m1⟩ := HFA.out m1 _ HK1.out; obtain ⟨c0_m1, c1_m1, c2_m1, c3_m1, c4_m1, c5_m1, c6_m1, c7_m1, c8_m1, c9_m1, c10_m1⟩ := hxc_m1.at_; obtain ⟨q0_m1, q1_m1, q2_m1, q3_m1, q4_m1, q5_m1, q6_m1⟩ := hxb_m1.cells; simp only at c0_m1 c1_m1 c2_m1 c3_m1 c4_m1 c5_m1 c6_m1 c7_m1 c8_m1 c9_m1 c10_m1; clear hxc_m1 hxb_m1; clear k1)
        | fail)
    clear a8 a9 a10 c0 c1 c2 c3 c4 c5 c6 c7 c8 c9 c10 q0 q1 q2 q3 q4 q5 q6
    go_upto_region 9 with fail
    go_region_held3 (fun W => W.cell? ⟨ap, 9, none⟩ = some (.pointer (some ⟨op, 0, none⟩)) ∧ W.cell? ⟨g, 1, none⟩ = some (.string key)) (go_keep)
      (first
        | (go_at_call 110; refine (HOD.out m1.drew _ (by exact HL.out.2.1) (ArTo.belowR HK1.out (below_drewN (Below.refl _ _) 1))).mono ?_; rintro e m2 ⟨⟨y2, rfl⟩, k2⟩; have HK2 := Lib.hid k2; obtain ⟨a8_m2, a9_m2, a10_m2, hxc_m2, hxb_m2⟩ := HFA.out m2 _ HK2.out; obtain ⟨c0_m2, c1_m2, c2_m2, c3_m2, c4_m2, c5_m2, c6_m2, c7_m2, c8_m2, c9_m2, c10_m2⟩ := hxc_m2.at_; obtain ⟨q0_m2, q1_m2, q2_m2, q3_m2, q4_m2, q5_m2, q6_m2⟩ := hxb_m2.cells; simp only at c0_m2 c1_m2 c2_m2 c3_m2 c4_m2 c5_m2 c6_m2 c7_m2 c8_m2 c9_m2 c10_m2; clear hxc_m2 hxb_m2; clear k2)
        | fail)
    clear a8_m1 a9_m1 a10_m1 c0_m1 c1_m1 c2_m1 c3_m1 c4_m1 c5_m1 c6_m1 c7_m1 c8_m1 c9_m1 c10_m1 q0_m1 q1_m1 q2_m1 q3_m1 q4_m1 q5_m1 q6_m1
    go_wp2_with fail
    refine (HRE.out m2 _ line (HK2.out)).mono ?_
    rintro e m3 ⟨rfl, k3⟩
    have HK3 := Lib.hid k3
    obtain ⟨a8_m3, a9_m3, a10_m3, hxc_m3, hxb_m3⟩ := HFA.out m3 _ HK3.out; obtain ⟨c0_m3, c1_m3, c2_m3, c3_m3, c4_m3, c5_m3, c6_m3, c7_m3, c8_m3, c9_m3, c10_m3⟩ := hxc_m3.at_; obtain ⟨q0_m3, q1_m3, q2_m3, q3_m3, q4_m3, q5_m3, q6_m3⟩ := hxb_m3.cells; simp only at c0_m3 c1_m3 c2_m3 c3_m3 c4_m3 c5_m3 c6_m3 c7_m3 c8_m3 c9_m3 c10_m3; clear hxc_m3 hxb_m3
    clear k3
    go_wp2
    refine bodyPost_end (results_none rfl _ _ _) rfl ?_
    exact HFIN.out _ _ (rfl) HK3.out
  rcases Classical.em (kd = 4) with rfl | k4
  · skip
    go_enter Tryz.func63, Tryz.ntmps63
    go_upto_region 12 with fail
    go_region_held3 (fun W => W.cell? ⟨ap, 10, none⟩ = some (.pointer (some ⟨lp, 0, none⟩)) ∧ W.cell? ⟨g, 9, none⟩ = some (.int .i64 line) ∧ W.cell? ⟨gb, 0, none⟩ = some (.int .i64 x0) ∧ W.cell? ⟨gb, 1, none⟩ = some (.int .i64 x1) ∧ W.cell? ⟨gb, 2, none⟩ = some (.int .u64 (x2 : Nat)) ∧ W.cell? ⟨gb, 3, none⟩ = some (.int .u64 (x3 : Nat)) ∧ W.cell? ⟨gb, 4, none⟩ = some (.int .u64 (x4 : Nat)) ∧ W.cell? ⟨gb, 5, none⟩ = some (.string x5) ∧ W.cell? ⟨gb, 6, none⟩ = some (.string x6)) (go_keep)
      (first
        | (go_at_call 81; refine (HLK.out w2.drew).mono ?_; rintro e v1 ⟨rfl, b1⟩; have HV1 := Lib.hid (ArTo.belowR (ArTo.belowR K0.out (below_drewN (Below.refl _ _) 1)) b1); obtain ⟨a8_v1, a9_v1, a10_v1, hxc_v1, hxb_v1⟩ := HFA.out v1 _ HV1.out; obtain ⟨c0_v1, c1_v1, c2_v1, c3_v1, c4_v1, c5_v1, c6_v1, c7_v1, c8_v1, c9_v1, c10_v1⟩ := hxc_v1.at_; obtain ⟨q0_v1, q1_v1, q2_v1, q3_v1, q4_v1, q5_v1, q6_v1⟩ := hxb_v1.cells; simp only at c0_v1 c1_v1 c2_v1 c3_v1 c4_v1 c5_v1 c6_v1 c7_v1 c8_v1 c9_v1 c10_v1; clear hxc_v1 hxb_v1; clear b1)
        | (go_at_call 111; refine (HFP.out v1 _ (by exact HL.out.2.2) HV1.out).mono ?_; rintro e m1 ⟨⟨y1, rfl⟩, k1⟩; have HK1 := Lib.hid k1; obtain ⟨a8_m1, a9_m1, a10_m1, hxc_m1, hxb_m1⟩ := HFA.out m1 _ HK1.out; obtain ⟨c0_m1, c1_m1, c2_m1, c3_m1, c4_m1, c5_m1, c6_m1, c7_m1, c8_m1, c9_m1, c10_m1⟩ := hxc_m1.at_; obtain ⟨q0_m1, q1_m1, q2_m1, q3_m1, q4_m1, q5_m1, q6_m1⟩ := hxb_m1.cells; simp only at c0_m1 c1_m1 c2_m1 c3_m1 c4_m1 c5_m1 c6_m1 c7_m1 c8_m1 c9_m1 c10_m1; clear hxc_m1 hxb_m1; clear k1)
        | fail)
    clear a8 a9 a10 c0 c1 c2 c3 c4 c5 c6 c7 c8 c9 c10 q0 q1 q2 q3 q4 q5 q6
    clear a8_v1 a9_v1 a10_v1 c0_v1 c1_v1 c2_v1 c3_v1 c4_v1 c5_v1 c6_v1 c7_v1 c8_v1 c9_v1 c10_v1 q0_v1 q1_v1 q2_v1 q3_v1 q4_v1 q5_v1 q6_v1
    go_wp2
    refine bodyPost_end (results_none rfl _ _ _) rfl ?_
    exact HFIN.out _ _ (rfl) HK1.out
  rcases Classical.em (kd = 5) with rfl | k5
  · skip
    go_enter Tryz.func63, Tryz.ntmps63
    go_wp2_with fail
    refine (HFO.out w2 _ (K0.out)).mono ?_
    rintro e m1 ⟨⟨y1, rfl⟩, k1⟩
    have HK1 := Lib.hid k1
    obtain ⟨a8_m1, a9_m1, a10_m1, hxc_m1, hxb_m1⟩ := HFA.out m1 _ HK1.out; obtain ⟨c0_m1, c1_m1, c2_m1, c3_m1, c4_m1, c5_m1, c6_m1, c7_m1, c8_m1, c9_m1, c10_m1⟩ := hxc_m1.at_; obtain ⟨q0_m1, q1_m1, q2_m1, q3_m1, q4_m1, q5_m1, q6_m1⟩ := hxb_m1.cells; simp only at c0_m1 c1_m1 c2_m1 c3_m1 c4_m1 c5_m1 c6_m1 c7_m1 c8_m1 c9_m1 c10_m1; clear hxc_m1 hxb_m1
    clear k1
    clear a8 a9 a10 c0 c1 c2 c3 c4 c5 c6 c7 c8 c9 c10 q0 q1 q2 q3 q4 q5 q6
    go_wp2_with fail
    refine (HRE.out m1 _ line (HK1.out)).mono ?_
    rintro e m2 ⟨rfl, k2⟩
    have HK2 := Lib.hid k2
    obtain ⟨a8_m2, a9_m2, a10_m2, hxc_m2, hxb_m2⟩ := HFA.out m2 _ HK2.out; obtain ⟨c0_m2, c1_m2, c2_m2, c3_m2, c4_m2, c5_m2, c6_m2, c7_m2, c8_m2, c9_m2, c10_m2⟩ := hxc_m2.at_; obtain ⟨q0_m2, q1_m2, q2_m2, q3_m2, q4_m2, q5_m2, q6_m2⟩ := hxb_m2.cells; simp only at c0_m2 c1_m2 c2_m2 c3_m2 c4_m2 c5_m2 c6_m2 c7_m2 c8_m2 c9_m2 c10_m2; clear hxc_m2 hxb_m2
    clear k2
    go_wp2
    refine bodyPost_end (results_none rfl _ _ _) rfl ?_
    exact HFIN.out _ _ (rfl) HK2.out
  have y2 : (kd == 2) = false := by simpa using k2
  have y3 : (kd == 3) = false := by simpa using k3
  have y4 : (kd == 4) = false := by simpa using k4
  have y5 : (kd == 5) = false := by simpa using k5
  go_enter Tryz.func63, Tryz.ntmps63
  go_wp2
  refine bodyPost_end (results_none rfl _ _ _) rfl ?_
  exact HFIN.out _ _ (by unfold lnkS; rw [if_neg k2, if_neg k3, if_neg k4, if_neg k5]) K0.out
end

end Go.Proofs.YtlghphccmgmomaaGreat
