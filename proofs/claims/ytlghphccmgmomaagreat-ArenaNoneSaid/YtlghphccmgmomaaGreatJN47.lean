/-
  Proved here, joined: PubW16, RdA16
  Conditions: as each part says.
-/
import Derived.Test.YtlghphccmgmomaaGreatJN46
import Derived.Test.YtlghphccmgmomaaGreatJN43
import Derived.Test.YtlghphccmgmomaaGreatJN41
import Derived.Deep.RegionHeld3
import Derived.Deep.Cut
import Derived.Deep.CutRange

/-
  Proved here: Publish, whole, package arena.
  Conditions: at most 90,000 links, 1,990 in the line, a million effects, texts of at most 2,000 bytes.
-/
namespace Go.Proofs.YtlghphccmgmomaaGreat
open Go Go.RowKit
set_option maxRecDepth 100000

open Classical
/-! ### Publish, whole -/
section
variable {b : Nat} {w w' : World} {col : Nat → Nat} {z : Pz} {s : Az}
theorem dropT_le (L : List Ln) (k : Ky) : (dropT L k).length ≤ L.length := by
  unfold dropT
  exact List.length_filter_le _ _
theorem setT_le (L : List Ln) (x : Ln) : (setT L x).length ≤ L.length + 1 := by
  unfold setT
  rw [putT_len]
  have := dropT_le L x.k
  omega
/-- By how much a change lengthens what the arena holds. -/
theorem prf_len (s : Az) (t : Int) (gp : Nat) (c : Ch) (x : BV) : (prf s t gp c x).T.length ≤ s.T.length + 1 ∧ (prf s t gp c x).O.length ≤ s.O.length + 1 ∧ (prf s t gp c x).Q.length ≤ s.Q.length + 1 ∧ (prf s t gp c x).E.length ≤ s.E.length + 1 := by
  have h1 := setT_le s.T (linkB c.line x)
  have h2 := setT_le s.O (linkB c.line x)
  have h3 := dropT_le s.T c.K
  have h4 := dropT_le s.O c.K
  have h5 : s.Q.tail.length ≤ s.Q.length := by rw [List.length_tail]; omega
  unfold prf
  split
  · refine ⟨?_, ?_, ?_, ?_⟩
    · show (lnkS _ _ _).T.length ≤ _
      unfold lnkS wrS16
      repeat' split
      all_goals (simp only []; omega)
    · show (lnkS _ _ _).O.length ≤ _
      unfold lnkS wrS16
      repeat' split
      all_goals (simp only []; omega)
    · show (lnkS _ _ _).Q.length ≤ _
      unfold lnkS wrS16
      repeat' split
      all_goals (simp only [List.length_append, List.length_cons, List.length_nil]; omega)
    · show (s.E ++ [_]).length ≤ _
      simp
  · omega
theorem prfN_len (s : Az) (t : Int) (gp : Nat) (G : List Ch) (N : List BV) (k : Nat) : (prfN s t gp G N k).T.length ≤ s.T.length + k ∧ (prfN s t gp G N k).O.length ≤ s.O.length + k ∧ (prfN s t gp G N k).Q.length ≤ s.Q.length + k ∧ (prfN s t gp G N k).E.length ≤ s.E.length + k := by
  induction k with
  | zero => exact ⟨Nat.le_refl _, Nat.le_refl _, Nat.le_refl _, Nat.le_refl _⟩
  | succ k ih =>
    show (match G[k]?, N[k]? with | some c, some x => prf (prfN s t gp G N k) t gp c x | _, _ => prfN s t gp G N k).T.length ≤ _ ∧ (match G[k]?, N[k]? with | some c, some x => prf (prfN s t gp G N k) t gp c x | _, _ => prfN s t gp G N k).O.length ≤ _ ∧ (match G[k]?, N[k]? with | some c, some x => prf (prfN s t gp G N k) t gp c x | _, _ => prfN s t gp G N k).Q.length ≤ _ ∧ (match G[k]?, N[k]? with | some c, some x => prf (prfN s t gp G N k) t gp c x | _, _ => prfN s t gp G N k).E.length ≤ _
    split
    · rename_i c x _ _
      have := prf_len (prfN s t gp G N k) t gp c x
      omega
    · omega
/-- The blocks that are written: texts that are short, an epoch that fits. -/
theorem numL_short {e id ver n : Nat} {G : List Ch} (hs : ∀ c ∈ G, Short c) (he : e < 18446744073709551616) : ∀ x ∈ numL e id ver G n, x.ep < 18446744073709551616 ∧ x.key.size ≤ 2000 ∧ x.val.size ≤ 2000 := by
  intro x hx
  unfold numL at hx
  obtain ⟨i, -, rfl⟩ := List.mem_map.1 hx
  unfold blkI
  split
  · rename_i c hc
    split
    · have h1 := blk_short (hs c (List.mem_of_getElem? hc)) e (if newH c then id + nNew (G.take i) + 1 else c.old.id) (ver + nNeed (G.take i) + 1)
      refine ⟨?_, h1⟩
      unfold blkH
      repeat' split
      all_goals exact he
    · exact ⟨by decide, by decide, by decide⟩
  · exact ⟨by decide, by decide, by decide⟩
/-- What Publish leaves of the arena. -/
noncomputable def pubS (s : Az) (t : Int) (e : Nat) (G : List Ch) : Az := if pubE s t e G = 0 then prfN s t (s.ver + 1) G (numL e s.id s.ver G G.length) G.length else s
def PubTo (b : Nat) (w : World) (col : Nat → Nat) (z : Pz) (s : Az) (t : Int) (e : Nat) (G : List Ch) (x : Ending) (w' : World) : Prop :=
  (pubE s t e G ≠ 0 → x = .returned (.tuple #[.slice none 0 0, .int .i64 (pubE s t e G)]) ∧ Below w.heap.size w w') ∧
  (pubE s t e G = 0 → ∃ g, x = .returned (.tuple #[.slice (some ⟨g, 0, none⟩) G.length G.length, .int .i64 0]) ∧ w.heap.size ≤ g ∧ w'.ownsRow w.heap.size RBo.tE RBo.k (.slice (some ⟨g, 0, none⟩) G.length G.length) G.length (RBo.enc (G.map hitH))) ∧
  ArTo b w col z (pubS s t e G) w'
theorem slab_258 {x : Int} (h0 : 0 ≤ slabOfN x) : 2 ≤ x ∧ x < 258 := by
  have := slabOfN_in (x := x) (by omega)
  omega
theorem own_line (h : Ar b w col z s) {c : Ch} (ho : ownH s.L c = true) : 2 ≤ c.line ∧ c.line < 258 := by
  unfold ownH at ho
  simp only [Bool.and_eq_true] at ho
  obtain ⟨k, hk⟩ := Option.isSome_iff_exists.1 ho.1
  have hm := (ofL_some h.pl.pool.rising).1 hk
  exact slab_258 (home_cls (h.pl.pool.home _ hm)).1
theorem pub_parts {t : Int} {e : Nat} {G : List Ch} (h : pubE s t e G = 0) : ownUp s.L (usedL s) G G.length = true ∧ (numL e s.id s.ver G G.length).any pastB = false := by
  unfold pubE at h
  repeat' split at h
  all_goals first | (exact absurd h (by decide)) | skip
  rename_i h1 h2 h3 h4 h5 h6
  exact ⟨by simpa using h4, by simpa using h6⟩
set_option maxHeartbeats 1600000 in
theorem publish_any (h : Ar b w col z s) (t : Int) (e : Nat) (A : Option Addr) (G : List Ch) (n cap : Nat) (hn : G.length = n) (hr : RH.Row w A G) (hc : n ≤ cap) (hm : cap ≤ maxLen) (hs : ∀ c ∈ G, Short c) (he : e < 18446744073709551616)
    (hid : s.id + 10 < 18446744073709551616) (hver : s.ver + 10 < 9223372036854775808) (hfr : ∀ a, A = some a → ¬ (b < col a.block ∧ col a.block ≤ b + 10))
    (hT : s.T.length ≤ 90000) (hO : s.O.length ≤ 90000) (hQ : s.Q.length ≤ 1990) (hE : s.E.length ≤ 1000000) :
    Calls Tryz.prog 4 #[.pointer (some ⟨z.ap, 0, none⟩), .int .i64 t, .int .u64 (e : Nat), .slice A n cap] w (PubTo b w col z s t e G) := by
  refine publish_of h (by omega) (by omega) t e A G n cap hn hr hc hm hs hid (by omega) _ ?_ ?_
  · intro hne W hW
    refine ⟨fun _ => ⟨rfl, hW⟩, fun h0 => absurd h0 hne, ?_⟩
    unfold pubS
    rw [if_neg hne]
    exact ArTo.refl h hW
  · intro h0 hn3 W g hW hown
    have hp := pub_parts h0
    rw [hn] at hp
    have hNl := numL_len e s.id s.ver G n
    have hpast : ∀ x ∈ numL e s.id s.ver G n, pastB x = false := fun x hx => by
      have := List.any_eq_false.1 hp.2 x hx
      simpa using this
    have hsh := numL_short (id := s.id) (ver := s.ver) (n := n) hs he
    obtain ⟨-, A9, c9, e9, -, -, r9, -, h9⟩ := Rec.row_of_own (R := RBk) (n := n) hown (by rw [hNl]; omega)
    cases e9
    have hg9 : col g = 0 := h.nw g (h9 _ rfl).1
    have hs2 : ∀ c ∈ G, Short c ∧ (needH c = true → 0 ≤ c.line ∧ c.line ≤ 1000000) := fun c hcm => by
      refine ⟨hs c hcm, fun hnd => ?_⟩
      obtain ⟨i, hi⟩ := List.getElem?_of_mem hcm
      have hin : i < n := hn ▸ (List.getElem?_eq_some_iff.1 hi).1
      have h1 := List.all_eq_true.1 hp.1 i (List.mem_range.2 hin)
      rw [okO_some hi, hnd] at h1
      simp only [Bool.not_true, Bool.false_or, Bool.and_eq_true] at h1
      have := own_line h h1.1
      omega
    have hx : ∀ x ∈ numL e s.id s.ver G n, x.ok ∧ x.key.size ≤ 2000 ∧ x.val.size ≤ 2000 := fun x hxm => by
      have h1 := hpast x hxm
      have h2 := hsh x hxm
      unfold pastB at h1
      simp only [Bool.or_eq_false_iff, decide_eq_false_iff_not] at h1
      exact ⟨⟨by omega, by omega, h2.1⟩, h2.2⟩
    have hlen : ∀ k, k ≤ n → (prfN s t (s.ver + 1) G (numL e s.id s.ver G n) k).T.length ≤ 100000 ∧ (prfN s t (s.ver + 1) G (numL e s.id s.ver G n) k).O.length ≤ 100000 ∧ (prfN s t (s.ver + 1) G (numL e s.id s.ver G n) k).Q.length ≤ 2000 ∧ (prfN s t (s.ver + 1) G (numL e s.id s.ver G n) k).E.length < 1048576 := fun k hk => by
      have := prfN_len s t (s.ver + 1) G (numL e s.id s.ver G n) k
      omega
    refine (perform_any (h.below hW) t A G n cap g (numL e s.id s.ver G n) hn hNl (hr.below hW) r9 hn3 hfr (by rw [hg9]; omega) hs2 hx (by omega) hlen).mono ?_
    rintro x W' ⟨g2, rfl, hg2, ho2, hto⟩
    rw [List.length_map] at ho2 ⊢
    refine ⟨_, rfl, fun hne => absurd h0 hne, fun _ => ⟨g2, rfl, Nat.le_trans hW.size hg2, own_mono ho2 hW.size⟩, ?_⟩
    unfold pubS
    rw [if_pos h0, hn]
    exact ArTo.since h hW hto
end

end Go.Proofs.YtlghphccmgmomaaGreat

/-
  Proved here: a block's lines read back, package arena.
  Conditions: links whose lines are of at most a million.
-/
namespace Go.Proofs.YtlghphccmgmomaaGreat
open Go Go.RowKit
set_option maxRecDepth 100000

open Classical
/-! ### A block's lines, read -/
def lnI (d : St) (x : Int) : List UInt8 := if 0 ≤ x ∧ x < (d.1.length : Nat) then (clAt d.1 x).v else []
theorem load_int {w : World} {p q : Nat} {s : St} (h : DvS w p q s) (x : Int) : Calls Tryz.prog 79 #[.pointer (some ⟨p, 0, none⟩), .int .i64 x] w fun e w' => ∃ A m c er, e = .returned (.tuple #[.slice A m c, .int .i64 er]) ∧ (lnI s x).length = m ∧ m ≤ 64 ∧ Row w' A (lnI s x) ∧ m ≤ c ∧ (A = none → c = 0) ∧ Below w.heap.size w w' := by
  unfold lnI
  split
  · rename_i hi
    obtain ⟨i, rfl⟩ : ∃ i : Nat, x = (i : Int) := ⟨x.toNat, by omega⟩
    have hi' : i < s.1.length := by omega
    have hl := (clAt_ok h i hi').1
    refine (load_at h i hi').mono ?_
    rintro e w' ⟨g, rfl, _, ha, hb⟩
    exact ⟨some ⟨g, 0, none⟩, 64, 64, 0, rfl, hl, Nat.le_refl _, ha.row (by omega), Nat.le_refl _, (fun e => by cases e), hb⟩
  · refine (load_bad h x (by omega)).mono ?_
    rintro e w' ⟨rfl, rfl⟩
    exact ⟨none, 0, 0, 2, rfl, rfl, by omega, row_nil _ _, by simp, fun _ => rfl, Below.refl _ _⟩
def rdUp (d : St) (line : Int) : Nat → List UInt8
  | 0 => []
  | i + 1 => rdUp d line i ++ lnI d (line + i)
theorem dec_row (w : World) (A : Option Addr) (n c : Nat) (l : List UInt8) (hl : l.length = n) (hc : n ≤ c) (hr : Row w A l) :
    Calls Tryz.prog 80 #[.slice A n c] w fun e w' => e = .returned (if isLines l then .tuple #[(readL l).agg, .bool true] else .tuple #[zeroBV.agg, .bool false]) ∧ Below w.heap.size w w' := by
  rcases Nat.eq_zero_or_pos l.length with h0 | h0
  · have hno : ¬ isLines l := by
      rintro ⟨y, -, hm, rfl⟩
      rw [linesL_len hm] at h0
      have := may_span hm
      omega
    rw [if_neg hno]
    exact dec_refused w A n c fun W _ => read_short W A n c (by omega)
  · obtain ⟨b, off, rfl, -⟩ := hr.2 h0
    rcases Classical.em (isLines l) with h | h
    · rw [if_pos h]
      obtain ⟨y, ho, hm, rfl⟩ := h
      rw [read_lines hm ho]
      exact dec_yes w b off n c y ho hm hl hc hr
    · rw [if_neg h]
      exact dec_no w b off n c l h hl hc hr
/-- The block of this kind that k is the link of, if its lines hold it. -/
noncomputable def rdB (d : St) (k : Ln) (kind : Int) : Option BV :=
  if isLines (rdUp d k.line (spanN k.cl)) then
    (if ((readL (rdUp d k.line (spanN k.cl))).kd == kind && eqLn (linkB k.line (readL (rdUp d k.line (spanN k.cl)))) k) = true then some (readL (rdUp d k.line (spanN k.cl))) else none)
  else none
def rdV (o : Option BV) : Value := match o with
  | some x => .tuple #[x.agg, .bool true]
  | none => .tuple #[zeroBV.agg, .bool false]
open Classical
section
variable {b : Nat} {w w' : World} {col : Nat → Nat} {z : Pz} {s : Az}
theorem rdUp_len (d : St) (hd : ∀ x, (lnI d x).length ≤ 64) (line : Int) (i : Nat) : (rdUp d line i).length ≤ 64 * i := by
  induction i with
  | zero => exact Nat.le_refl _
  | succ i ih =>
    show (rdUp d line i ++ lnI d (line + i)).length ≤ _
    have := hd (line + i)
    rw [List.length_append]
    omega
theorem lnI_64 {w : World} {p q : Nat} {d : St} (h : DvS w p q d) (x : Int) : (lnI d x).length ≤ 64 := by
  unfold lnI
  split
  · rename_i hi
    obtain ⟨i, rfl⟩ : ∃ i : Nat, x = (i : Int) := ⟨x.toNat, by omega⟩
    exact Nat.le_of_eq (clAt_ok h i (by omega)).1
  · exact Nat.zero_le _
theorem span_8 (c : Int) : spanN c ≤ 8 := by
  have := spanN_cases c
  omega
theorem row_cap {w : World} {base n : Nat} {v : Value} {l : List UInt8} (h : w.ownsRow base 5 1 v n (enc l)) (hl : l.length ≤ 1073741824) : ∃ A cap, v = .slice A n cap ∧ n ≤ cap ∧ Row w A l := by
  obtain ⟨A, cap, e, hr⟩ := row_of_own h hl
  refine ⟨A, cap, e, ?_, hr⟩
  rcases h.2 with ⟨_, e0⟩ | ⟨g, c2, cur, e2, _, _, h1, _⟩
  · omega
  · rw [e] at e2; cases e2; exact h1
attribute [local go_sem high] eq_link in
set_option maxHeartbeats 6400000 in
theorem read_any (h : Ar b w col z s) (k : Ln) (kind : Int) (hk : -1000000 ≤ k.line ∧ k.line ≤ 1000000) :
    Calls Tryz.prog 37 #[.agg #[.pointer (some ⟨z.dp, 0, none⟩)], .agg #[.string k.str, .int .u64 (k.id : Nat), .int .u64 (k.ver : Nat), .int .i64 k.line, .int .i64 k.cl], .int .i64 kind] w fun e w' => e = .returned (rdV (rdB s.d k kind)) ∧ Below w.heap.size w w' := by
  obtain ⟨g, hg⟩ : ∃ g, w.heap.size = g := ⟨_, rfl⟩
  obtain ⟨w1, hw1⟩ : ∃ w1, w.alloc (.cells #[.pointer (some ⟨z.dp, 0, none⟩)] 71) = w1 := ⟨_, rfl⟩
  have hx1 : w1.heap[g]? = some (.cells #[.pointer (some ⟨z.dp, 0, none⟩)] 71 (0, 0)) := by rw [← hw1, ← hg]; exact heap_alloc_new w _
  have hb1 : Below g w w1 := by rw [← hw1, ← hg]; exact (Below.refl _ _).alloc (Nat.le_refl _) _
  obtain ⟨gb, hgb⟩ : ∃ g, w1.heap.size = g := ⟨_, rfl⟩
  obtain ⟨w2, hw2⟩ : ∃ w2, w1.alloc (.cells #[.string k.str, .int .u64 (k.id : Nat), .int .u64 (k.ver : Nat), .int .i64 k.line, .int .i64 k.cl] 29) = w2 := ⟨_, rfl⟩
  have hx2 : w2.heap[gb]? = some (.cells #[.string k.str, .int .u64 (k.id : Nat), .int .u64 (k.ver : Nat), .int .i64 k.line, .int .i64 k.cl] 29 (0, 0)) := by rw [← hw2, ← hgb]; exact heap_alloc_new w1 _
  have hb2 : Below gb w1 w2 := by rw [← hw2, ← hgb]; exact (Below.refl _ _).alloc (Nat.le_refl _) _
  obtain ⟨gc, hgc⟩ : ∃ g, w2.heap.size = g := ⟨_, rfl⟩
  have hl1 : g < gb := hgb ▸ lt_of_heap hx1
  have hl2 : gb < gc := hgc ▸ lt_of_heap hx2
  have HGC := Lib.hid hgc
  have HG : Hid (g < gb ∧ gb < gc) := ⟨hl1, hl2⟩
  have HX1 : Hid (w2.heap[g]? = some (.cells #[.pointer (some ⟨z.dp, 0, none⟩)] 71 (0, 0))) := (hb2.block g hl1).trans hx1
  have HX2 := Lib.hid hx2
  have HB2 : Hid (Below g w w2) := hb1.trans (hb2.mono (Nat.le_of_lt hl1))
  have HLD := Lib.hid (fun W (hW : Below g w W) x => load_int (h.below (hg.symm ▸ hW)).dv x)
  have HSP := Lib.hid (fun W => span_any k.cl W)
  have HRL : Hid (∀ i, (rdUp s.d k.line i).length ≤ 64 * i) := fun i => rdUp_len s.d (lnI_64 h.dv) k.line i
  have HN8 : Hid (spanN k.cl ≤ 8) := span_8 k.cl
  have HZ := Lib.hid zero_block
  have HRU : Hid (∀ i, rdUp s.d k.line (i + 1) = rdUp s.d k.line i ++ lnI s.d (k.line + i)) := fun i => rfl
  obtain ⟨R, hR⟩ : ∃ R, (fun e w' => e = Ending.returned (rdV (rdB s.d k kind)) ∧ Below g w w') = R := ⟨_, rfl⟩
  rw [hg, hR]
  obtain ⟨n, hn⟩ : ∃ n, spanN k.cl = n := ⟨_, rfl⟩
  have HFIN : Hid (∀ V W, V = rdV (if isLines (rdUp s.d k.line n) then (if ((readL (rdUp s.d k.line n)).kd == kind && eqLn (linkB k.line (readL (rdUp s.d k.line n))) k) = true then some (readL (rdUp s.d k.line n)) else none) else none) → Below g w W → R (.returned V) W) := fun V W e1 e2 => by
    rw [← hR]
    refine ⟨?_, e2⟩
    rw [e1]
    unfold rdB
    rw [hn]
  rw [hn] at HSP HN8
  have hgu := guard_link16
  generalize z.dp = dp at *
  generalize s.d = D at *
  generalize hln : k.line = line at *
  have hline : -1000000 ≤ line ∧ line ≤ 1000000 := hk
  have d0 : w2.cell? ⟨g, 0, none⟩ = some (.pointer (some ⟨dp, 0, none⟩)) := by have hh := HX1.out; simp [World.cell?, hh]
  obtain ⟨l0, l1, l2, l3, l4⟩ := cells5 HX2.out
  have HLNE : Hid (k.line = line) := hln
  clear h hk hx1 hx2 hb1 hb2 hgc hl1 hl2 hR hn
  go_enter Tryz.func37, Tryz.ntmps37
  go_wp2_with (first
    | ((with_reducible show wpList _ _ _ (⟨some 6, .alloc _, _, _, _, _⟩ :: _) _ _); refine wpList_alloc_var (o := ⟨some 6, _, _, _, _, _⟩) rfl 95 rfl gc HGC.out _ HZ.out ?_; intro v3 H3 B3; have HV1 := Lib.hid ((B3.out.block g (Nat.lt_trans HG.out.1 HG.out.2)).trans HX1.out); have HV2 := Lib.hid ((B3.out.block gb HG.out.2).trans HX2.out); clear d0 l0 l1 l2 l3 l4; have d0 : v3.cell? ⟨g, 0, none⟩ = some (.pointer (some ⟨dp, 0, none⟩)) := (by have hh := HV1.out; simp [World.cell?, hh]); obtain ⟨l0, l1, l2, l3, l4⟩ := cells5 HV2.out)
    | fail)
  refine (HSP.out _).mono ?_
  rintro e w' ⟨rfl, rfl⟩
  clear d0 l0 l1 l2 l3 l4
  have HB3 : Hid (Below g w v3) := HB2.out.trans (B3.out.mono (by have := HG.out; omega))
  have HL3 : Hid (gc < v3.heap.size) := lt_of_heap H3.out
  obtain ⟨q, hq⟩ : ∃ q, v3.heap.size = q := ⟨_, rfl⟩
  have HQ := Lib.hid hq
  clear hq
  have hn8 : n ≤ 8 := HN8.out
  go_wp2
  go_loopg [17, 8] n (fun gk s17 s8 wx => ∃ (i : Nat) (V : Value), i + gk = n ∧ s17 = .int .i64 i ∧ V = s8 ∧ Hid (wx.ownsRow q 5 1 V (rdUp D line i).length (enc (rdUp D line i))) ∧ Hid (Below q v3 wx))
  case atStart => exact ⟨0, _, by omega, rfl, rfl, World.ownsRow_nil _ _ _ _, Below.refl _ _⟩
  case round =>
    obtain ⟨i, V, hig, rfl, rfl, HO, HW⟩ := hrel
    have HWW : Hid (Below g w wr) := HB3.out.trans (HW.out.mono (by have := HG.out; have := HL3.out; have := HQ.out; omega))
    have HR1 := Lib.hid ((HW.out.block g (by have := HG.out; have := HL3.out; have := HQ.out; omega)).trans HV1.out)
    have HR2 := Lib.hid ((HW.out.block gb (by have := HG.out; have := HL3.out; have := HQ.out; omega)).trans HV2.out)
    have HR3 := Lib.hid ((HW.out.block gc (by have := HL3.out; have := HQ.out; omega)).trans H3.out)
    have HSQ : Hid (q ≤ wr.heap.size) := HQ.out ▸ HW.out.size
    have d0 : wr.cell? ⟨g, 0, none⟩ = some (.pointer (some ⟨dp, 0, none⟩)) := by have hh := HR1.out; simp [World.cell?, hh]
    obtain ⟨l0, l1, l2, l3, l4⟩ := cells5 HR2.out
    cases gk with
    | zero =>
      obtain rfl : i = n := by omega
      have hii : ¬ (i : Int) < (i : Int) := by omega
      obtain ⟨A, cap, rfl, hcap, hrow⟩ := row_cap HO.out (by have := HRL.out i; omega)
      have HDC := Lib.hid (dec_row wr A _ cap _ rfl hcap hrow)
      generalize hL : rdUp D line i = L at *
      clear hrow HRU HRL hL
      obtain ⟨x, hx⟩ : ∃ x, readL L = x := ⟨_, rfl⟩
      rw [hx] at HDC HFIN
      have HLK := Lib.hid (fun W => linkof_any line x W)
      clear hx
      unfold BV.agg at HDC
      rcases Classical.em (isLines L) with hL | hL
      · rw [if_pos hL] at HDC
        have HF2 : Hid (∀ V W, V = rdV (if (x.kd == kind && eqLn (linkB line x) k) = true then some x else none) → Below g w W → R (.returned V) W) := fun V W e1 e2 => HFIN.out V W (by rw [e1, if_pos hL]) e2
        clear HFIN hL
        have HFN : Hid ((x.kd == kind && eqLn (linkB line x) k) = false → ∀ W, Below g w W → R (.returned (.tuple #[zeroBV.agg, .bool false])) W) := fun e W hW => HF2.out _ W (by rw [e]; rfl) hW
        have HFY : Hid ((x.kd == kind && eqLn (linkB line x) k) = true → ∀ W, Below g w W → R (.returned (.tuple #[x.agg, .bool true])) W) := fun e W hW => HF2.out _ W (by rw [e]; rfl) hW
        have HBX : Hid (∀ W p, W.heap[p]? = some (.cells #[.int .i64 x.cl, .int .i64 x.kd, .int .u64 (x.id : Nat), .int .u64 (x.ver : Nat), .int .u64 (x.ep : Nat), .string x.key, .string x.val] 95 (0, 0)) → Box W p x) := fun W p h => h
        clear HF2
        have heq : eqLn (linkB line x) k = (x.key.toList == k.str.toList && (((x.id : Nat) : Int) == ((k.id : Nat) : Int) && (((x.ver : Nat) : Int) == ((k.ver : Nat) : Int) && x.cl == k.cl))) := by
          have e1 : (linkB line x).str = x.key := by cases x; rfl
          unfold eqLn
          rw [e1]
          show (_ && (_ && (_ && (line == k.line && _)))) = _
          rw [HLNE.out]
          simp
          rfl
        rw [heq] at HFN HFY
        clear heq
        go_wp2_with (first
          | (go_at_call 80; refine HDC.out.mono ?_; rintro e w4 ⟨rfl, b4⟩; have HB4 : Hid (Below g w w4) := HWW.out.trans (b4.mono (by have := HSQ.out; have := HG.out; have := HL3.out; have := HQ.out; omega)); have HR34 := Lib.hid ((b4.block gc (lt_of_heap HR3.out)).trans HR3.out); have HR24 := Lib.hid ((b4.block gb (lt_of_heap HR2.out)).trans HR2.out); obtain ⟨ge, hge⟩ : ∃ ge, w4.heap.size = ge := ⟨_, rfl⟩; have HGE := Lib.hid hge; have HLE : Hid (gc < ge) := hge ▸ lt_of_heap HR34.out; clear b4 hge d0 l0 l1 l2 l3 l4)
          | ((with_reducible show wpList _ _ _ (⟨some 12, .alloc _, _, _, _, _⟩ :: _) _ _); refine wpList_alloc_var (o := ⟨some 12, _, _, _, _, _⟩) rfl 95 rfl ge HGE.out _ HZ.out ?_; intro v5 H5 B5)
          | ((with_reducible show wpList _ _ _ (⟨none, .store _ (.tmp 12) _, _, _, _, _⟩ :: _) _ _); refine wpList_store_whole (o := ⟨none, .store 95 (.tmp 12) (.tmp 37), _, _, _, _⟩) rfl _ _ _ rfl rfl ge #[.int .i64 x.cl, .int .i64 x.kd, .int .u64 (x.id : Nat), .int .u64 (x.ver : Nat), .int .u64 (x.ep : Nat), .string x.key, .string x.val] rfl rfl 95 _ H5.out size_block rfl (onesB _ _ _ _ _ _ _) ?_; intro v6 H6 B6; have HR36 := Lib.hid (((B5.out.trans B6.out).block gc HLE.out).trans HR34.out); have HR26 := Lib.hid (((B5.out.trans B6.out).block gb (by have := HG.out; have := HLE.out; omega)).trans HR24.out); have HB6 : Hid (Below g w v6) := HB4.out.trans ((B5.out.trans B6.out).mono (by have := HG.out; have := HLE.out; omega)))
          | fail)
        obtain ⟨p0, p1, p2, p3, p4, p5, p6⟩ := cells7 H6.out
        obtain ⟨l0, l1, l2, l3, l4⟩ := cells5 HR26.out
        cases hkd : (x.kd == kind) with
        | false =>
          have hkn : (x.kd != kind) = true := by rw [bne, hkd]; rfl
          rw [hkd] at HFN
          have HF3 := Lib.hid (HFN.out rfl)
          go_quiet (fail)
          go_wp2_with (first
            | ((with_reducible show wpList _ _ _ (⟨none, .store _ (.tmp 6) _, _, _, _, _⟩ :: _) _ _); refine wpList_store_whole (o := ⟨none, .store 95 (.tmp 6) (.tmp 55), _, _, _, _⟩) rfl _ _ _ rfl rfl gc #[.int .i64 0, .int .i64 0, .int .u64 0, .int .u64 0, .int .u64 0, .string ⟨#[]⟩, .string ⟨#[]⟩] rfl rfl 95 _ HR36.out size_block rfl (by decide +kernel) ?_; intro v7 H7 B7)
            | fail)
          refine bodyPost_ret (results_box (b := zeroBV) rfl rfl rfl H7.out) rfl ?_
          exact HF3.out _ (HB6.out.trans ((below_drewN (Below.refl _ _) _).trans (B7.out.mono (Nat.le_of_lt (Nat.lt_trans HG.out.1 HG.out.2)))))
        | true =>
          have hkn : (x.kd != kind) = false := by rw [bne, hkd]; rfl
          rw [hkd] at HFN HFY
          have HLK6 := Lib.hid (HLK.out v6.drew)
          have HKP : Hid (∀ W, Below v6.heap.size v6 W → W.heap[ge]? = v6.heap[ge]? ∧ W.heap[gb]? = v6.heap[gb]? ∧ W.heap[gc]? = v6.heap[gc]?) := fun W hW => ⟨hW.block ge (lt_of_heap H6.out), hW.block gb (lt_of_heap HR26.out), hW.block gc (lt_of_heap HR36.out)⟩
          clear HLK
          obtain ⟨x0, x1, x2, x3, x4, x5, x6⟩ := x
          simp only at *
          go_region_held3 (fun W => W.cell? ⟨ge, 0, none⟩ = some (.int .i64 x0) ∧ W.cell? ⟨ge, 1, none⟩ = some (.int .i64 x1) ∧ W.cell? ⟨ge, 2, none⟩ = some (.int .u64 (x2 : Nat)) ∧ W.cell? ⟨ge, 3, none⟩ = some (.int .u64 (x3 : Nat)) ∧ W.cell? ⟨ge, 4, none⟩ = some (.int .u64 (x4 : Nat)) ∧ W.cell? ⟨ge, 5, none⟩ = some (.string x5) ∧ W.cell? ⟨ge, 6, none⟩ = some (.string x6) ∧ W.cell? ⟨gb, 0, none⟩ = some (.string k.str) ∧ W.cell? ⟨gb, 1, none⟩ = some (.int .u64 (k.id : Nat)) ∧ W.cell? ⟨gb, 2, none⟩ = some (.int .u64 (k.ver : Nat)) ∧ W.cell? ⟨gb, 3, none⟩ = some (.int .i64 line) ∧ W.cell? ⟨gb, 4, none⟩ = some (.int .i64 k.cl)) (go_keep)
            (first
              | (go_at_call 81; refine HLK6.out.mono ?_; rintro e w9 ⟨rfl, b9⟩; obtain ⟨k1, k2, k3⟩ := HKP.out w9 ((Below.refl _ _).drew.trans b9); obtain ⟨p0, p1, p2, p3, p4, p5, p6⟩ := cells7 (k1.trans H6.out); obtain ⟨l0, l1, l2, l3, l4⟩ := cells5 (k2.trans HR26.out))
              | fail)
          obtain ⟨k1, k2, k3⟩ := HKP.out w9 ((Below.refl _ _).drew.trans b9)
          have HR39 := Lib.hid (k3.trans HR36.out)
          have HB9 : Hid (Below g w w9) := HB6.out.trans (((Below.refl _ _).drew.trans b9).mono (by have := HG.out; have := lt_of_heap HR36.out; rw [show v6.drew.heap.size = v6.heap.size by simp]; omega))
          generalize (x5.toList == k.str.toList) = c1 at *
          generalize (((x2 : Nat) : Int) == ((k.id : Nat) : Int)) = c2 at *
          generalize (((x3 : Nat) : Int) == ((k.ver : Nat) : Int)) = c3 at *
          generalize (x0 == k.cl) = c4 at *
          obtain ⟨nq, hnq⟩ : ∃ nq, (!c1 || (!c2 || (!c3 || !c4))) = nq := ⟨_, rfl⟩
          rw [hnq]
          have HNF : Hid (nq = true → ∀ W, Below g w W → R (.returned (.tuple #[zeroBV.agg, .bool false])) W) := fun e => HFN.out (by rw [e] at hnq; revert hnq; cases c1 <;> cases c2 <;> cases c3 <;> cases c4 <;> simp)
          have HNY : Hid (nq = false → ∀ W, Below g w W → R (.returned (.tuple #[(BV.agg ⟨x0, x1, x2, x3, x4, x5, x6⟩), .bool true])) W) := fun e => HFY.out (by rw [e] at hnq; revert hnq; cases c1 <;> cases c2 <;> cases c3 <;> cases c4 <;> simp)
          clear HFN HFY k1 k2 k3 b9 hnq
          cases nq with
          | true =>
            have HF3 := Lib.hid (HNF.out rfl)
            go_wp2_with (first
              | ((with_reducible show wpList _ _ _ (⟨none, .store _ (.tmp 6) _, _, _, _, _⟩ :: _) _ _); refine wpList_store_whole (o := ⟨none, .store 95 (.tmp 6) (.tmp 55), _, _, _, _⟩) rfl _ _ _ rfl rfl gc #[.int .i64 0, .int .i64 0, .int .u64 0, .int .u64 0, .int .u64 0, .string ⟨#[]⟩, .string ⟨#[]⟩] rfl rfl 95 _ HR39.out size_block rfl (by decide +kernel) ?_; intro v7 H7 B7)
              | fail)
            refine bodyPost_ret (results_box (b := zeroBV) rfl rfl rfl H7.out) rfl ?_
            exact HF3.out _ (HB9.out.trans (B7.out.mono (Nat.le_of_lt (Nat.lt_trans HG.out.1 HG.out.2))))
          | false =>
            have HF3 := Lib.hid (HNY.out rfl)
            go_wp2_with (first
              | ((with_reducible show wpList _ _ _ (⟨none, .store _ (.tmp 6) _, _, _, _, _⟩ :: _) _ _); refine wpList_store_whole (o := ⟨none, .store 95 (.tmp 6) (.tmp 56), _, _, _, _⟩) rfl _ _ _ rfl rfl gc #[.int .i64 x0, .int .i64 x1, .int .u64 (x2 : Nat), .int .u64 (x3 : Nat), .int .u64 (x4 : Nat), .string x5, .string x6] rfl rfl 95 _ HR39.out size_block rfl (onesB _ _ _ _ _ _ _) ?_; intro v7 H7 B7)
              | fail)
            refine bodyPost_ret (results_box (b := ⟨x0, x1, x2, x3, x4, x5, x6⟩) rfl rfl rfl H7.out) rfl ?_
            exact HF3.out _ (HB9.out.trans (B7.out.mono (Nat.le_of_lt (Nat.lt_trans HG.out.1 HG.out.2))))
      · rw [if_neg hL] at HDC
        have HF2 : Hid (∀ W, Below g w W → R (.returned (.tuple #[zeroBV.agg, .bool false])) W) := fun W e2 => HFIN.out _ W (by rw [if_neg hL]; rfl) e2
        clear HFIN hL HLK
        unfold zeroBV at HDC
        simp only at HDC
        go_wp2_with (first
          | (go_at_call 80; refine HDC.out.mono ?_; rintro e w4 ⟨rfl, b4⟩; have HB4 : Hid (Below g w w4) := HWW.out.trans (b4.mono (by have := HSQ.out; have := HG.out; have := HL3.out; have := HQ.out; omega)); have HR34 := Lib.hid ((b4.block gc (lt_of_heap HR3.out)).trans HR3.out); obtain ⟨ge, hge⟩ : ∃ ge, w4.heap.size = ge := ⟨_, rfl⟩; have HGE := Lib.hid hge; have HLE : Hid (gc < ge) := hge ▸ lt_of_heap HR34.out; clear b4 hge d0 l0 l1 l2 l3 l4)
          | ((with_reducible show wpList _ _ _ (⟨some 12, .alloc _, _, _, _, _⟩ :: _) _ _); refine wpList_alloc_var (o := ⟨some 12, _, _, _, _, _⟩) rfl 95 rfl ge HGE.out _ HZ.out ?_; intro v5 H5 B5)
          | ((with_reducible show wpList _ _ _ (⟨none, .store _ (.tmp 12) _, _, _, _, _⟩ :: _) _ _); refine wpList_store_whole (o := ⟨none, .store 95 (.tmp 12) (.tmp 37), _, _, _, _⟩) rfl _ _ _ rfl rfl ge #[.int .i64 0, .int .i64 0, .int .u64 0, .int .u64 0, .int .u64 0, .string ⟨#[]⟩, .string ⟨#[]⟩] rfl rfl 95 _ H5.out size_block rfl (by decide +kernel) ?_; intro v6 H6 B6; have HR36 := Lib.hid (((B5.out.trans B6.out).block gc HLE.out).trans HR34.out); have HB6 : Hid (Below g w v6) := HB4.out.trans ((B5.out.trans B6.out).mono (by have := HG.out; have := HLE.out; omega)))
          | fail)
        go_quiet (fail)
        go_wp2_with (first
          | ((with_reducible show wpList _ _ _ (⟨none, .store _ (.tmp 6) _, _, _, _, _⟩ :: _) _ _); refine wpList_store_whole (o := ⟨none, .store 95 (.tmp 6) (.tmp 55), _, _, _, _⟩) rfl _ _ _ rfl rfl gc #[.int .i64 0, .int .i64 0, .int .u64 0, .int .u64 0, .int .u64 0, .string ⟨#[]⟩, .string ⟨#[]⟩] rfl rfl 95 _ HR36.out size_block rfl (by decide +kernel) ?_; intro v7 H7 B7)
          | fail)
        refine bodyPost_ret (results_box (b := zeroBV) rfl rfl rfl H7.out) rfl ?_
        exact HF2.out _ (HB6.out.trans ((below_drewN (Below.refl _ _) _).trans (B7.out.mono (Nat.le_of_lt (Nat.lt_trans HG.out.1 HG.out.2)))))
    | succ gk =>
      have hii : (i : Int) < (n : Int) := by omega
      have hi0 : (0 : Int) ≤ (i : Int) := by omega
      have hi8 : (i : Int) < 8 := by omega
      have HLL := Lib.hid (HLD.out wr HWW.out (line + i))
      have HLI := Lib.hid (HRU.out i)
      have HIN : Hid (i ≤ 8 ∧ (rdUp D line i).length ≤ 64 * i) := ⟨by omega, HRL.out i⟩
      generalize hy : lnI D (line + i) = y at *
      clear hy
      go_wp2_with (first
        | (go_at_call 79; refine HLL.out.mono ?_; rintro e w4 ⟨A, m, c, er, rfl, hlm, hm64, hrow, hmc, hA, hb⟩; have HO4 := Lib.hid (own_keep HO.out hb); have HB4 : Hid (Below q v3 w4) := HW.out.trans (hb.mono HSQ.out); have hba : q ≤ w4.heap.size := Nat.le_trans HSQ.out hb.size; obtain ⟨V5, w5, hrun, ho5, hb5⟩ := run_app_below w4 q _ _ _ HO4.out A m c y hlm hrow hA (by have := HIN.out; omega) hba; have HRUN := Lib.hid hrun; rw [enc_append, ← HLI.out, ← hlm, ← List.length_append, ← HLI.out] at ho5; have HO5 := Lib.hid ho5; have HB5 : Hid (Below q v3 w5) := HB4.out.trans hb5; clear hrun ho5 hb5 hrow hb hba hlm hm64 d0 l0 l1 l2 l3 l4)
        | (at_builtin; refine wpList_app rfl (.tmp 30) (.tmp 31) 148 rfl rfl rfl HRUN.out ?_)
        | fail)
      go_roundg gk
      case measure => omega
      case rel => exact ⟨i + 1, V5, by omega, by go_num, rfl, HO5, HB5⟩
end

end Go.Proofs.YtlghphccmgmomaaGreat
