/-
  Proved here: how a row of ints reads, what an append of one gives, and what the statements' own SameInts, LendInts, KeptInts and OverInts answer and leave.
  Conditions: rows of at most 2^27 numbers.
-/
import Derived.Test.YtkcjamjjaallhaaNvmMath
import Derived.Test.YtkcjamjjaallhaaOver
import Derived.Deep.QuietTactic
import Derived.BigQuiet
import Derived.WalkSmall
namespace Go.Proofs.Ytkcjamjjaallhaa
open Go Go.RowKit

/-- Numbers as cells. -/
def encI (l : List Int) : List Value := l.map fun x => .int .i64 x
theorem encI_len (l : List Int) : (encI l).length = l.length := by simp [encI]
theorem encI_at (l : List Int) (j : Nat) (h : j < l.length) : (encI l)[j]? = some (.int .i64 (l.getD j 0)) := by
  simp [encI, List.getD, List.getElem?_eq_getElem h]
theorem encI_at' (l : List Int) {j : Nat} {u : Value} (h : (encI l)[j]? = some u) : j < l.length ∧ u = .int .i64 (l.getD j 0) := by
  have hj : j < l.length := by
    rcases Nat.lt_or_ge j l.length with h' | h'
    · exact h'
    · rw [List.getElem?_eq_none (by rw [encI_len]; exact h')] at h
      cases h
  rw [encI_at l j hj] at h
  exact ⟨hj, by injection h with h; exact h.symm⟩
theorem encI_append (a b : List Int) : encI a ++ encI b = encI (a ++ b) := by simp [encI]
theorem encI_set (a : List Int) (k : Nat) (r : Int) : (encI a).set k (.int .i64 r) = encI (a.set k r) := by simp [encI, List.map_set]
theorem encI_one {l : List Int} : ∀ u ∈ encI l, u.oneCell' = true := by
  intro u hu
  simp [encI] at hu
  obtain ⟨x, _, rfl⟩ := hu
  rfl
theorem int_info : (Try.prog.info? 3).map (fun i => (i.zero, i.size, i.bytes)) = some (some (.int .i64 0), 1, 8) := by kernel_rfl
theorem int_info' : ∃ i, Try.prog.info? 3 = some i ∧ i.zero = some (.int .i64 0) ∧ i.size = 1 ∧ i.bytes = 8 := by
  obtain ⟨i, h1, h2⟩ := Option.map_eq_some_iff.1 int_info
  simp only [Prod.mk.injEq] at h2
  exact ⟨i, h1, h2.1, h2.2.1, h2.2.2⟩

/-- The slice at A holds the numbers l. -/
def RowI (w : World) (A : Option Addr) (l : List Int) : Prop :=
  l.length ≤ 134217728 ∧ (0 < l.length → ∃ b off, A = some ⟨b, off, none⟩ ∧ b < w.heap.size ∧ ∀ k, k < l.length → w.cell? ⟨b, off + k, none⟩ = some (.int .i64 (l.getD k 0)))
theorem rowI_nil (w : World) (A : Option Addr) : RowI w A [] := ⟨by simp, fun h => by simp at h⟩
theorem RowI.below {w w' : World} {A : Option Addr} {l : List Int} (h : RowI w A l) (hb : Below w.heap.size w w') : RowI w' A l :=
  ⟨h.1, fun hl => by
    obtain ⟨b, off, e, hlt, hc⟩ := h.2 hl
    exact ⟨b, off, e, Nat.lt_of_lt_of_le hlt hb.size, fun k hk => (hb.cell (p := ⟨b, off + k, none⟩) hlt).trans (hc k hk)⟩⟩
theorem RowI.same {w w' : World} {A : Option Addr} {l : List Int} (h : RowI w A l) (hs : w.heap.size ≤ w'.heap.size) (hb : ∀ x, A = some x → w'.heap[x.block]? = w.heap[x.block]?) : RowI w' A l :=
  ⟨h.1, fun hl => by
    obtain ⟨b, off, e, hlt, hc⟩ := h.2 hl
    exact ⟨b, off, e, Nat.lt_of_lt_of_le hlt hs, fun k hk => (World.cell?_of_block (w := w) (a := ⟨b, off + k, none⟩) (show w'.heap[b]? = w.heap[b]? from hb ⟨b, off, none⟩ e)).trans (hc k hk)⟩⟩
theorem rowI_of_own {w : World} {base n : Nat} {v : Value} {l : List Int} (h : w.ownsRow base 3 1 v n (encI l)) (hl : l.length ≤ 134217728) : ∃ A cap, v = .slice A n cap ∧ RowI w A l ∧ (A = none → cap = 0) ∧ ∀ x, A = some x → base ≤ x.block := by
  have hn : l.length = n := by have := h.1; rw [encI_len] at this; omega
  rcases h.2 with ⟨e, e0⟩ | ⟨g, cap, cur, e, hge, hh, _⟩
  · have h0 : l = [] := List.eq_nil_of_length_eq_zero (by omega)
    subst h0
    exact ⟨none, 0, by rw [e, e0], rowI_nil _ _, fun _ => rfl, fun x hx => by cases hx⟩
  · refine ⟨_, _, e, ⟨hl, fun hpos => ⟨g, 0, rfl, lt_of_heap hh, fun k hk => ?_⟩⟩, (fun h => by cases h), (fun x hx => by cases hx; exact hge)⟩
    have := h.cells (g := g) (by rw [e]; rfl) k _ (encI_at l k hk)
    rw [add_plain] at this
    exact this
theorem rowI_one (w : World) (x : Int) : RowI (w.alloc (.cells #[.int .i64 x] 3)) (some ⟨w.heap.size, 0, none⟩) [x] := by
  refine ⟨by simp, fun _ => ⟨w.heap.size, 0, rfl, by simp, fun k hk => ?_⟩⟩
  obtain rfl : k = 0 := by simpa using hk
  simp
theorem run_appI (w : World) (base n : Nat) (v : Value) (xs : List Value) (hown : w.ownsRow base 3 1 v n xs) (A : Option Addr) (m c : Nat) (l : List Int) (hm : l.length = m) (hr : RowI w A l) (hc : A = none → c = 0) (hn : n + m ≤ 134217728) (hbase : base ≤ w.heap.size) :
    ∃ v' w', (Builtin.append_ #[68, 68] 68 #[v, .slice A m c]).run Try.prog w = .ok v' w' ∧ w'.ownsRow base 3 1 v' (n + m) (xs ++ encI l) ∧ w.grownBy w' v.ownBlock ∧ (v'.ownBlock = v.ownBlock ∨ v'.ownBlock = some w.heap.size) := by
  obtain ⟨i, hi, hz, hs, hy⟩ := int_info'
  rcases A with _ | ad
  · have h0 : l.length = 0 := by
      rcases Nat.eq_zero_or_pos l.length with h | h
      · exact h
      · obtain ⟨_, _, e, _⟩ := hr.2 h
        cases e
    obtain rfl : l = [] := List.eq_nil_of_length_eq_zero h0
    obtain rfl : m = 0 := by simpa using hm.symm
    obtain rfl := hc rfl
    exact ⟨v, w, run_append_owned_none (P := Try.prog) w base 68 68 3 i 1 Try.underlying68 hi v n xs hown, by simpa [encI] using hown, World.grownBy.refl w _, .inl rfl⟩
  · have hcells : ∀ j u, (encI l)[j]? = some u → w.cell? (ad.add j) = some u := by
      intro j u hu
      obtain ⟨hj, rfl⟩ := encI_at' l hu
      obtain ⟨b, off, e, _, hcl⟩ := hr.2 (by omega)
      replace e := Option.some.inj e
      subst e
      rw [add_plain]
      exact hcl j hj
    obtain ⟨v', w', h1, h2, h3, _, h4⟩ := run_append_own_at (P := Try.prog) w base 68 68 3 i _ 1 8 Try.underlying68 hi hz hs hy rfl (by omega) v n xs hown ad m c (encI l) (by rw [encI_len]; omega) hcells encI_one (by unfold maxLen; omega) (by omega) hbase
    exact ⟨v', w', h1, h2, h3, h4⟩
/-- One number put behind a row that the call made. -/
theorem run_appI_one (w : World) (base : Nat) (v : Value) (l : List Int) (x : Int) (hown : w.ownsRow base 3 1 v l.length (encI l)) (hl : l.length < 134217728) (hbase : base ≤ w.heap.size) :
    ∃ v' w', (Builtin.append_ #[68, 68] 68 #[v, .slice (some ⟨w.heap.size, 0, none⟩) 1 1]).run Try.prog (w.alloc (.cells #[.int .i64 x] 3)) = .ok v' w' ∧ w'.ownsRow base 3 1 v' (l.length + 1) (encI (l ++ [x])) ∧ Below base w w' := by
  obtain ⟨v', w', h1, h2, h3, _⟩ := run_appI (w.alloc (.cells #[.int .i64 x] 3)) base l.length v (encI l) (own_alloc hown _) (some ⟨w.heap.size, 0, none⟩) 1 1 [x] rfl (rowI_one w x) (by intro h; cases h) (by omega) (by simp; omega)
  refine ⟨v', w', h1, by rw [← encI_append]; exact h2, ?_⟩
  exact ((Below.refl _ _).alloc hbase _).grown h3 (by simp; omega) (own_ge hown)

set_option maxHeartbeats 400000 in
theorem samei_any (w : World) (A B : Option Addr) (n c d : Nat) (l : List Int) (hl : l.length = n) (hr : RowI w A l) (hs : RowI w B l) :
    Calls Try.prog 51 #[.slice A n c, .slice B n d] w fun e w' => e = .returned (.bool true) ∧ ∃ k, w' = w.drewN k := by
  have hn : n ≤ 134217728 := by have := hr.1; omega
  have HR := Lib.hid hr
  have HS := Lib.hid hs
  have HL := Lib.hid hl
  have hnn : ((n : Int) != (n : Int)) = false := by simp
  clear hr hs hl
  go_enter Try.func51, Try.ntmps51
  go_wp2
  go_loopg [5] n (fun gk s5 wx => ∃ i k : Nat, i + gk = n ∧ s5 = .int .i64 i ∧ wx = w.drewN k)
  case atStart => exact ⟨0, 0, by omega, rfl, rfl⟩
  case round =>
    obtain ⟨i, k, hig, rfl, rfl⟩ := hrel
    cases gk with
    | zero =>
      obtain rfl : i = n := by omega
      have hii : ¬ (i : Int) < (i : Int) := by omega
      go_wp2
      go_ret
      exact ⟨rfl, k, rfl⟩
    | succ gk =>
      have hii : (i : Int) < (n : Int) := by omega
      obtain ⟨b1, o1, rfl, _, hc1⟩ := HR.out.2 (by have := HL.out; omega)
      obtain ⟨b2, o2, rfl, _, hc2⟩ := HS.out.2 (by have := HL.out; omega)
      have g1 := hc1 i (by have := HL.out; omega)
      have g2 := hc2 i (by have := HL.out; omega)
      generalize l.getD i 0 = x at *
      have hxx : (x != x) = false := by simp
      clear hc1 hc2
      go_wp2
      go_quiet (fail)
      go_wp2
      go_roundg gk
      case measure => omega
      case rel => exact ⟨i + 1, k + nq, by omega, by go_num, rfl⟩

/-- Block g is just the numbers' cells cs. -/
def BlkI (w : World) (g : Nat) (cs : List Value) : Prop := w.heap[g]? = some (.cells cs.toArray 3 (0, 0))
theorem BlkI.lt {w : World} {g : Nat} {cs : List Value} (h : BlkI w g cs) : g < w.heap.size := lt_of_heap h
theorem BlkI.cell {w : World} {g : Nat} {cs : List Value} (h : BlkI w g cs) (j : Nat) : w.cell? ⟨g, j, none⟩ = cs[j]? := by
  unfold BlkI at h
  simp [World.cell?, h]
theorem BlkI.frozen {w : World} {g : Nat} {cs : List Value} (h : BlkI w g cs) (j : Nat) : w.frozen? ⟨g, j, none⟩ = false := by
  unfold BlkI at h
  simp [World.frozen?, h]
theorem BlkI.set_ {w : World} {g : Nat} {cs : List Value} (h : BlkI w g cs) (j : Nat) (u : Value) : BlkI (w.setCell ⟨g, j, none⟩ u) g (cs.set j u) := by
  unfold BlkI at h ⊢
  simp [World.setCell, Array.getElem?_modify, h]
def z64 (n : Int) : Value := .int .i64 n
/-- What LendInts makes ahead of its loop. -/
theorem lendi_made (w : World) (A : Option Addr) (n c : Nat) (l : List Int) (hl : l.length = n) (hr : RowI w A l) (hc : A = none → c = 0) :
    ∃ w1 w2, (Instr.makeSlice 68 (.int .i64 0) (.int .i64 ((n : Int) + 3))).run Try.prog w = .ok (.slice (some ⟨w.heap.size, 0, none⟩) 0 (n + 3)) w1 ∧
      (Builtin.append_ #[68, 68] 68 #[.slice (some ⟨w.heap.size, 0, none⟩) 0 (n + 3), .slice A n c]).run Try.prog w1 = .ok (.slice (some ⟨w.heap.size, 0, none⟩) n (n + 3)) w2 ∧
      BlkI w2 w.heap.size (encI l ++ List.replicate 3 (z64 0)) ∧ Below w.heap.size w w2 := by
  obtain ⟨i, hi, hz, hs, hy⟩ := int_info'
  have hn : n ≤ 134217728 := by have := hr.1; omega
  have hmk := run_make (P := Try.prog) w 68 3 i _ Try.underlying68 hi hz .i64 .i64 0 ((n : Int) + 3) (by omega) (by omega) (by rw [hy]; omega) (by omega)
  rw [show ((n : Int) + 3).toNat = n + 3 by omega, show (0 : Int).toNat = 0 from rfl, hs, Nat.mul_one] at hmk
  obtain ⟨cur, hcur⟩ : ∃ cur, madeCells (Value.cells (.int .i64 0)) (n + 3) = cur := ⟨_, rfl⟩
  have hcl : cur.toList = List.replicate (n + 3) (z64 0) := by
    rw [← hcur]
    exact toList_madeCells_one (.int .i64 0) (n + 3)
  rw [hcur] at hmk
  have hb1 : Below w.heap.size w (w.alloc (.cells cur 3)) := (Below.refl _ _).alloc (Nat.le_refl _) _
  have hg : (w.alloc (.cells cur 3)).heap[w.heap.size]? = some (.cells cur 3 (0, 0)) := by
    show (w.heap.push _)[w.heap.size]? = _
    simp
  have hcs : cur.size = n + 3 := by rw [← Array.length_toList, hcl, List.length_replicate]
  rcases A with _ | ad
  · have h0 : l.length = 0 := by
      rcases Nat.eq_zero_or_pos l.length with h | h
      · exact h
      · obtain ⟨_, _, e, _⟩ := hr.2 h
        cases e
    obtain rfl : l = [] := List.eq_nil_of_length_eq_zero h0
    obtain rfl : n = 0 := by simpa using hl.symm
    obtain rfl := hc rfl
    refine ⟨_, _, hmk, run_append_owned_none (P := Try.prog) _ w.heap.size 68 68 3 i 1 Try.underlying68 hi _ 0 [] (World.ownsRow_made w cur 3 (Nat.le_refl _) (by decide) (by omega)), ?_, hb1⟩
    unfold BlkI
    rw [hg]
    have : cur = (encI [] ++ List.replicate 3 (z64 0)).toArray := by
      apply Array.ext'
      rw [hcl]
      rfl
    rw [← this]
  · have hcells : ∀ j u, (encI l)[j]? = some u → (w.alloc (.cells cur 3)).cell? (ad.add j) = some u := by
      intro j u hu
      obtain ⟨hj, rfl⟩ := encI_at' l hu
      obtain ⟨b, off, e, hlt, hcl⟩ := hr.2 (by omega)
      replace e := Option.some.inj e
      subst e
      rw [add_plain]
      exact (hb1.cell (p := ⟨b, off + j, none⟩) hlt).trans (hcl j hj)
    have hap := run_append_room (P := Try.prog) (w.alloc (.cells cur 3)) 68 68 3 i Try.underlying68 hi w.heap.size 0 (n + 3) cur hg ad n c (encI l) (by rw [encI_len, hs]; omega) hcells encI_one (by omega) (by rw [encI_len, hcs]; omega)
    rw [Nat.zero_mul, List.take_zero, List.nil_append, Nat.zero_add, Nat.zero_add, encI_len, hl] at hap
    refine ⟨_, _, hmk, hap, ?_, ?_⟩
    · unfold BlkI
      rw [setRow_heap _ _ cur _ 3 _ hg, hcl]
      simp
    · exact hb1.trans ⟨rfl, rfl, rfl, by simp, fun k hk => setRow_other _ _ k _ (by omega)⟩
/-- The spare room behind i rounds of marking. -/
def markedI (i : Nat) : List Value := List.replicate i (z64 (-777)) ++ List.replicate (3 - i) (z64 0)
theorem lentI_set (l : List Int) (i : Nat) (hi : i < 3) : (encI l ++ markedI i).set (l.length + i) (z64 (-777)) = encI l ++ markedI (i + 1) := by
  rw [List.set_append_right _ _ (by rw [encI_len]; omega), encI_len, Nat.add_sub_cancel_left]
  congr 1
  match i, hi with
  | 0, _ => rfl
  | 1, _ => rfl
  | 2, _ => rfl
def LentI (w : World) (g : Nat) (l : List Int) : Prop := BlkI w g (encI l ++ List.replicate 3 (z64 (-777)))
def LentToI (w : World) (n : Nat) (l : List Int) (e : Ending) (w' : World) : Prop := ∃ g, e = .returned (.slice (some ⟨g, 0, none⟩) n (n + 3)) ∧ w.heap.size ≤ g ∧ LentI w' g l ∧ Below w.heap.size w w'
theorem LentI.row {w : World} {g : Nat} {l : List Int} (h : LentI w g l) (hl : l.length ≤ 134217728) : RowI w (some ⟨g, 0, none⟩) l :=
  ⟨hl, fun _ => ⟨g, 0, rfl, BlkI.lt h, fun k hk => by
    rw [Nat.zero_add, BlkI.cell h, List.getElem?_append_left (by rw [encI_len]; exact hk), encI_at l k hk]⟩⟩
set_option maxHeartbeats 800000 in
theorem overi_any (w : World) (B n : Nat) (v : Value) (r : List Int) (hr : r.length = n) (hn : n < 134217728) (h : w.ownsRow B 3 1 v n (encI r)) (hB : B ≤ w.heap.size) :
    Calls Try.prog 54 #[v] w fun e w' => e = .returned (.tuple #[]) ∧ Below B w w' := by
  rcases h.2 with ⟨rfl, h0⟩ | ⟨g, cap, cur, rfl, hg, _⟩
  · obtain ⟨V', w', hrun, _, hb'⟩ := run_appI_one w B (.slice none 0 0) [] (-998) (World.ownsRow_nil _ _ _ _) (by simp) hB
    have HRUN : Hid (Sem.run Try.prog (Builtin.append_ #[68, 68] 68 #[.slice none 0 0, .slice (some ⟨w.heap.size, 0, none⟩) 1 1]) (w.alloc (.cells #[.int .i64 (-998)] 3)) = .ok V' w') := hrun
    have HB' := Lib.hid hb'
    clear hrun hb' h hr h0
    go_enter Try.func54, Try.ntmps54
    go_wp2
    go_loopg [2] 0 (fun gk s2 wx => gk = 0 ∧ s2 = .int .i64 0 ∧ w = wx)
    case atStart => exact ⟨rfl, rfl, rfl⟩
    case round =>
      obtain ⟨rfl, rfl, rfl⟩ := hrel
      go_wp2_with (at_builtin; refine wpList_app rfl (.tmp 12) (.tmp 13) 68 rfl rfl rfl HRUN.out ?_)
      refine bodyPost_end (results_none rfl _ _ _) rfl ?_
      exact ⟨rfl, HB'.out⟩
  · have HO0 := Lib.hid h
    have HR := Lib.hid hr
    clear h hr
    go_enter Try.func54, Try.ntmps54
    go_wp2
    go_loopg [2] n (fun gk s2 wx => ∃ (i : Nat) (q : List Int), i + gk = n ∧ s2 = .int .i64 i ∧ Hid (q.length = n) ∧ Hid (wx.ownsRow B 3 1 (.slice (some ⟨g, 0, none⟩) n cap) n (encI q)) ∧ Hid (Below B w wx))
    case atStart => exact ⟨0, r, by omega, rfl, HR, HO0, Below.refl _ _⟩
    case round =>
      obtain ⟨i, q, hin, rfl, HQ, HO, HW⟩ := hrel
      cases gk with
      | zero =>
        obtain rfl : i = n := by omega
        have hii : ¬ (i : Int) < (i : Int) := by omega
        obtain ⟨V', w', hrun, _, hb'⟩ := run_appI_one wr B (.slice (some ⟨g, 0, none⟩) i cap) q (-998) (by rw [HQ.out]; exact HO.out) (by have := HQ.out; omega) (Nat.le_trans hB HW.out.size)
        have HRUN : Hid (Sem.run Try.prog (Builtin.append_ #[68, 68] 68 #[.slice (some ⟨g, 0, none⟩) i cap, .slice (some ⟨wr.heap.size, 0, none⟩) 1 1]) (wr.alloc (.cells #[.int .i64 (-998)] 3)) = .ok V' w') := hrun
        have HB' := Lib.hid hb'
        clear hrun hb'
        go_wp2_with (at_builtin; refine wpList_app rfl (.tmp 12) (.tmp 13) 68 rfl rfl rfl HRUN.out ?_)
        refine bodyPost_end (results_none rfl _ _ _) rfl ?_
        exact ⟨rfl, HW.out.trans HB'.out⟩
      | succ gk =>
        have hii : (i : Int) < (n : Int) := by omega
        have hcell := HO.out.cellAt i (by omega)
        rw [encI_at _ _ (by have := HQ.out; omega)] at hcell
        have hfr := HO.out.frozenAt i
        have hst := (HO.out.stored i (.int .i64 (-999))).1
        rw [encI_set] at hst
        have HST := Lib.hid hst
        have HQ2 : Hid ((q.set i (-999)).length = n) := by show _ = _; rw [List.length_set]; exact HQ.out
        clear hst
        go_wp2
        go_roundg gk
        case measure => omega
        case rel => exact ⟨i + 1, _, by omega, by go_num, HQ2, HST, HW.out.setCell hg _⟩

end Go.Proofs.Ytkcjamjjaallhaa
