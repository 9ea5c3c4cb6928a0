/-
  Proved here: copies of calls, by the statements' CopyCall and the program's copyCall (one whose group has no groups).
  Conditions: rows of at most 2^20.
-/
import Derived.Test.YtimpigponjkfkaaLCopy15
import Derived.Test.YtimpigponjkfkaaAwake15
import Derived.Deep.Cut
import Derived.Deep.RegionWith
namespace Go.Proofs.Ytimpigponjkfkaa
open Go Go.RowKit
set_option maxRecDepth 100000

/-- What a copy of a call is: its group in memory of its own. -/
def CallTo (w : World) (x : Cal) (G : List Cal) (e : Ending) (w' : World) : Prop :=
  ∃ A c, e = .returned (.agg #[.int .i64 x.kd, .string x.key, .string x.val, .string x.to_, .slice A x.gn c]) ∧ w'.ownsRow w.heap.size RC.tE RC.k (.slice A x.gn c) x.gn (RC.enc G) ∧ Below w.heap.size w w'
theorem grp_own {w : World} {x : Cal} {G : List Cal} {B : Nat} {A : Option Addr} {c : Nat} (h : w.ownsRow B RC.tE RC.k (.slice A x.gn c) x.gn (RC.enc G)) (hn : G.length = x.gn) (hl : G.length ≤ 1048576) (hf : ∀ y ∈ G, y.gn = 0 ∧ y.gc ≤ maxLen ∧ (y.ga = none → y.gc = 0)) : Grp w { x with ga := A, gc := c } G := by
  obtain ⟨_, A', c', e1, a1, a2, r1, z1, _⟩ := Rec.row_of_own h hl
  cases e1
  exact ⟨r1, hn, a1, a2, fun e => (z1 e).2, hf⟩
set_option maxHeartbeats 1600000 in
theorem lcall_any (x : Cal) (G : List Cal) (w : World) (hG : Grp w x G) :
    Calls Try.prog 19 #[.agg #[.int .i64 x.kd, .string x.key, .string x.val, .string x.to_, .slice x.ga x.gn x.gc]] w (CallTo w x G) := by
  obtain ⟨g, hg⟩ : ∃ g, w.heap.size = g := ⟨_, rfl⟩
  obtain ⟨w1, hw1⟩ : ∃ w1, w.alloc (.cells #[.int .i64 x.kd, .string x.key, .string x.val, .string x.to_, .slice x.ga x.gn x.gc] 24) = w1 := ⟨_, rfl⟩
  have HXg : Hid (CBox w1 g x) := by rw [← hw1, ← hg]; exact heap_alloc_new w _
  have HBg : Hid (Below g w w1) := by rw [← hw1, ← hg]; exact (Below.refl _ _).alloc (Nat.le_refl _) _
  have HGg : Hid (w.heap.size = g) := hg
  obtain ⟨g1, hg1⟩ : ∃ g1, w1.heap.size = g1 := ⟨_, rfl⟩
  have HG1 := Lib.hid hg1
  have HL : Hid (g < g1) := hg1 ▸ lt_of_heap HXg.out
  have HZC := Lib.hid zero_call
  have HAPP : Hid (∀ v, Below g1 w1 v → ∃ A' c' w', (Builtin.append_ #[22, 22] 22 #[.slice none 0 0, .slice x.ga x.gn x.gc]).run Try.prog v = .ok (.slice A' x.gn c') w' ∧ w'.ownsRow v.heap.size RC.tE RC.k (.slice A' x.gn c') x.gn (RC.enc G) ∧ Below v.heap.size v w') := fun v hv => app_nil RC v x.ga x.gn x.gc G hG.len ((hG.row.below (hg ▸ HBg.out)).below (hg1.symm ▸ hv)) hG.nil 22
  have HFIN : Hid (∀ A' c' v W, g1 < v.heap.size → Below g1 w1 v → v.ownsRow (g1 + 1) RC.tE RC.k (.slice A' x.gn c') x.gn (RC.enc G) → Turns g1 g1 (v.setCell ⟨g, 4, none⟩ (.slice A' x.gn c')) W → CallTo w x G (.returned (.agg #[.int .i64 x.kd, .string x.key, .string x.val, .string x.to_, .slice A' x.gn c'])) W) := fun A' c' v W hlt hv ho ht => by
    have hgl := HL.out
    refine ⟨A', c', rfl, own_mono (own_same ho (fun k hk => ?_)) (by rw [hg]; omega), ?_⟩
    · have h1 := own_ge ho k hk
      have h2 := own_ltN ho hk
      rw [ht.block k (by omega) (by omega) (by simpa [World.setCell] using h2)]
      exact Below.heap_setCell _ _ _ _ (by show k ≠ g; omega)
    · rw [hg]
      have hb1 : Below g w v := HBg.out.trans (hv.mono (Nat.le_of_lt hgl))
      exact (hb1.setCell (p := ⟨g, 4, none⟩) (Nat.le_refl _) _).trans (turn_below ht (Nat.le_of_lt hgl) (by simp [World.setCell]; omega))
  obtain ⟨R, hR⟩ : ∃ R, CallTo w x G = R := ⟨_, rfl⟩
  rw [hR] at HFIN ⊢
  obtain ⟨c0, c1, c2, c3, c4⟩ := HXg.out.at_
  clear hG hR hg1
  go_enter Try.func19, Try.ntmps19
  go_wp2_with (first
    | ((with_reducible show wpList _ _ _ (⟨some 2, .alloc _, _, _, _, _⟩ :: _) _ _); refine wpList_alloc_var (o := ⟨some 2, _, _, _, _, _⟩) rfl 24 rfl g1 HG1.out _ HZC.out ?_; intro v1 H1 B1; have HV := Lib.hid ((B1.out.block g HL.out).trans HXg.out); clear c0 c1 c2 c3 c4; obtain ⟨c0, c1, c2, c3, c4⟩ := cells5 HV.out)
    | (at_builtin; obtain ⟨A', c', x1, r1, o1, b1⟩ := HAPP.out v1 B1.out; have HRUN := Lib.hid r1; have HO := Lib.hid o1; have HBX := Lib.hid b1; clear r1 o1 b1; refine wpList_app rfl (.const (.slice none 0 0)) (.tmp 4) 22 rfl rfl rfl HRUN.out ?_; have HVX := Lib.hid ((HBX.out.block g (lt_of_heap HV.out)).trans HV.out); have HZX := Lib.hid ((HBX.out.block g1 (lt_of_heap H1.out)).trans H1.out); clear c0 c1 c2 c3 c4; obtain ⟨c0, c1, c2, c3, c4⟩ := cells5 HVX.out; have hfz : x1.frozen? ⟨g, 4, none⟩ = false := by { have hh := HVX.out; simp [World.frozen?, hh] }; have HZY : Hid ((x1.setCell ⟨g, 4, none⟩ (.slice A' x.gn c')).heap[g1]? = some (.cells #[.int .i64 0, .string ⟨#[]⟩, .string ⟨#[]⟩, .string ⟨#[]⟩, .slice none 0 0] 24 (0, 0))) := (Below.heap_setCell _ _ _ _ (by have := HL.out; show g1 ≠ g; omega)).trans HZX.out)
    | ((with_reducible show wpList _ _ _ (⟨none, .store _ (.tmp 2) _, _, _, _, _⟩ :: _) _ _); refine wpList_store_only (o := ⟨none, .store 24 (.tmp 2) (.tmp 7), _, _, _, _⟩) rfl _ _ _ rfl rfl g1 #[.int .i64 x.kd, .string x.key, .string x.val, .string x.to_, .slice A' x.gn c'] rfl rfl 24 _ HZY.out size_call rfl (onesC _ _ _ _ _ _ _) ?_; intro v9 X9 T9)
    | fail)
  refine bodyPost_ret (results_v1 (cs := [.int .i64 x.kd, .string x.key, .string x.val, .string x.to_, .slice A' x.gn c']) rfl Try.underlying24 rfl X9.out size_call) rfl ?_
  exact HFIN.out _ _ _ _ (lt_of_heap HZX.out) (B1.out.trans (HBX.out.mono (Nat.le_of_lt (lt_of_heap H1.out)))) (own_mono HO.out (lt_of_heap H1.out)) T9.out
set_option maxHeartbeats 400000 in
theorem clonec_any (w : World) (A : Option Addr) (n c : Nat) (l : List Cal) (hl : l.length = n) (hr : RC.Row w A l) (hA : A = none → c = 0) :
    Calls Try.prog 86 #[.slice A n c] w (OwnR RC w l) := by
  rcases A with _ | a
  · have h0 : l.length = 0 := by
      rcases Nat.eq_zero_or_pos l.length with h | h
      · exact h
      · obtain ⟨_, _, e, _⟩ := hr.2 h
        cases e
    obtain rfl : l = [] := List.eq_nil_of_length_eq_zero h0
    obtain rfl : n = 0 := by simpa using hl.symm
    obtain rfl := hA rfl
    clear hr hl hA h0
    have hnil : (binOp .eql 22 (.slice none 0 0) (.slice none 0 0)).run Try.prog w = .ok (.bool true) w := Lib.run_eql_slice_nil w 22 24 none 0 0 0 0 Try.underlying22
    go_enter Try.func86, Try.ntmps86
    go_wp2
    go_ret
    exact ⟨_, rfl, ⟨rfl, .inl ⟨rfl, rfl⟩⟩, Below.refl _ _⟩
  · obtain ⟨V, w2, hrun, hown⟩ := cloneR_run RC w a n c l hl hr
    have HRUN : Hid ((Builtin.append_ #[22, 22] 22 #[.slice (some ⟨w.heap.size, 0, none⟩) 0 0, .slice (some a) n c]).run Try.prog (w.alloc (.cells #[] 24)) = .ok V w2) := hrun
    have HO := Lib.hid hown
    have hnil : (binOp .eql 22 (.slice (some a) n c) (.slice none 0 0)).run Try.prog w = .ok (.bool false) w := Lib.run_eql_slice_nil w 22 24 (some a) n c 0 0 Try.underlying22
    obtain ⟨R, hR⟩ : ∃ R, OwnR RC w l = R := ⟨_, rfl⟩
    rw [hR] at HO ⊢
    clear hrun hown hl hr hR
    go_enter Try.func86, Try.ntmps86
    go_wp2_with (at_builtin; refine wpList_app rfl (.tmp 5) (.tmp 6) 22 rfl rfl rfl HRUN.out ?_)
    exact HO.out
/-- One call as another one, but for where its (empty) group lies. -/
def AlikeC (y z : Cal) : Prop := z.kd = y.kd ∧ z.key = y.key ∧ z.val = y.val ∧ z.to_ = y.to_ ∧ z.gn = y.gn
def FlatC (z : Cal) : Prop := z.gn = 0 ∧ z.gc ≤ maxLen ∧ (z.ga = none → z.gc = 0)
def AlikeL (G M : List Cal) : Prop := M.length = G.length ∧ (∀ (j : Nat) y, G[j]? = some y → ∃ z, M[j]? = some z ∧ AlikeC y z) ∧ ∀ z ∈ M, FlatC z
theorem AlikeL.refl {G : List Cal} (h : ∀ z ∈ G, FlatC z) : AlikeL G G := ⟨rfl, fun _ y e => ⟨y, e, rfl, rfl, rfl, rfl, rfl⟩, h⟩
theorem AlikeL.set {G M : List Cal} (h : AlikeL G M) {i : Nat} {z z' : Cal} (hz : M[i]? = some z) (ha : AlikeC z z') (hf : FlatC z') : AlikeL G (M.set i z') := by
  refine ⟨by rw [List.length_set]; exact h.1, fun j y e => ?_, fun q hq => ?_⟩
  · obtain ⟨q, hq, a1, a2, a3, a4, a5⟩ := h.2.1 j y e
    by_cases hj : i = j
    · subst hj
      rw [hz] at hq
      cases hq
      exact ⟨z', by rw [List.getElem?_set_self (List.getElem?_eq_some_iff.1 hz).1], ha.1.trans a1, ha.2.1.trans a2, ha.2.2.1.trans a3, ha.2.2.2.1.trans a4, ha.2.2.2.2.trans a5⟩
    · exact ⟨q, by rw [List.getElem?_set_ne hj]; exact hq, a1, a2, a3, a4, a5⟩
  · rcases List.mem_or_eq_of_mem_set hq with h1 | h1
    · exact h.2.2 q h1
    · rw [h1]; exact hf
/-- What copyCall gives. -/
def CopyC (w : World) (x : Cal) (G : List Cal) (e : Ending) (w' : World) : Prop :=
  ∃ A c M, e = .returned (.agg #[.int .i64 x.kd, .string x.key, .string x.val, .string x.to_, .slice A x.gn c]) ∧ w'.ownsRow w.heap.size RC.tE RC.k (.slice A x.gn c) x.gn (RC.enc M) ∧ AlikeL G M ∧ Below w.heap.size w w'
set_option maxHeartbeats 1600000 in
theorem copycall_flat (x : Cal) (w : World) (h : FlatC x) :
    Calls Try.prog 60 #[.agg #[.int .i64 x.kd, .string x.key, .string x.val, .string x.to_, .slice x.ga x.gn x.gc]] w fun e w' => ∃ A c, e = .returned (.agg #[.int .i64 x.kd, .string x.key, .string x.val, .string x.to_, .slice A 0 c]) ∧ c ≤ maxLen ∧ (A = none → c = 0) ∧ Below w.heap.size w w' := by
  obtain ⟨g, hg⟩ : ∃ g, w.heap.size = g := ⟨_, rfl⟩
  obtain ⟨w1, hw1⟩ : ∃ w1, w.alloc (.cells #[.int .i64 x.kd, .string x.key, .string x.val, .string x.to_, .slice x.ga x.gn x.gc] 24) = w1 := ⟨_, rfl⟩
  have HXg : Hid (CBox w1 g x) := by rw [← hw1, ← hg]; exact heap_alloc_new w _
  have HBg : Hid (Below g w w1) := by rw [← hw1, ← hg]; exact (Below.refl _ _).alloc (Nat.le_refl _) _
  have HGg : Hid (w.heap.size = g) := hg
  obtain ⟨g1, hg1⟩ : ∃ g1, w1.heap.size = g1 := ⟨_, rfl⟩
  have HG1 := Lib.hid hg1
  have HL : Hid (g < g1) := hg1 ▸ lt_of_heap HXg.out
  have HZC := Lib.hid zero_call
  have HCL : Hid (∀ v, Calls Try.prog 86 #[.slice x.ga 0 x.gc] v (OwnR RC v [])) := fun v => clonec_any v x.ga 0 x.gc [] rfl (RC.row_nil _ _) h.2.2
  have HFIN : Hid (∀ v v2 W A c, Below g1 w1 v → Below v.heap.size v v2 → g1 < v.heap.size → Turns g1 g1 (v2.setCell ⟨g, 4, none⟩ (.slice A 0 c)) W → Below g w W) := fun v v2 W A c hv hv2 hlt ht => by
    have hgl := HL.out
    have hb1 : Below g w v2 := (HBg.out.trans (hv.mono (Nat.le_of_lt hgl))).trans (hv2.mono (by omega))
    exact (hb1.setCell (p := ⟨g, 4, none⟩) (Nat.le_refl _) _).trans (turn_below ht (Nat.le_of_lt hgl) (by have := hv2.size; simp [World.setCell]; omega))
  have hgn := h.1
  obtain ⟨kd, key, val, to_, ga, gn, gc⟩ := x
  obtain rfl : gn = 0 := hgn
  obtain ⟨c0, c1, c2, c3, c4⟩ := HXg.out.at_
  dsimp only at c0 c1 c2 c3 c4
  rw [hg]
  clear h hg1
  go_enter Try.func60, Try.ntmps60
  go_wp2_with (first
    | ((with_reducible show wpList _ _ _ (⟨some 2, .alloc _, _, _, _, _⟩ :: _) _ _); refine wpList_alloc_var (o := ⟨some 2, _, _, _, _, _⟩) rfl 24 rfl g1 HG1.out _ HZC.out ?_; intro v1 H1 B1; have HV := Lib.hid ((B1.out.block g HL.out).trans HXg.out); clear c0 c1 c2 c3 c4; obtain ⟨c0, c1, c2, c3, c4⟩ := cells5 HV.out)
    | fail)
  clear hg hw1
  refine (HCL.out _).mono ?_
  rintro e v2 ⟨V, rfl, ho, hb⟩
  obtain ⟨_, A', c', rfl, a1, a2, a3, a4, _⟩ := Rec.row_of_own ho (Nat.zero_le _)
  have HBX := Lib.hid hb
  have HVX := Lib.hid ((hb.block g (lt_of_heap HV.out)).trans HV.out)
  have HZX := Lib.hid ((hb.block g1 (lt_of_heap H1.out)).trans H1.out)
  have HA4 := Lib.hid a4
  have HA2 := Lib.hid a2
  clear c0 c1 c2 c3 c4 ho hb a1 a2 a3 a4
  obtain ⟨c0, c1, c2, c3, c4⟩ := cells5 HVX.out
  have hfz : v2.frozen? ⟨g, 4, none⟩ = false := by have hh := HVX.out; simp [World.frozen?, hh]
  have HZY : Hid ((v2.setCell ⟨g, 4, none⟩ (.slice A' 0 c')).heap[g1]? = some (.cells #[.int .i64 0, .string ⟨#[]⟩, .string ⟨#[]⟩, .string ⟨#[]⟩, .slice none 0 0] 24 (0, 0))) := (Below.heap_setCell _ _ _ _ (by have := HL.out; show g1 ≠ g; omega)).trans HZX.out
  go_wp2_with fail
  go_loopg [11] 0 (fun gk s11 wx => gk = 0 ∧ s11 = .int .i64 0 ∧ wx = v2.setCell ⟨g, 4, none⟩ (.slice A' 0 c'))
  case atStart => exact ⟨rfl, rfl, rfl⟩
  case round =>
    obtain ⟨rfl, rfl, rfl⟩ := hrel
    go_wp2_with (first
      | ((with_reducible show wpList _ _ _ (⟨none, .store _ (.tmp 2) _, _, _, _, _⟩ :: _) _ _); refine wpList_store_only (o := ⟨none, .store 24 (.tmp 2) (.tmp 25), _, _, _, _⟩) rfl _ _ _ rfl rfl g1 #[.int .i64 kd, .string key, .string val, .string to_, .slice A' 0 c'] rfl rfl 24 _ HZY.out size_call rfl (onesC _ _ _ _ _ _ _) ?_; intro v9 X9 T9)
      | fail)
    refine bodyPost_ret (results_v1 (cs := [.int .i64 kd, .string key, .string val, .string to_, .slice A' 0 c']) rfl Try.underlying24 rfl X9.out size_call) rfl ?_
    exact ⟨A', c', rfl, HA2.out, fun e => (HA4.out e).2, HFIN.out _ _ _ _ _ B1.out HBX.out (lt_of_heap H1.out) T9.out⟩

end Go.Proofs.Ytimpigponjkfkaa
