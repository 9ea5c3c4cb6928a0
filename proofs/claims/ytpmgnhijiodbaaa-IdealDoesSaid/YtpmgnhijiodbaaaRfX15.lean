/-
  Proved here, joined: RefA15, RefB15
  Conditions: as each part says.
-/
import Derived.Test.YtpmgnhijiodbaaaFrX15
import Derived.Test.YtpmgnhijiodbaaaKvMath15
import Derived.Test.YtpmgnhijiodbaaaStepApp
import Derived.Test.YtpmgnhijiodbaaaLCopy15
import Derived.Deep.Cut
import Derived.Deep.RegionLaw
import Derived.Deep.RegionHeld3
import Derived.Test.YtpmgnhijiodbaaaAwake15

/-
  Proved here: the chapter's own Get, Del, Put, pop, push.
  Conditions: rows of at most 400,000.
-/
namespace Go.Proofs.Ytpmgnhijiodbaaa
open Go Go.RowKit
set_option maxRecDepth 100000

theorem getK_at {L : List Kv} {s : ByteArray} {i : Nat} {x : Kv} (h : ∀ (j : Nat) y, j < i → L[j]? = some y → eqKv s y = false) (hx : L[i]? = some x) (he : eqKv s x = true) : hasK L s = true ∧ valK L s = x.v := by
  have hg : getK L s = some x := by
    induction L generalizing i with
    | nil => cases hx
    | cons a L ih =>
      rw [getK_cons]
      cases i with
      | zero =>
        cases hx
        rw [if_pos he]
      | succ i =>
        rw [if_neg (by rw [h 0 a (by omega) rfl]; decide)]
        exact ih (fun j y hj hy => h (j + 1) y (by omega) hy) hx
  exact ⟨by rw [hasK_get, hg]; rfl, by rw [valK_get, hg]⟩
theorem getK_no {L : List Kv} {s : ByteArray} (h : ∀ (j : Nat) y, L[j]? = some y → eqKv s y = false) : hasK L s = false ∧ valK L s = ⟨#[]⟩ := by
  have hh : hasK L s = false := by
    unfold hasK
    rw [List.any_eq_false]
    intro x hx
    obtain ⟨i, hi, e⟩ := List.getElem_of_mem hx
    rw [h i x (by rw [List.getElem?_eq_getElem hi, e])]
    decide
  exact ⟨hh, valK_no hh⟩
set_option maxHeartbeats 1600000 in
theorem rget15_any {w : World} {A B : Option Addr} {n c m d : Nat} {L : List Kv} {Q : List ByteArray} (h : Shv w A n c B m d L Q) (s : ByteArray) : Calls Try.prog 44 #[.agg #[.slice A n c, .slice B m d], .string s] w fun e w' => e = .returned (.tuple #[.string (valK L s), .bool (hasK L s)]) ∧ Below w.heap.size w w' := by
  obtain ⟨g, hg⟩ : ∃ g, w.heap.size = g := ⟨_, rfl⟩
  obtain ⟨w1, hw1⟩ : ∃ w1, w.alloc (.cells #[.slice A n c, .slice B m d] 25) = w1 := ⟨_, rfl⟩
  have HX : Hid (w1.heap[g]? = some (.cells #[.slice A n c, .slice B m d] 25 (0, 0))) := by rw [← hw1, ← hg]; exact heap_alloc_new w _
  have HB : Hid (Below g w w1) := by rw [← hw1, ← hg]; exact (Below.refl _ _).alloc (Nat.le_refl _) _
  have HR : Hid (RP.Row w1 A L) := h.r1.below (hg ▸ HB.out)
  have HN : Hid (L.length = n) := h.n1
  obtain ⟨R, hR⟩ : ∃ R : Ending → World → Prop, (fun e w' => e = .returned (.tuple #[.string (valK L s), .bool (hasK L s)]) ∧ Below w.heap.size w w') = R := ⟨_, rfl⟩
  have HYES : Hid (∀ (i : Nat) x w', (∀ (j : Nat) y, j < i → L[j]? = some y → eqKv s y = false) → L[i]? = some x → eqKv s x = true → Below g w w' → R (.returned (.tuple #[.string x.v, .bool true])) w') := fun i x w' k1 k2 k3 k4 => by
    obtain ⟨e1, e2⟩ := getK_at k1 k2 k3
    rw [← hR]
    exact ⟨by rw [e1, e2], by rw [hg]; exact k4⟩
  have HNO : Hid (∀ w', (∀ (j : Nat) y, L[j]? = some y → eqKv s y = false) → Below g w w' → R (.returned (.tuple #[.string ⟨#[]⟩, .bool false])) w') := fun w' k1 k4 => by
    obtain ⟨e1, e2⟩ := getK_no k1
    rw [← hR]
    exact ⟨by rw [e1, e2], by rw [hg]; exact k4⟩
  obtain ⟨p0, p1⟩ := cells2 HX.out
  have hnb : n ≤ 1048576 := by have := h.r1.1; have := h.n1; omega
  rw [hR]
  clear h hR
  go_enter Try.func44, Try.ntmps44
  go_wp2_with fail
  clear hg hw1
  go_loopg [6] n (fun gk s6 wx => ∃ i : Nat, i + gk = n ∧ s6 = .int .i64 i ∧ Hid (∀ (j : Nat) y, j < i → L[j]? = some y → eqKv s y = false) ∧ Hid (Below g w wx) ∧ wx = w1)
  case atStart => exact ⟨0, by omega, rfl, fun j y hj => absurd hj (Nat.not_lt_zero _), HB, rfl⟩
  case round =>
    obtain ⟨i, hig, rfl, HI, HW, rfl⟩ := hrel
    cases gk with
    | zero =>
      obtain rfl : i = n := by omega
      have hii : ¬ (i : Int) < (i : Int) := by omega
      go_wp2
      exact HNO.out _ (fun j y hy => HI.out j y (by have := (List.getElem?_eq_some_iff.1 hy).1; have := HN.out; omega) hy) HW.out
    | succ gk =>
      have hii : (i : Int) < (n : Int) := by omega
      have hi0 : (0 : Int) ≤ (i : Int) := by omega
      obtain ⟨x, hx⟩ : ∃ x, L[i]? = some x := ⟨_, List.getElem?_eq_getElem (by have := HN.out; omega)⟩
      obtain ⟨b1, o1, e1, _, k0, k1⟩ := pairAt HR.out hx
      subst e1
      have HXI := Lib.hid hx
      clear hx
      cases he : x.k.toList == s.toList with
      | true =>
        have HE : Hid (eqKv s x = true) := he
        go_wp2
        exact HYES.out i x _ HI.out HXI.out HE.out HW.out
      | false =>
        have HE : Hid (eqKv s x = false) := he
        go_wp2
        go_roundg gk
        case measure => omega
        case rel => exact ⟨i + 1, by omega, by go_num, fun j y hj hy => (by
          rcases Nat.lt_or_ge j i with h1 | h1
          · exact HI.out j y h1 hy
          · obtain rfl : j = i := by omega
            rw [HXI.out] at hy
            cases hy
            exact HE.out), HW, rfl⟩
/-- A store on its way: at p, all its own blocks from B on. -/
structure Ou (w : World) (B p : Nat) (A : Option Addr) (n c : Nat) (v2 : Value) (P : List Kv) (Q : List ByteArray) : Prop where
  mem : Shm w p (.slice A n c) v2 P Q
  len : P.length = n
  base : ∀ k, shOwn p (.slice A n c) v2 k → B ≤ k
/-- The pairs of a store one by one; what a chapter's own function gives. -/
def RefTo (w : World) (L : List Kv) (Q : List ByteArray) (e : Ending) (w' : World) : Prop := ∃ A n c B m d, e = .returned (.agg #[.slice A n c, .slice B m d]) ∧ OwnS w' w.heap.size A n c B m d L Q ∧ Below w.heap.size w w'
theorem Ou.lt {w : World} {B p : Nat} {A : Option Addr} {n c : Nat} {v2 : Value} {P : List Kv} {Q : List ByteArray} (h : Ou w B p A n c v2 P Q) : B ≤ w.heap.size := Nat.le_of_lt (Nat.lt_of_le_of_lt (h.base p (.inl rfl)) (h.mem.lt (.inl rfl)))
theorem Ou.stay {S : Nat → Prop} {w w' : World} {B p : Nat} {A : Option Addr} {n c : Nat} {v2 : Value} {P : List Kv} {Q : List ByteArray} (h : Ou w B p A n c v2 P Q) (hs : Stay S w w') (hn : ∀ k, shOwn p (.slice A n c) v2 k → ¬ S k) : Ou w' B p A n c v2 P Q := ⟨h.mem.stay hs hn, h.len, h.base⟩
theorem Ou.below {w w' : World} {B p : Nat} {A : Option Addr} {n c : Nat} {v2 : Value} {P : List Kv} {Q : List ByteArray} (h : Ou w B p A n c v2 P Q) (hb : Below w.heap.size w w') : Ou w' B p A n c v2 P Q := ⟨h.mem.below hb, h.len, h.base⟩
theorem Ou.own {w : World} {B p : Nat} {A : Option Addr} {n c : Nat} {B' : Option Addr} {m d : Nat} {P : List Kv} {Q : List ByteArray} (h : Ou w B p A n c (.slice B' m d) P Q) (hm : Q.length = m) {b : Nat} (hb : b ≤ B) : OwnS w b A n c B' m d P Q := by
  have h1 := h.mem.o1
  have h2 := h.mem.o2
  rw [h.len] at h1
  rw [hm] at h2
  exact ⟨own_base h1 (fun k hk => Nat.le_trans hb (h.base k (.inr (.inl hk)))), own_base h2 (fun k hk => Nat.le_trans hb (h.base k (.inr (.inr hk)))), h.len, hm⟩
theorem Ou.app {w : World} {B p : Nat} {A : Option Addr} {n c : Nat} {v2 : Value} {P : List Kv} {Q : List ByteArray} (h : Ou w B p A n c v2 P Q) (hl : n + 1 < 1000000) (x : Kv) :
    ∃ A' c' W, (Builtin.append_ #[22, 22] 22 #[.slice A n c, .slice (some ⟨w.heap.size, 0, none⟩) 1 1]).run Try.prog (w.alloc (.cells #[.string x.k, .string x.v] 42)) = .ok (.slice A' (n + 1) c') W ∧
      W.cell? ⟨p, 0, none⟩ = some (.slice A n c) ∧ W.frozen? ⟨p, 0, none⟩ = false ∧ Ou (W.setCell ⟨p, 0, none⟩ (.slice A' (n + 1) c')) B p A' (n + 1) c' v2 (P ++ [x]) Q ∧ Stay (shOwn p (.slice A n c) v2) w (W.setCell ⟨p, 0, none⟩ (.slice A' (n + 1) c')) := by
  have ho : w.ownsRow 0 RP.tE RP.k (.slice A n c) n (RP.enc P) := by have := h.mem.o1; rw [h.len] at this; exact this
  obtain ⟨u, W, e1, e2, e3, e4, _⟩ := RP.run_app_one w 0 n (.slice A n c) P x ho (by omega) (Nat.zero_le _) 22
  have hlen : (P ++ [x]).length = n + 1 := by rw [List.length_append, h.len]; rfl
  obtain ⟨_, A', c', rfl, _⟩ := Rec.row_of_own e2 (by omega)
  have hst := Stay.of_grown e3
  have hto := h.mem.pairs (L' := P ++ [x]) (u := .slice A' (n + 1) c') (by omega) (by rw [hlen]; exact e2) hst (fun k hk => by
    rcases e4 with e | e
    · exact .inl (e.symm.trans hk)
    · rw [e] at hk
      cases hk
      exact .inr (Nat.le_succ _))
  have hm : W.heap[p]? = some (.cells #[.slice A n c, v2] 25 (0, 0)) := (hst.block p h.mem.ne1 (h.mem.lt (.inl rfl))).trans h.mem.mem
  have hset : (W.setCell ⟨p, 0, none⟩ (.slice A' (n + 1) c')).heap[p]? = some (.cells #[.slice A' (n + 1) c', v2] 25 (0, 0)) := heap_setCell_same W p 0 _ _ _ hm
  obtain ⟨u1, u2, k1, k2, k3⟩ := hto
  have hq := k1.mem
  rw [hset] at hq
  injection hq with hq
  injection hq with hq
  have q1 : Value.slice A' (n + 1) c' = u1 := by injection hq with hq; injection hq
  have q2 : v2 = u2 := by injection hq with hq; injection hq with _ hq; injection hq
  subst q1
  subst q2
  refine ⟨A', c', W, e1, ?_, ?_, ⟨k1, hlen, fun k hk => ?_⟩, k2⟩
  · simp [World.cell?, hm]
  · simp [World.frozen?, hm]
  · rcases k3 k hk with e | e
    · exact h.base k e
    · exact Nat.le_trans h.lt e
theorem delK_snoc {L : List Kv} {i : Nat} {x : Kv} (h : L[i]? = some x) (s : ByteArray) : delK (L.take (i + 1)) s = if eqKv s x = true then delK (L.take i) s else delK (L.take i) s ++ [x] := by
  unfold delK
  have := filter_snoc (fun x => !eqKv s x) L i x h
  rw [this]
  cases eqKv s x <;> rfl
set_option maxHeartbeats 3200000 in
theorem rdel15_any {w : World} {A B : Option Addr} {n c m d : Nat} {L : List Kv} {Q : List ByteArray} (h : Shv w A n c B m d L Q) (hl : L.length < 900000) (hq : Q.length < 900000) (s : ByteArray) : Calls Try.prog 23 #[.agg #[.slice A n c, .slice B m d], .string s] w (RefTo w (delK L s) Q) := by
  obtain ⟨g, hg⟩ : ∃ g, w.heap.size = g := ⟨_, rfl⟩
  obtain ⟨w1, hw1⟩ : ∃ w1, w.alloc (.cells #[.slice A n c, .slice B m d] 25) = w1 := ⟨_, rfl⟩
  have HX : Hid (w1.heap[g]? = some (.cells #[.slice A n c, .slice B m d] 25 (0, 0))) := by rw [← hw1, ← hg]; exact heap_alloc_new w _
  have HB : Hid (Below g w w1) := by rw [← hw1, ← hg]; exact (Below.refl _ _).alloc (Nat.le_refl _) _
  have HSV : Hid (∀ v, Below g w v → Shv v A n c B m d L Q) := fun v hv => h.below (hg.symm ▸ hv)
  have HN : Hid (L.length = n) := h.n1
  have HM : Hid (Q.length = m) := h.n2
  have HLB : Hid (L.length < 900000 ∧ Q.length < 900000) := ⟨hl, hq⟩
  obtain ⟨g4, hg4⟩ : ∃ g4, w1.heap.size = g4 := ⟨_, rfl⟩
  have HG4 := Lib.hid hg4
  have HL : Hid (g < g4) := hg4 ▸ lt_of_heap HX.out
  have HZ := Lib.hid zero_shelf
  obtain ⟨R, hR⟩ : ∃ R, RefTo w (delK L s) Q = R := ⟨_, rfl⟩
  have HFIN : Hid (∀ v W A' n' c' B' m' d' p, Q.length = m' → Below g w v → g4 < v.heap.size → Ou v (g4 + 1) p A' n' c' (.slice B' m' d') (delK L s) Q → Turns g4 g4 v W → R (.returned (.agg #[.slice A' n' c', .slice B' m' d'])) W) := fun v W A' n' c' B' m' d' p km k1 k2 k3 k4 => by
    have k5 := k3.stay (stay_of_turns k4) (fun k hk e => by have := k3.base k hk; omega)
    rw [← hR]
    exact ⟨A', n', c', _, _, _, rfl, k5.own km (by rw [hg]; have := HL.out; omega), by rw [hg]; exact k1.trans (turn_below k4 (Nat.le_of_lt HL.out) (by have := HL.out; omega))⟩
  have HAPQ : Hid (∀ v, Below g w v → ∃ A' c' w', (Builtin.append_ #[23, 23] 23 #[.slice none 0 0, .slice B m d]).run Try.prog v = .ok (.slice A' m c') w' ∧ w'.ownsRow v.heap.size RS.tE RS.k (.slice A' m c') m (RS.enc Q) ∧ Below v.heap.size v w') := fun v hv => app_nil RS v B m d Q h.n2 (HSV.out v hv).r2 h.z2 23
  obtain ⟨p0, p1⟩ := cells2 HX.out
  have hnb : n ≤ 900000 := by have := h.n1; omega
  rw [hR]
  clear h hR hl hq hg4
  go_enter Try.func23, Try.ntmps23
  go_wp2_with (first
    | ((with_reducible show wpList _ _ _ (⟨some 4, .alloc _, _, _, _, _⟩ :: _) _ _); refine wpList_alloc_var (o := ⟨some 4, _, _, _, _, _⟩) rfl 25 rfl g4 HG4.out _ HZ.out ?_; intro v1 X4 B4; have HX1 := Lib.hid ((B4.out.block g HL.out).trans HX.out); have HB1 : Hid (Below g w v1) := HB.out.trans (B4.out.mono (Nat.le_of_lt HL.out)); clear p0 p1; obtain ⟨p0, p1⟩ := cells2 HX1.out)
    | (at_builtin; obtain ⟨A2, c2, x2, r2, o2, b2⟩ := HAPQ.out v1 HB1.out; have HRUN := Lib.hid r2; have HO2 := Lib.hid o2; have HB2 := Lib.hid b2; clear r2 o2 b2; refine wpList_app rfl (.const (.slice none 0 0)) (.tmp 8) 23 rfl rfl rfl HRUN.out ?_; obtain ⟨g5, hg5⟩ : ∃ z, x2.heap.size = z := ⟨_, rfl⟩; have HG5 := Lib.hid hg5; have HL5 : Hid (g4 < g5) := Nat.lt_of_lt_of_le (lt_of_heap X4.out) (hg5 ▸ HB2.out.size); clear hg5; clear p0 p1; have HX2 := Lib.hid ((HB2.out.block g (lt_of_heap HX1.out)).trans HX1.out); obtain ⟨p0, p1⟩ := cells2 HX2.out)
    | ((with_reducible show wpList _ _ _ (⟨some 5, .alloc _, _, _, _, _⟩ :: _) _ _); refine wpList_alloc_var (o := ⟨some 5, _, _, _, _, _⟩) rfl 25 rfl g5 HG5.out _ HZ.out ?_; intro x3 X3 B3)
    | ((with_reducible show wpList _ _ _ (⟨none, .store _ (.tmp 5) _, _, _, _, _⟩ :: _) _ _); refine wpList_store_whole (o := ⟨none, .store 25 (.tmp 5) (.tmp 10), _, _, _, _⟩) rfl _ _ _ rfl rfl g5 #[.slice none 0 0, .slice A2 m c2] rfl rfl 25 _ X3.out size_shelf rfl (onesV _ _ _ _ _ _) ?_; intro x5 X5 B5; clear p0 p1)
    | fail)
  clear hg hw1
  have HLv : Hid (g4 < v1.heap.size) := lt_of_heap X4.out
  have HB25 : Hid (Below g5 x2 x5) := B3.out.trans B5.out
  have HBx : Hid (Below (g4 + 1) v1 x5) := (HB2.out.mono HLv.out).trans (HB25.out.mono HL5.out)
  have HX5 := Lib.hid ((HBx.out.block g (by have := HL.out; omega)).trans HX1.out)
  have HX45 := Lib.hid ((HBx.out.block g4 (by omega)).trans X4.out)
  have HO5 : Hid (x5.ownsRow v1.heap.size RS.tE RS.k (.slice A2 m c2) m (RS.enc Q)) := own_keep HO2.out (HG5.out.symm ▸ HB25.out)
  have HOU : Hid (Ou x5 (g4 + 1) g5 none 0 0 (.slice A2 m c2) [] Q) := ⟨⟨X5.out, World.ownsRow_nil _ _ _ _, by rw [HM.out]; exact own_mono HO5.out (Nat.zero_le _), (fun e => by cases e), (fun e => by have := own_ltN HO2.out e; have := HG5.out; omega), (fun k e => by cases e), (by decide), by have := HLB.out.2; omega⟩, rfl, fun k hk => by
    rcases hk with e | e | e
    · have := HL5.out; omega
    · cases e
    · have := own_ge HO2.out k e; have := HLv.out; omega⟩
  have HSV5 : Hid (∀ v, Below (g4 + 1) x5 v → Below g w v) := fun v hv => HB1.out.trans ((HBx.out.trans hv).mono (by have := HL.out; omega))
  have HLx5 : Hid (g4 + 1 ≤ x5.heap.size) := by have := lt_of_heap HX45.out; exact this
  go_loopg [6] n (fun gk s6 wx => ∃ (i : Nat) (A9 : Option Addr) (n9 c9 : Nat) (P : List Kv), i + gk = n ∧ s6 = .int .i64 i ∧ Hid (Ou wx (g4 + 1) g5 A9 n9 c9 (.slice A2 m c2) P Q) ∧ Hid (P = delK (L.take i) s) ∧ Hid (Below (g4 + 1) x5 wx))
  case atStart => exact ⟨0, none, 0, 0, [], by omega, rfl, HOU, rfl, Below.refl _ _⟩
  case round =>
    obtain ⟨i, A9, n9, c9, P, hig, rfl, HOr, HP, HW⟩ := hrel
    have HXr := Lib.hid ((HW.out.block g (by have := HL.out; omega)).trans HX5.out)
    obtain ⟨p0, p1⟩ := cells2 HXr.out
    obtain ⟨q0, q1⟩ := cells2 HOr.out.mem.mem
    have HRr := Lib.hid ((HSV.out wr (HSV5.out wr HW.out)).r1)
    cases gk with
    | zero =>
      obtain rfl : i = n := by omega
      have hii : ¬ (i : Int) < (i : Int) := by omega
      have HP2 : Hid (P = delK L s) := by have := HP.out; rw [← HN.out, List.take_length] at this; exact this
      have HX4r := Lib.hid ((HW.out.block g4 (by omega)).trans HX45.out)
      go_wp2_with (first
        | ((with_reducible show wpList _ _ _ (⟨none, .store _ (.tmp 4) _, _, _, _, _⟩ :: _) _ _); refine wpList_store_only (o := ⟨none, .store 25 (.tmp 4) (.tmp 36), _, _, _, _⟩) rfl _ _ _ rfl rfl g4 #[.slice A9 n9 c9, .slice A2 m c2] rfl rfl 25 _ HX4r.out size_shelf rfl (onesV _ _ _ _ _ _) ?_; intro v9 X9 T9)
        | fail)
      refine bodyPost_ret (results_v1 (cs := [.slice A9 n9 c9, .slice A2 m c2]) rfl Try.underlying25 rfl X9.out size_shelf) rfl ?_
      exact HFIN.out _ _ _ _ _ _ _ _ _ HM.out (HSV5.out _ HW.out) (lt_of_heap HX4r.out) (HP2.out ▸ HOr.out) T9.out
    | succ gk =>
      have hii : (i : Int) < (n : Int) := by omega
      have hi0 : (0 : Int) ≤ (i : Int) := by omega
      obtain ⟨x, hx⟩ : ∃ x, L[i]? = some x := ⟨_, List.getElem?_eq_getElem (by have := HN.out; omega)⟩
      obtain ⟨b1, o1, e1, hb1, k0, k1⟩ := pairAt HRr.out hx
      subst e1
      have HS := Lib.hid (delK_snoc hx s)
      have hpl : P.length ≤ i := by
        have h1 := List.length_filter_le (fun x => !eqKv s x) (L.take i)
        rw [HP.out]
        unfold delK
        rw [List.length_take] at h1
        omega
      have HNP : Hid (n9 + 1 < 1000000) := by have := HOr.out.len; show _ < _; omega
      clear hpl
      cases he : x.k.toList == s.toList with
      | true =>
        have HE : Hid (delK (L.take (i + 1)) s = delK (L.take i) s) := by rw [HS.out, if_pos (show eqKv s x = true from he)]; rfl
        clear hx hb1
        go_wp2
        go_roundg gk
        case measure => omega
        case rel => exact ⟨i + 1, A9, n9, c9, P, by omega, by go_num, HOr, by show _ = _; rw [HE.out]; exact HP.out, HW⟩
      | false =>
        have HE : Hid (delK (L.take (i + 1)) s = delK (L.take i) s ++ [x]) := by rw [HS.out, if_neg (show ¬ eqKv s x = true from fun e => by rw [show eqKv s x = false from he] at e; cases e)]; rfl
        clear hx
        obtain ⟨A3, c3, W, r1, f1, f2, ou, st⟩ := Ou.app (w := wr.drew) (HOr.out.below (Below.refl _ _).drew) HNP.out x
        have HRUN := Lib.hid r1
        have HOU3 := Lib.hid ou
        have HST := Lib.hid st
        have hN1 : ¬ g = wr.heap.size := by have := lt_of_heap HXr.out; omega
        have hN2 : ¬ g5 = wr.heap.size := by have := lt_of_heap HOr.out.mem.mem; omega
        have hN3 : ¬ b1 = wr.heap.size := by omega
        have hgl : g < wr.heap.size := lt_of_heap HXr.out
        have hg5l : g5 < wr.heap.size := lt_of_heap HOr.out.mem.mem
        clear r1 ou st
        go_upto_region 6 with fail
        go_region_law (refine step_app9 rfl (.tmp 27) (.tmp 33) 22 rfl (by rfl) (by rfl) HRUN.out ?_)
        all_goals
          go_wp2
          go_roundg gk
          case measure => omega
          case rel => exact ⟨i + 1, A3, n9 + 1, c3, P ++ [x], by omega, by go_num, HOU3, by show _ = _; rw [HE.out, HP.out], HW.out.trans (((Below.refl _ _).drew).trans (HST.out.below HOr.out.base HOr.out.lt))⟩
/-- One pair more of the chapter's own Put: the pairs that it has laid, and whether the new one is among them. -/
def putStep (h : Bool) (k v : ByteArray) (st : List Kv × Bool) (x : Kv) : List Kv × Bool :=
  if (h && eqKv k x && !st.2) = true then (st.1 ++ [⟨x.k, v⟩], true) else if (!h && !st.2 && gtKv k x) = true then (st.1 ++ [⟨k, v⟩] ++ [x], true) else (st.1 ++ [x], st.2)
def putF (h : Bool) (k v : ByteArray) (L : List Kv) : List Kv × Bool := L.foldl (putStep h k v) ([], false)
theorem putF_succ {L : List Kv} {i : Nat} {x : Kv} (hx : L[i]? = some x) (h : Bool) (k v : ByteArray) : putF h k v (L.take (i + 1)) = putStep h k v (putF h k v (L.take i)) x := by
  unfold putF
  rw [List.take_add_one, hx]
  simp
theorem put_done (h : Bool) (k v : ByteArray) (o L : List Kv) : L.foldl (putStep h k v) (o, true) = (o ++ L, true) := by
  induction L generalizing o with
  | nil => simp
  | cons x L ih =>
    have e : putStep h k v (o, true) x = (o ++ [x], true) := by
      unfold putStep
      simp
    rw [List.foldl_cons, e, ih]
    simp
theorem put_upd (k v : ByteArray) (o L : List Kv) : L.foldl (putStep true k v) (o, false) = (o ++ updK L k v, hasK L k) := by
  induction L generalizing o with
  | nil => simp [updK, hasK]
  | cons x L ih =>
    rw [List.foldl_cons, hasK_cons]
    cases e : eqKv k x with
    | true =>
      have h1 : putStep true k v (o, false) x = (o ++ [⟨x.k, v⟩], true) := by unfold putStep; simp [e]
      rw [h1, put_done]
      simp [updK, e]
    | false =>
      have h1 : putStep true k v (o, false) x = (o ++ [x], false) := by unfold putStep; simp [e]
      rw [h1, ih]
      simp [updK, e]
theorem put_ins (k v : ByteArray) (o L : List Kv) : L.foldl (putStep false k v) (o, false) = if L.any (gtKv k) = true then (o ++ insK L k v, true) else (o ++ L, false) := by
  induction L generalizing o with
  | nil => simp
  | cons x L ih =>
    rw [List.foldl_cons]
    cases e : gtKv k x with
    | true =>
      have h1 : putStep false k v (o, false) x = (o ++ [⟨k, v⟩] ++ [x], true) := by unfold putStep; simp [e]
      rw [h1, put_done]
      simp [insK, e]
    | false =>
      have h1 : putStep false k v (o, false) x = (o ++ [x], false) := by unfold putStep; simp [e]
      rw [h1, ih]
      simp [insK, e]
theorem ins_none (k v : ByteArray) (L : List Kv) (h : L.any (gtKv k) = false) : insK L k v = L ++ [⟨k, v⟩] := by
  induction L with
  | nil => rfl
  | cons x L ih =>
    rw [List.any_cons, Bool.or_eq_false_iff] at h
    simp [insK, h.1, ih h.2]
theorem put_end (L : List Kv) (k v : ByteArray) : (if (putF (hasK L k) k v L).2 = true then (putF (hasK L k) k v L).1 else (putF (hasK L k) k v L).1 ++ [⟨k, v⟩]) = setK L k v := by
  unfold putF
  cases h : hasK L k with
  | true =>
    rw [put_upd, h, setK_has h]
    simp
  | false =>
    rw [put_ins, setK_new h]
    cases g : L.any (gtKv k) with
    | true => simp
    | false => simp [ins_none k v L g]
theorem put_len (h : Bool) (k v : ByteArray) (L : List Kv) (i : Nat) : (putF h k v (L.take i)).1.length + (if (putF h k v (L.take i)).2 = true then 0 else 1) ≤ i + 1 ∧ (putF h k v (L.take i)).1.length ≤ 2 * i := by
  induction i with
  | zero => simp [putF]
  | succ i ih =>
    rcases Nat.lt_or_ge i L.length with hi | hi
    · rw [putF_succ (List.getElem?_eq_getElem hi)]
      obtain ⟨a, b⟩ := ih
      unfold putStep
      split
      · simp only [List.length_append, List.length_cons, List.length_nil, if_true]
        constructor
        · rename_i hc
          simp only [Bool.and_eq_true, Bool.not_eq_true'] at hc
          rw [hc.2] at a
          simp at a
          omega
        · omega
      · split
        · simp only [List.length_append, List.length_cons, List.length_nil, if_true]
          rename_i hc
          simp only [Bool.and_eq_true, Bool.not_eq_true'] at hc
          rw [hc.1.2] at a
          simp at a
          constructor <;> omega
        · simp only [List.length_append, List.length_cons, List.length_nil]
          constructor <;> omega
    · rw [List.take_of_length_le (by omega), ← List.take_of_length_le (show L.length ≤ i from hi)]
      constructor <;> omega
/-- Ou.app, the world's size named. -/
theorem Ou.appN {w : World} {B p : Nat} {A : Option Addr} {n c : Nat} {v2 : Value} {P : List Kv} {Q : List ByteArray} (h : Ou w B p A n c v2 P Q) (hl : n + 1 < 1000000) (x : Kv) (N : Nat) (hN : w.heap.size = N) :
    ∃ A' c' W, (Builtin.append_ #[22, 22] 22 #[.slice A n c, .slice (some ⟨N, 0, none⟩) 1 1]).run Try.prog (w.alloc (.cells #[.string x.k, .string x.v] 42)) = .ok (.slice A' (n + 1) c') W ∧
      W.cell? ⟨p, 0, none⟩ = some (.slice A n c) ∧ W.frozen? ⟨p, 0, none⟩ = false ∧ Ou (W.setCell ⟨p, 0, none⟩ (.slice A' (n + 1) c')) B p A' (n + 1) c' v2 (P ++ [x]) Q ∧ Stay (shOwn p (.slice A n c) v2) w (W.setCell ⟨p, 0, none⟩ (.slice A' (n + 1) c')) := by
  subst hN
  exact h.app hl x
set_option maxHeartbeats 6400000 in
theorem rput15_any {w : World} {A B : Option Addr} {n c m d : Nat} {L : List Kv} {Q : List ByteArray} (h : Shv w A n c B m d L Q) (hl : L.length < 400000) (hq : Q.length < 900000) (s vv : ByteArray) : Calls Try.prog 22 #[.agg #[.slice A n c, .slice B m d], .string s, .string vv] w (RefTo w (setK L s vv) Q) := by
  obtain ⟨g, hg⟩ : ∃ g, w.heap.size = g := ⟨_, rfl⟩
  obtain ⟨w1, hw1⟩ : ∃ w1, w.alloc (.cells #[.slice A n c, .slice B m d] 25) = w1 := ⟨_, rfl⟩
  have HX : Hid (w1.heap[g]? = some (.cells #[.slice A n c, .slice B m d] 25 (0, 0))) := by rw [← hw1, ← hg]; exact heap_alloc_new w _
  have HB : Hid (Below g w w1) := by rw [← hw1, ← hg]; exact (Below.refl _ _).alloc (Nat.le_refl _) _
  have HSV : Hid (∀ v, Below g w v → Shv v A n c B m d L Q) := fun v hv => h.below (hg.symm ▸ hv)
  have HN : Hid (L.length = n) := h.n1
  have HM : Hid (Q.length = m) := h.n2
  have HLB : Hid (L.length < 400000 ∧ Q.length < 900000) := ⟨hl, hq⟩
  obtain ⟨g6, hg6⟩ : ∃ g6, w1.heap.size = g6 := ⟨_, rfl⟩
  have HG6 := Lib.hid hg6
  have HL : Hid (g < g6) := hg6 ▸ lt_of_heap HX.out
  have HZ := Lib.hid zero_shelf
  have HZP := Lib.hid zero_pair
  obtain ⟨R, hR⟩ : ∃ R, RefTo w (setK L s vv) Q = R := ⟨_, rfl⟩
  have HFIN : Hid (∀ v W A' n' c' B' m' d' p P, P = setK L s vv → Q.length = m' → Below g w v → g6 < v.heap.size → Ou v (g6 + 1) p A' n' c' (.slice B' m' d') P Q → Turns g6 g6 v W → R (.returned (.agg #[.slice A' n' c', .slice B' m' d'])) W) := fun v W A' n' c' B' m' d' p P hP km k1 k2 k3 k4 => by
    subst hP
    have k5 := k3.stay (stay_of_turns k4) (fun k hk e => by have := k3.base k hk; omega)
    rw [← hR]
    exact ⟨A', n', c', _, _, _, rfl, k5.own km (by rw [hg]; have := HL.out; omega), by rw [hg]; exact k1.trans (turn_below k4 (Nat.le_of_lt HL.out) (by have := HL.out; omega))⟩
  have HGE : Hid (∀ v, Below g w v → Calls Try.prog 44 #[.agg #[.slice A n c, .slice B m d], .string s] v fun e w' => e = .returned (.tuple #[.string (valK L s), .bool (hasK L s)]) ∧ Below v.heap.size v w') := fun v hv => rget15_any (HSV.out v hv) s
  have HAPQ : Hid (∀ v, Below g w v → ∃ A' c' w', (Builtin.append_ #[23, 23] 23 #[.slice none 0 0, .slice B m d]).run Try.prog v = .ok (.slice A' m c') w' ∧ w'.ownsRow v.heap.size RS.tE RS.k (.slice A' m c') m (RS.enc Q) ∧ Below v.heap.size v w') := fun v hv => app_nil RS v B m d Q h.n2 (HSV.out v hv).r2 h.z2 23
  have HPE := Lib.hid (put_end L s vv)
  have HPS : Hid (∀ i x, L[i]? = some x → putF (hasK L s) s vv (L.take (i + 1)) = putStep (hasK L s) s vv (putF (hasK L s) s vv (L.take i)) x) := fun i x hx => putF_succ hx _ s vv
  have HPL : Hid (∀ i, (putF (hasK L s) s vv (L.take i)).1.length ≤ 2 * i) := fun i => (put_len _ s vv L i).2
  obtain ⟨p0, p1⟩ := cells2 HX.out
  have hnb : n ≤ 400000 := by have := h.n1; omega
  rw [hR]
  generalize valK L s = vl at *
  generalize hasK L s = hs at *
  clear h hR hl hq hg6
  go_enter Try.func22, Try.ntmps22
  go_wp2_with (first
    | ((with_reducible show wpList _ _ _ (⟨some 6, .alloc _, _, _, _, _⟩ :: _) _ _); refine wpList_alloc_var (o := ⟨some 6, _, _, _, _, _⟩) rfl 25 rfl g6 HG6.out _ HZ.out ?_; intro v1 X6 B6; have HX1 := Lib.hid ((B6.out.block g HL.out).trans HX.out); have HB1 : Hid (Below g w v1) := HB.out.trans (B6.out.mono (Nat.le_of_lt HL.out)); clear p0 p1; obtain ⟨p0, p1⟩ := cells2 HX1.out)
    | fail)
  refine (HGE.out v1 HB1.out).mono ?_
  clear hg hw1 p0 p1
  rintro e v2 ⟨rfl, hb⟩
  have HLv : Hid (g6 < v1.heap.size) := lt_of_heap X6.out
  have HB12 := Lib.hid hb
  have HX2 := Lib.hid ((hb.block g (lt_of_heap HX1.out)).trans HX1.out)
  have HX62 := Lib.hid ((hb.block g6 (lt_of_heap X6.out)).trans X6.out)
  have HB2 : Hid (Below g w v2) := HB1.out.trans (hb.mono (Nat.le_of_lt (lt_of_heap HX1.out)))
  have HLv2 : Hid (g6 < v2.heap.size) := lt_of_heap HX62.out
  clear hb
  obtain ⟨p0, p1⟩ := cells2 HX2.out
  go_wp2_with (first
    | (at_builtin; obtain ⟨A2, c2, x2, r2, o2, b2⟩ := HAPQ.out v2 HB2.out; have HRUN := Lib.hid r2; have HO2 := Lib.hid o2; have HB2' := Lib.hid b2; clear r2 o2 b2; refine wpList_app rfl (.const (.slice none 0 0)) (.tmp 20) 23 rfl rfl rfl HRUN.out ?_; obtain ⟨g9, hg9⟩ : ∃ z, x2.heap.size = z := ⟨_, rfl⟩; have HG9 := Lib.hid hg9; have HL9 : Hid (g6 < g9) := Nat.lt_of_lt_of_le HLv2.out (hg9 ▸ HB2'.out.size); clear hg9; clear p0 p1)
    | ((with_reducible show wpList _ _ _ (⟨some 9, .alloc _, _, _, _, _⟩ :: _) _ _); refine wpList_alloc_var (o := ⟨some 9, _, _, _, _, _⟩) rfl 25 rfl g9 HG9.out _ HZ.out ?_; intro x3 X3 B3)
    | ((with_reducible show wpList _ _ _ (⟨none, .store _ (.tmp 9) _, _, _, _, _⟩ :: _) _ _); refine wpList_store_whole (o := ⟨none, .store 25 (.tmp 9) (.tmp 22), _, _, _, _⟩) rfl _ _ _ rfl rfl g9 #[.slice none 0 0, .slice A2 m c2] rfl rfl 25 _ X3.out size_shelf rfl (onesV _ _ _ _ _ _) ?_; intro x5 X5 B5)
    | fail)
  have HB25 : Hid (Below g9 x2 x5) := B3.out.trans B5.out
  have HBx : Hid (Below (g6 + 1) v2 x5) := (HB2'.out.mono HLv2.out).trans (HB25.out.mono HL9.out)
  have HX5 := Lib.hid ((HBx.out.block g (by have := HL.out; omega)).trans HX2.out)
  have HX65 := Lib.hid ((HBx.out.block g6 (by omega)).trans HX62.out)
  have HO5 : Hid (x5.ownsRow v2.heap.size RS.tE RS.k (.slice A2 m c2) m (RS.enc Q)) := own_keep HO2.out (HG9.out.symm ▸ HB25.out)
  have HOU : Hid (Ou x5 (g6 + 1) g9 none 0 0 (.slice A2 m c2) [] Q) := ⟨⟨X5.out, World.ownsRow_nil _ _ _ _, by rw [HM.out]; exact own_mono HO5.out (Nat.zero_le _), (fun e => by cases e), (fun e => by have := own_ltN HO2.out e; have := HG9.out; omega), (fun k e => by cases e), (by decide), by have := HLB.out.2; omega⟩, rfl, fun k hk => by
    rcases hk with e | e | e
    · have := HL9.out; omega
    · cases e
    · have := own_ge HO2.out k e; have := HLv2.out; omega⟩
  have HSV5 : Hid (∀ v, Below (g6 + 1) x5 v → Below g w v) := fun v hv => HB2.out.trans ((HBx.out.trans hv).mono (by have := HL.out; omega))
  have HLx5 : Hid (g6 + 1 ≤ x5.heap.size) := by have := lt_of_heap HX65.out; exact this
  go_loopg [10, 11, 12] n (fun gk s10 s11 s12 wx => ∃ (i : Nat) (b : Bool) (A9 : Option Addr) (n9 c9 : Nat) (P : List Kv), i + gk = n ∧ s10 = .bool b ∧ s11 = .int .i64 i ∧ Hid (Ou wx (g6 + 1) g9 A9 n9 c9 (.slice A2 m c2) P Q) ∧ Hid (putF hs s vv (L.take i) = (P, b)) ∧ Hid (Below (g6 + 1) x5 wx))
  case atStart => exact ⟨0, false, none, 0, 0, [], by omega, rfl, rfl, HOU, rfl, Below.refl _ _⟩
  case round =>
    obtain ⟨i, b, A9, n9, c9, P, hig, rfl, rfl, HOr, HP, HW⟩ := hrel
    have HXr := Lib.hid ((HW.out.block g (by have := HL.out; omega)).trans HX5.out)
    obtain ⟨p0, p1⟩ := cells2 HXr.out
    have HPN : Hid (n9 ≤ 2 * i) := by have h1 : P.length ≤ 2 * i := (by have := HPL.out i; rw [HP.out] at this; exact this); have := HOr.out.len; show _ ≤ _; omega
    cases gk with
    | zero =>
      obtain rfl : i = n := by omega
      have hii : ¬ (i : Int) < (i : Int) := by omega
      have HX6r := Lib.hid ((HW.out.block g6 (by omega)).trans HX65.out)
      have HPF : Hid (putF hs s vv L = (P, b)) := by have := HP.out; rw [← HN.out, List.take_length] at this; exact this
      obtain ⟨q0, q1⟩ := cells2 HOr.out.mem.mem
      cases b with
      | true =>
        have HPX : Hid (P = setK L s vv) := by have := HPE.out; rw [HPF.out] at this; exact this
        go_wp2_with (first
          | ((with_reducible show wpList _ _ _ (⟨none, .store _ (.tmp 6) _, _, _, _, _⟩ :: _) _ _); refine wpList_store_only (o := ⟨none, .store 25 (.tmp 6) (.tmp 84), _, _, _, _⟩) rfl _ _ _ rfl rfl g6 #[.slice A9 n9 c9, .slice A2 m c2] rfl rfl 25 _ HX6r.out size_shelf rfl (onesV _ _ _ _ _ _) ?_; intro v9 X9 T9)
          | fail)
        refine bodyPost_ret (results_v1 (cs := [.slice A9 n9 c9, .slice A2 m c2]) rfl Try.underlying25 rfl X9.out size_shelf) rfl ?_
        exact HFIN.out _ _ _ _ _ _ _ _ _ _ HPX.out HM.out (HSV5.out _ HW.out) (lt_of_heap HX6r.out) HOr.out T9.out
      | false =>
        have HPX : Hid (P ++ [⟨s, vv⟩] = setK L s vv) := by have := HPE.out; rw [HPF.out] at this; exact this
        obtain ⟨A3, c3, W, r1, f1, f2, ou, st⟩ := Ou.app (w := wr) HOr.out (by have := HPN.out; omega) ⟨s, vv⟩
        have HRUN3 := Lib.hid r1
        have HOU3 := Lib.hid ou
        have HST3 := Lib.hid st
        have HX6w := Lib.hid ((st.block g6 (fun hk => by have := HOr.out.base g6 hk; omega) (lt_of_heap HX6r.out)).trans HX6r.out)
        obtain ⟨u0, u1⟩ := cells2 ou.mem.mem
        clear r1 ou st
        go_wp2_with (first
          | (at_builtin; refine wpList_app rfl (.tmp 77) (.tmp 81) 22 rfl rfl rfl HRUN3.out ?_)
          | ((with_reducible show wpList _ _ _ (⟨none, .store _ (.tmp 6) _, _, _, _, _⟩ :: _) _ _); refine wpList_store_only (o := ⟨none, .store 25 (.tmp 6) (.tmp 84), _, _, _, _⟩) rfl _ _ _ rfl rfl g6 #[.slice A3 (n9 + 1) c3, .slice A2 m c2] rfl rfl 25 _ HX6w.out size_shelf rfl (onesV _ _ _ _ _ _) ?_; intro v9 X9 T9)
          | fail)
        refine bodyPost_ret (results_v1 (cs := [.slice A3 (n9 + 1) c3, .slice A2 m c2]) rfl Try.underlying25 rfl X9.out size_shelf) rfl ?_
        exact HFIN.out _ _ _ _ _ _ _ _ _ _ HPX.out HM.out (HSV5.out _ (HW.out.trans (HST3.out.below HOr.out.base HOr.out.lt))) (lt_of_heap HX6w.out) HOU3.out T9.out
    | succ gk =>
      have hii : (i : Int) < (n : Int) := by omega
      have hi0 : (0 : Int) ≤ (i : Int) := by omega
      obtain ⟨x, hx⟩ : ∃ x, L[i]? = some x := ⟨_, List.getElem?_eq_getElem (by have := HN.out; omega)⟩
      obtain ⟨b1, o1, e1, hb1, k0, k1⟩ := pairAt (HSV.out wr (HSV5.out wr HW.out)).r1 hx
      subst e1
      have HS := Lib.hid (HPS.out i x hx)
      rw [HP.out] at HS
      clear hx hb1
      obtain ⟨y, hy⟩ : ∃ y, wr.heap.size = y := ⟨_, rfl⟩
      have HY := Lib.hid hy
      have HYL : Hid (∀ k, shOwn g9 (.slice A9 n9 c9) (.slice A2 m c2) k → k < y) := fun k hk => hy ▸ HOr.out.mem.lt hk
      have HYB : Hid (g6 + 1 ≤ y) := hy ▸ HOr.out.lt
      clear hy
      obtain ⟨kx, vx⟩ := x
      have HGT : Hid (gtKv s ⟨kx, vx⟩ = !(Op.bytesLess kx.toList s.toList || kx.toList == s.toList)) := (gt_str15 kx s).symm
      have hn9 : n9 ≤ 800000 := by have := HPN.out; omega
      dsimp only at k0 k1
      cases hs with
      | false =>
        cases b with
        | false =>
          cases z : Op.bytesLess kx.toList s.toList with
          | false =>
            cases z2 : (kx.toList == s.toList) with
            | false =>
              go_wp2_with (first
                | ((with_reducible show wpList _ _ _ (⟨some 12, .alloc _, _, _, _, _⟩ :: _) _ _); refine wpList_alloc_var (o := ⟨some 12, _, _, _, _, _⟩) rfl 42 rfl y HY.out _ HZP.out ?_; intro y2 Y2 D2)
                | ((with_reducible show wpList _ _ _ (⟨none, .store _ (.tmp 12) _, _, _, _, _⟩ :: _) _ _); refine wpList_store_whole (o := ⟨none, .store 42 (.tmp 12) (.tmp 34), _, _, _, _⟩) rfl _ _ _ rfl rfl y #[.string kx, .string vx] rfl rfl 42 _ Y2.out size_pair rfl (onesP _ _) ?_; intro y3 Y3 D3; obtain ⟨z0, z1⟩ := cells2 Y3.out; have HD3 : Hid (Below y wr y3) := D2.out.trans D3.out; have HO3 := Lib.hid (HOr.out.below (HY.out.symm ▸ HD3.out)); have HW3 : Hid (Below (g6 + 1) x5 y3) := HW.out.trans (HD3.out.mono HYB.out); have HLy : Hid (y < y3.heap.size) := lt_of_heap Y3.out; have hNy : ¬ y = g9 := (by { have := HYL.out g9 (.inl rfl); omega }); have hNz : ¬ g9 = y := (by { have := HYL.out g9 (.inl rfl); omega }); obtain ⟨a30, a31⟩ := cells2 HO3.out.mem.mem; obtain ⟨A4, c4, W4, r1, f4, e4, ou, st⟩ := Ou.appN (w := y3) HO3.out (by omega) ⟨s, vv⟩ y3.heap.size rfl; have HRUN4 := Lib.hid r1; have HOU4 := Lib.hid ou; have HST4 := Lib.hid st; obtain ⟨q40, q41⟩ := cells2 HO3.out.mem.mem; clear r1 ou st; have HY5 := Lib.hid ((HST4.out.block y (fun hk => by have := HYL.out y hk; omega) HLy.out).trans Y3.out); obtain ⟨z5, z6⟩ := cells2 HY5.out; have HY4 : Hid (W4.heap[y]? = some (.cells #[.string kx, .string vx] 42 (0, 0))) := (Below.heap_setCell W4 ⟨g9, 0, none⟩ _ y hNy).symm.trans HY5.out; obtain ⟨z7, z8⟩ := cells2 HY4.out; obtain ⟨A5, c5, W5, r1, f5, e5, ou, st⟩ := Ou.appN (w := (W4.setCell ⟨g9, 0, none⟩ (.slice A4 (n9 + 1) c4))) HOU4.out (by omega) ⟨kx, vx⟩ W4.heap.size (by simp); have HRUN5 := Lib.hid r1; have HOU5 := Lib.hid ou; have HST5 := Lib.hid st; obtain ⟨q50, q51⟩ := cells2 HOU4.out.mem.mem; clear r1 ou st)
                | (at_builtin; refine wpList_app rfl (.tmp 61) (.tmp 65) 22 rfl rfl rfl HRUN4.out ?_)
                | (at_builtin; refine wpList_app rfl (.tmp 69) (.tmp 71) 22 rfl rfl rfl HRUN5.out ?_)
                | fail)
              go_roundg gk
              case measure => omega
              case rel => exact ⟨i + 1, true, A5, n9 + 1 + 1, c5, P ++ [⟨s, vv⟩] ++ [⟨kx, vx⟩], by omega, rfl, by go_num, HOU5, by show _ = _; rw [HS.out]; unfold putStep; simp [HGT.out, z, z2], (HW3.out.trans (HST4.out.below HO3.out.base HO3.out.lt)).trans (HST5.out.below HOU4.out.base HOU4.out.lt)⟩
            | true =>
              go_wp2_with (first
                | ((with_reducible show wpList _ _ _ (⟨some 12, .alloc _, _, _, _, _⟩ :: _) _ _); refine wpList_alloc_var (o := ⟨some 12, _, _, _, _, _⟩) rfl 42 rfl y HY.out _ HZP.out ?_; intro y2 Y2 D2)
                | ((with_reducible show wpList _ _ _ (⟨none, .store _ (.tmp 12) _, _, _, _, _⟩ :: _) _ _); refine wpList_store_whole (o := ⟨none, .store 42 (.tmp 12) (.tmp 34), _, _, _, _⟩) rfl _ _ _ rfl rfl y #[.string kx, .string vx] rfl rfl 42 _ Y2.out size_pair rfl (onesP _ _) ?_; intro y3 Y3 D3; obtain ⟨z0, z1⟩ := cells2 Y3.out; have HD3 : Hid (Below y wr y3) := D2.out.trans D3.out; have HO3 := Lib.hid (HOr.out.below (HY.out.symm ▸ HD3.out)); have HW3 : Hid (Below (g6 + 1) x5 y3) := HW.out.trans (HD3.out.mono HYB.out); have HLy : Hid (y < y3.heap.size) := lt_of_heap Y3.out; have hNy : ¬ y = g9 := (by { have := HYL.out g9 (.inl rfl); omega }); have hNz : ¬ g9 = y := (by { have := HYL.out g9 (.inl rfl); omega }); obtain ⟨a30, a31⟩ := cells2 HO3.out.mem.mem; obtain ⟨A5, c5, W5, r1, f5, e5, ou, st⟩ := Ou.appN (w := y3) HO3.out (by omega) ⟨kx, vx⟩ y3.heap.size rfl; have HRUN5 := Lib.hid r1; have HOU5 := Lib.hid ou; have HST5 := Lib.hid st; obtain ⟨q50, q51⟩ := cells2 HO3.out.mem.mem; clear r1 ou st)
                | (at_builtin; refine wpList_app rfl (.tmp 69) (.tmp 71) 22 rfl rfl rfl HRUN5.out ?_)
                | fail)
              go_roundg gk
              case measure => omega
              case rel => exact ⟨i + 1, false, A5, n9 + 1, c5, P ++ [⟨kx, vx⟩], by omega, rfl, by go_num, HOU5, by show _ = _; rw [HS.out]; unfold putStep; simp [HGT.out, z, z2], HW3.out.trans (HST5.out.below HO3.out.base HO3.out.lt)⟩
          | true =>
            cases z2 : (kx.toList == s.toList) with
            | false =>
              go_wp2_with (first
                | ((with_reducible show wpList _ _ _ (⟨some 12, .alloc _, _, _, _, _⟩ :: _) _ _); refine wpList_alloc_var (o := ⟨some 12, _, _, _, _, _⟩) rfl 42 rfl y HY.out _ HZP.out ?_; intro y2 Y2 D2)
                | ((with_reducible show wpList _ _ _ (⟨none, .store _ (.tmp 12) _, _, _, _, _⟩ :: _) _ _); refine wpList_store_whole (o := ⟨none, .store 42 (.tmp 12) (.tmp 34), _, _, _, _⟩) rfl _ _ _ rfl rfl y #[.string kx, .string vx] rfl rfl 42 _ Y2.out size_pair rfl (onesP _ _) ?_; intro y3 Y3 D3; obtain ⟨z0, z1⟩ := cells2 Y3.out; have HD3 : Hid (Below y wr y3) := D2.out.trans D3.out; have HO3 := Lib.hid (HOr.out.below (HY.out.symm ▸ HD3.out)); have HW3 : Hid (Below (g6 + 1) x5 y3) := HW.out.trans (HD3.out.mono HYB.out); have HLy : Hid (y < y3.heap.size) := lt_of_heap Y3.out; have hNy : ¬ y = g9 := (by { have := HYL.out g9 (.inl rfl); omega }); have hNz : ¬ g9 = y := (by { have := HYL.out g9 (.inl rfl); omega }); obtain ⟨a30, a31⟩ := cells2 HO3.out.mem.mem; obtain ⟨A5, c5, W5, r1, f5, e5, ou, st⟩ := Ou.appN (w := y3) HO3.out (by omega) ⟨kx, vx⟩ y3.heap.size rfl; have HRUN5 := Lib.hid r1; have HOU5 := Lib.hid ou; have HST5 := Lib.hid st; obtain ⟨q50, q51⟩ := cells2 HO3.out.mem.mem; clear r1 ou st)
                | (at_builtin; refine wpList_app rfl (.tmp 69) (.tmp 71) 22 rfl rfl rfl HRUN5.out ?_)
                | fail)
              go_roundg gk
              case measure => omega
              case rel => exact ⟨i + 1, false, A5, n9 + 1, c5, P ++ [⟨kx, vx⟩], by omega, rfl, by go_num, HOU5, by show _ = _; rw [HS.out]; unfold putStep; simp [HGT.out, z], HW3.out.trans (HST5.out.below HO3.out.base HO3.out.lt)⟩
            | true =>
              go_wp2_with (first
                | ((with_reducible show wpList _ _ _ (⟨some 12, .alloc _, _, _, _, _⟩ :: _) _ _); refine wpList_alloc_var (o := ⟨some 12, _, _, _, _, _⟩) rfl 42 rfl y HY.out _ HZP.out ?_; intro y2 Y2 D2)
                | ((with_reducible show wpList _ _ _ (⟨none, .store _ (.tmp 12) _, _, _, _, _⟩ :: _) _ _); refine wpList_store_whole (o := ⟨none, .store 42 (.tmp 12) (.tmp 34), _, _, _, _⟩) rfl _ _ _ rfl rfl y #[.string kx, .string vx] rfl rfl 42 _ Y2.out size_pair rfl (onesP _ _) ?_; intro y3 Y3 D3; obtain ⟨z0, z1⟩ := cells2 Y3.out; have HD3 : Hid (Below y wr y3) := D2.out.trans D3.out; have HO3 := Lib.hid (HOr.out.below (HY.out.symm ▸ HD3.out)); have HW3 : Hid (Below (g6 + 1) x5 y3) := HW.out.trans (HD3.out.mono HYB.out); have HLy : Hid (y < y3.heap.size) := lt_of_heap Y3.out; have hNy : ¬ y = g9 := (by { have := HYL.out g9 (.inl rfl); omega }); have hNz : ¬ g9 = y := (by { have := HYL.out g9 (.inl rfl); omega }); obtain ⟨a30, a31⟩ := cells2 HO3.out.mem.mem; obtain ⟨A5, c5, W5, r1, f5, e5, ou, st⟩ := Ou.appN (w := y3) HO3.out (by omega) ⟨kx, vx⟩ y3.heap.size rfl; have HRUN5 := Lib.hid r1; have HOU5 := Lib.hid ou; have HST5 := Lib.hid st; obtain ⟨q50, q51⟩ := cells2 HO3.out.mem.mem; clear r1 ou st)
                | (at_builtin; refine wpList_app rfl (.tmp 69) (.tmp 71) 22 rfl rfl rfl HRUN5.out ?_)
                | fail)
              go_roundg gk
              case measure => omega
              case rel => exact ⟨i + 1, false, A5, n9 + 1, c5, P ++ [⟨kx, vx⟩], by omega, rfl, by go_num, HOU5, by show _ = _; rw [HS.out]; unfold putStep; simp [HGT.out, z], HW3.out.trans (HST5.out.below HO3.out.base HO3.out.lt)⟩
        | true =>
          cases z : Op.bytesLess kx.toList s.toList with
          | false =>
            cases z2 : (kx.toList == s.toList) with
            | false =>
              go_wp2_with (first
                | ((with_reducible show wpList _ _ _ (⟨some 12, .alloc _, _, _, _, _⟩ :: _) _ _); refine wpList_alloc_var (o := ⟨some 12, _, _, _, _, _⟩) rfl 42 rfl y HY.out _ HZP.out ?_; intro y2 Y2 D2)
                | ((with_reducible show wpList _ _ _ (⟨none, .store _ (.tmp 12) _, _, _, _, _⟩ :: _) _ _); refine wpList_store_whole (o := ⟨none, .store 42 (.tmp 12) (.tmp 34), _, _, _, _⟩) rfl _ _ _ rfl rfl y #[.string kx, .string vx] rfl rfl 42 _ Y2.out size_pair rfl (onesP _ _) ?_; intro y3 Y3 D3; obtain ⟨z0, z1⟩ := cells2 Y3.out; have HD3 : Hid (Below y wr y3) := D2.out.trans D3.out; have HO3 := Lib.hid (HOr.out.below (HY.out.symm ▸ HD3.out)); have HW3 : Hid (Below (g6 + 1) x5 y3) := HW.out.trans (HD3.out.mono HYB.out); have HLy : Hid (y < y3.heap.size) := lt_of_heap Y3.out; have hNy : ¬ y = g9 := (by { have := HYL.out g9 (.inl rfl); omega }); have hNz : ¬ g9 = y := (by { have := HYL.out g9 (.inl rfl); omega }); obtain ⟨a30, a31⟩ := cells2 HO3.out.mem.mem; obtain ⟨A5, c5, W5, r1, f5, e5, ou, st⟩ := Ou.appN (w := y3) HO3.out (by omega) ⟨kx, vx⟩ y3.heap.size rfl; have HRUN5 := Lib.hid r1; have HOU5 := Lib.hid ou; have HST5 := Lib.hid st; obtain ⟨q50, q51⟩ := cells2 HO3.out.mem.mem; clear r1 ou st)
                | (at_builtin; refine wpList_app rfl (.tmp 69) (.tmp 71) 22 rfl rfl rfl HRUN5.out ?_)
                | fail)
              go_roundg gk
              case measure => omega
              case rel => exact ⟨i + 1, true, A5, n9 + 1, c5, P ++ [⟨kx, vx⟩], by omega, rfl, by go_num, HOU5, by show _ = _; rw [HS.out]; unfold putStep; simp, HW3.out.trans (HST5.out.below HO3.out.base HO3.out.lt)⟩
            | true =>
              go_wp2_with (first
                | ((with_reducible show wpList _ _ _ (⟨some 12, .alloc _, _, _, _, _⟩ :: _) _ _); refine wpList_alloc_var (o := ⟨some 12, _, _, _, _, _⟩) rfl 42 rfl y HY.out _ HZP.out ?_; intro y2 Y2 D2)
                | ((with_reducible show wpList _ _ _ (⟨none, .store _ (.tmp 12) _, _, _, _, _⟩ :: _) _ _); refine wpList_store_whole (o := ⟨none, .store 42 (.tmp 12) (.tmp 34), _, _, _, _⟩) rfl _ _ _ rfl rfl y #[.string kx, .string vx] rfl rfl 42 _ Y2.out size_pair rfl (onesP _ _) ?_; intro y3 Y3 D3; obtain ⟨z0, z1⟩ := cells2 Y3.out; have HD3 : Hid (Below y wr y3) := D2.out.trans D3.out; have HO3 := Lib.hid (HOr.out.below (HY.out.symm ▸ HD3.out)); have HW3 : Hid (Below (g6 + 1) x5 y3) := HW.out.trans (HD3.out.mono HYB.out); have HLy : Hid (y < y3.heap.size) := lt_of_heap Y3.out; have hNy : ¬ y = g9 := (by { have := HYL.out g9 (.inl rfl); omega }); have hNz : ¬ g9 = y := (by { have := HYL.out g9 (.inl rfl); omega }); obtain ⟨a30, a31⟩ := cells2 HO3.out.mem.mem; obtain ⟨A5, c5, W5, r1, f5, e5, ou, st⟩ := Ou.appN (w := y3) HO3.out (by omega) ⟨kx, vx⟩ y3.heap.size rfl; have HRUN5 := Lib.hid r1; have HOU5 := Lib.hid ou; have HST5 := Lib.hid st; obtain ⟨q50, q51⟩ := cells2 HO3.out.mem.mem; clear r1 ou st)
                | (at_builtin; refine wpList_app rfl (.tmp 69) (.tmp 71) 22 rfl rfl rfl HRUN5.out ?_)
                | fail)
              go_roundg gk
              case measure => omega
              case rel => exact ⟨i + 1, true, A5, n9 + 1, c5, P ++ [⟨kx, vx⟩], by omega, rfl, by go_num, HOU5, by show _ = _; rw [HS.out]; unfold putStep; simp, HW3.out.trans (HST5.out.below HO3.out.base HO3.out.lt)⟩
          | true =>
            cases z2 : (kx.toList == s.toList) with
            | false =>
              go_wp2_with (first
                | ((with_reducible show wpList _ _ _ (⟨some 12, .alloc _, _, _, _, _⟩ :: _) _ _); refine wpList_alloc_var (o := ⟨some 12, _, _, _, _, _⟩) rfl 42 rfl y HY.out _ HZP.out ?_; intro y2 Y2 D2)
                | ((with_reducible show wpList _ _ _ (⟨none, .store _ (.tmp 12) _, _, _, _, _⟩ :: _) _ _); refine wpList_store_whole (o := ⟨none, .store 42 (.tmp 12) (.tmp 34), _, _, _, _⟩) rfl _ _ _ rfl rfl y #[.string kx, .string vx] rfl rfl 42 _ Y2.out size_pair rfl (onesP _ _) ?_; intro y3 Y3 D3; obtain ⟨z0, z1⟩ := cells2 Y3.out; have HD3 : Hid (Below y wr y3) := D2.out.trans D3.out; have HO3 := Lib.hid (HOr.out.below (HY.out.symm ▸ HD3.out)); have HW3 : Hid (Below (g6 + 1) x5 y3) := HW.out.trans (HD3.out.mono HYB.out); have HLy : Hid (y < y3.heap.size) := lt_of_heap Y3.out; have hNy : ¬ y = g9 := (by { have := HYL.out g9 (.inl rfl); omega }); have hNz : ¬ g9 = y := (by { have := HYL.out g9 (.inl rfl); omega }); obtain ⟨a30, a31⟩ := cells2 HO3.out.mem.mem; obtain ⟨A5, c5, W5, r1, f5, e5, ou, st⟩ := Ou.appN (w := y3) HO3.out (by omega) ⟨kx, vx⟩ y3.heap.size rfl; have HRUN5 := Lib.hid r1; have HOU5 := Lib.hid ou; have HST5 := Lib.hid st; obtain ⟨q50, q51⟩ := cells2 HO3.out.mem.mem; clear r1 ou st)
                | (at_builtin; refine wpList_app rfl (.tmp 69) (.tmp 71) 22 rfl rfl rfl HRUN5.out ?_)
                | fail)
              go_roundg gk
              case measure => omega
              case rel => exact ⟨i + 1, true, A5, n9 + 1, c5, P ++ [⟨kx, vx⟩], by omega, rfl, by go_num, HOU5, by show _ = _; rw [HS.out]; unfold putStep; simp, HW3.out.trans (HST5.out.below HO3.out.base HO3.out.lt)⟩
            | true =>
              go_wp2_with (first
                | ((with_reducible show wpList _ _ _ (⟨some 12, .alloc _, _, _, _, _⟩ :: _) _ _); refine wpList_alloc_var (o := ⟨some 12, _, _, _, _, _⟩) rfl 42 rfl y HY.out _ HZP.out ?_; intro y2 Y2 D2)
                | ((with_reducible show wpList _ _ _ (⟨none, .store _ (.tmp 12) _, _, _, _, _⟩ :: _) _ _); refine wpList_store_whole (o := ⟨none, .store 42 (.tmp 12) (.tmp 34), _, _, _, _⟩) rfl _ _ _ rfl rfl y #[.string kx, .string vx] rfl rfl 42 _ Y2.out size_pair rfl (onesP _ _) ?_; intro y3 Y3 D3; obtain ⟨z0, z1⟩ := cells2 Y3.out; have HD3 : Hid (Below y wr y3) := D2.out.trans D3.out; have HO3 := Lib.hid (HOr.out.below (HY.out.symm ▸ HD3.out)); have HW3 : Hid (Below (g6 + 1) x5 y3) := HW.out.trans (HD3.out.mono HYB.out); have HLy : Hid (y < y3.heap.size) := lt_of_heap Y3.out; have hNy : ¬ y = g9 := (by { have := HYL.out g9 (.inl rfl); omega }); have hNz : ¬ g9 = y := (by { have := HYL.out g9 (.inl rfl); omega }); obtain ⟨a30, a31⟩ := cells2 HO3.out.mem.mem; obtain ⟨A5, c5, W5, r1, f5, e5, ou, st⟩ := Ou.appN (w := y3) HO3.out (by omega) ⟨kx, vx⟩ y3.heap.size rfl; have HRUN5 := Lib.hid r1; have HOU5 := Lib.hid ou; have HST5 := Lib.hid st; obtain ⟨q50, q51⟩ := cells2 HO3.out.mem.mem; clear r1 ou st)
                | (at_builtin; refine wpList_app rfl (.tmp 69) (.tmp 71) 22 rfl rfl rfl HRUN5.out ?_)
                | fail)
              go_roundg gk
              case measure => omega
              case rel => exact ⟨i + 1, true, A5, n9 + 1, c5, P ++ [⟨kx, vx⟩], by omega, rfl, by go_num, HOU5, by show _ = _; rw [HS.out]; unfold putStep; simp, HW3.out.trans (HST5.out.below HO3.out.base HO3.out.lt)⟩
      | true =>
        cases b with
        | false =>
          cases z : Op.bytesLess kx.toList s.toList with
          | false =>
            cases z2 : (kx.toList == s.toList) with
            | false =>
              go_wp2_with (first
                | ((with_reducible show wpList _ _ _ (⟨some 12, .alloc _, _, _, _, _⟩ :: _) _ _); refine wpList_alloc_var (o := ⟨some 12, _, _, _, _, _⟩) rfl 42 rfl y HY.out _ HZP.out ?_; intro y2 Y2 D2)
                | ((with_reducible show wpList _ _ _ (⟨none, .store _ (.tmp 12) _, _, _, _, _⟩ :: _) _ _); refine wpList_store_whole (o := ⟨none, .store 42 (.tmp 12) (.tmp 34), _, _, _, _⟩) rfl _ _ _ rfl rfl y #[.string kx, .string vx] rfl rfl 42 _ Y2.out size_pair rfl (onesP _ _) ?_; intro y3 Y3 D3; obtain ⟨z0, z1⟩ := cells2 Y3.out; have HD3 : Hid (Below y wr y3) := D2.out.trans D3.out; have HO3 := Lib.hid (HOr.out.below (HY.out.symm ▸ HD3.out)); have HW3 : Hid (Below (g6 + 1) x5 y3) := HW.out.trans (HD3.out.mono HYB.out); have HLy : Hid (y < y3.heap.size) := lt_of_heap Y3.out; have hNy : ¬ y = g9 := (by { have := HYL.out g9 (.inl rfl); omega }); have hNz : ¬ g9 = y := (by { have := HYL.out g9 (.inl rfl); omega }); obtain ⟨a30, a31⟩ := cells2 HO3.out.mem.mem; obtain ⟨A5, c5, W5, r1, f5, e5, ou, st⟩ := Ou.appN (w := y3) HO3.out (by omega) ⟨kx, vx⟩ y3.heap.size rfl; have HRUN5 := Lib.hid r1; have HOU5 := Lib.hid ou; have HST5 := Lib.hid st; obtain ⟨q50, q51⟩ := cells2 HO3.out.mem.mem; clear r1 ou st)
                | (at_builtin; refine wpList_app rfl (.tmp 69) (.tmp 71) 22 rfl rfl rfl HRUN5.out ?_)
                | fail)
              go_roundg gk
              case measure => omega
              case rel => exact ⟨i + 1, false, A5, n9 + 1, c5, P ++ [⟨kx, vx⟩], by omega, rfl, by go_num, HOU5, by show _ = _; rw [HS.out]; unfold putStep; simp [eqKv, eqK, z2], HW3.out.trans (HST5.out.below HO3.out.base HO3.out.lt)⟩
            | true =>
              go_wp2_with (first
                | ((with_reducible show wpList _ _ _ (⟨some 12, .alloc _, _, _, _, _⟩ :: _) _ _); refine wpList_alloc_var (o := ⟨some 12, _, _, _, _, _⟩) rfl 42 rfl y HY.out _ HZP.out ?_; intro y2 Y2 D2)
                | ((with_reducible show wpList _ _ _ (⟨none, .store _ (.tmp 12) _, _, _, _, _⟩ :: _) _ _); refine wpList_store_whole (o := ⟨none, .store 42 (.tmp 12) (.tmp 34), _, _, _, _⟩) rfl _ _ _ rfl rfl y #[.string kx, .string vx] rfl rfl 42 _ Y2.out size_pair rfl (onesP _ _) ?_; intro y3 Y3 D3; obtain ⟨z0, z1⟩ := cells2 Y3.out; have HD3 : Hid (Below y wr y3) := D2.out.trans D3.out; have HO3 := Lib.hid (HOr.out.below (HY.out.symm ▸ HD3.out)); have HW3 : Hid (Below (g6 + 1) x5 y3) := HW.out.trans (HD3.out.mono HYB.out); have HLy : Hid (y < y3.heap.size) := lt_of_heap Y3.out; have hNy : ¬ y = g9 := (by { have := HYL.out g9 (.inl rfl); omega }); have hNz : ¬ g9 = y := (by { have := HYL.out g9 (.inl rfl); omega }); obtain ⟨a30, a31⟩ := cells2 HO3.out.mem.mem; have hfy : y3.frozen? ⟨y, 1, none⟩ = false := (by { have hh := Y3.out; simp [World.frozen?, hh] }); have HO4 : Hid (Ou (y3.setCell ⟨y, 1, none⟩ (.string vv)) (g6 + 1) g9 A9 n9 c9 (.slice A2 m c2) P Q) := HO3.out.stay (Stay.setCell (S := fun k => k = y) y3 y 1 (.string vv) rfl) (fun k hk e => by have := HYL.out k hk; omega); obtain ⟨A5, c5, W5, r1, f5, e5, ou, st⟩ := Ou.appN (w := (y3.setCell ⟨y, 1, none⟩ (.string vv))) HO4.out (by omega) ⟨kx, vv⟩ y3.heap.size (by simp); have HRUN5 := Lib.hid r1; have HOU5 := Lib.hid ou; have HST5 := Lib.hid st; obtain ⟨q50, q51⟩ := cells2 HO4.out.mem.mem; clear r1 ou st)
                | (at_builtin; refine wpList_app rfl (.tmp 69) (.tmp 71) 22 rfl rfl rfl HRUN5.out ?_)
                | fail)
              go_roundg gk
              case measure => omega
              case rel => exact ⟨i + 1, true, A5, n9 + 1, c5, P ++ [⟨kx, vv⟩], by omega, rfl, by go_num, HOU5, by show _ = _; rw [HS.out]; unfold putStep; simp [eqKv, eqK, z2], HW3.out.trans ((Below.setCell (Below.refl (g6 + 1) y3) (p := ⟨y, 1, none⟩) HYB.out (.string vv)).trans (HST5.out.below HO4.out.base HO4.out.lt))⟩
          | true =>
            cases z2 : (kx.toList == s.toList) with
            | false =>
              go_wp2_with (first
                | ((with_reducible show wpList _ _ _ (⟨some 12, .alloc _, _, _, _, _⟩ :: _) _ _); refine wpList_alloc_var (o := ⟨some 12, _, _, _, _, _⟩) rfl 42 rfl y HY.out _ HZP.out ?_; intro y2 Y2 D2)
                | ((with_reducible show wpList _ _ _ (⟨none, .store _ (.tmp 12) _, _, _, _, _⟩ :: _) _ _); refine wpList_store_whole (o := ⟨none, .store 42 (.tmp 12) (.tmp 34), _, _, _, _⟩) rfl _ _ _ rfl rfl y #[.string kx, .string vx] rfl rfl 42 _ Y2.out size_pair rfl (onesP _ _) ?_; intro y3 Y3 D3; obtain ⟨z0, z1⟩ := cells2 Y3.out; have HD3 : Hid (Below y wr y3) := D2.out.trans D3.out; have HO3 := Lib.hid (HOr.out.below (HY.out.symm ▸ HD3.out)); have HW3 : Hid (Below (g6 + 1) x5 y3) := HW.out.trans (HD3.out.mono HYB.out); have HLy : Hid (y < y3.heap.size) := lt_of_heap Y3.out; have hNy : ¬ y = g9 := (by { have := HYL.out g9 (.inl rfl); omega }); have hNz : ¬ g9 = y := (by { have := HYL.out g9 (.inl rfl); omega }); obtain ⟨a30, a31⟩ := cells2 HO3.out.mem.mem; obtain ⟨A5, c5, W5, r1, f5, e5, ou, st⟩ := Ou.appN (w := y3) HO3.out (by omega) ⟨kx, vx⟩ y3.heap.size rfl; have HRUN5 := Lib.hid r1; have HOU5 := Lib.hid ou; have HST5 := Lib.hid st; obtain ⟨q50, q51⟩ := cells2 HO3.out.mem.mem; clear r1 ou st)
                | (at_builtin; refine wpList_app rfl (.tmp 69) (.tmp 71) 22 rfl rfl rfl HRUN5.out ?_)
                | fail)
              go_roundg gk
              case measure => omega
              case rel => exact ⟨i + 1, false, A5, n9 + 1, c5, P ++ [⟨kx, vx⟩], by omega, rfl, by go_num, HOU5, by show _ = _; rw [HS.out]; unfold putStep; simp [eqKv, eqK, z2], HW3.out.trans (HST5.out.below HO3.out.base HO3.out.lt)⟩
            | true =>
              go_wp2_with (first
                | ((with_reducible show wpList _ _ _ (⟨some 12, .alloc _, _, _, _, _⟩ :: _) _ _); refine wpList_alloc_var (o := ⟨some 12, _, _, _, _, _⟩) rfl 42 rfl y HY.out _ HZP.out ?_; intro y2 Y2 D2)
                | ((with_reducible show wpList _ _ _ (⟨none, .store _ (.tmp 12) _, _, _, _, _⟩ :: _) _ _); refine wpList_store_whole (o := ⟨none, .store 42 (.tmp 12) (.tmp 34), _, _, _, _⟩) rfl _ _ _ rfl rfl y #[.string kx, .string vx] rfl rfl 42 _ Y2.out size_pair rfl (onesP _ _) ?_; intro y3 Y3 D3; obtain ⟨z0, z1⟩ := cells2 Y3.out; have HD3 : Hid (Below y wr y3) := D2.out.trans D3.out; have HO3 := Lib.hid (HOr.out.below (HY.out.symm ▸ HD3.out)); have HW3 : Hid (Below (g6 + 1) x5 y3) := HW.out.trans (HD3.out.mono HYB.out); have HLy : Hid (y < y3.heap.size) := lt_of_heap Y3.out; have hNy : ¬ y = g9 := (by { have := HYL.out g9 (.inl rfl); omega }); have hNz : ¬ g9 = y := (by { have := HYL.out g9 (.inl rfl); omega }); obtain ⟨a30, a31⟩ := cells2 HO3.out.mem.mem; have hfy : y3.frozen? ⟨y, 1, none⟩ = false := (by { have hh := Y3.out; simp [World.frozen?, hh] }); have HO4 : Hid (Ou (y3.setCell ⟨y, 1, none⟩ (.string vv)) (g6 + 1) g9 A9 n9 c9 (.slice A2 m c2) P Q) := HO3.out.stay (Stay.setCell (S := fun k => k = y) y3 y 1 (.string vv) rfl) (fun k hk e => by have := HYL.out k hk; omega); obtain ⟨A5, c5, W5, r1, f5, e5, ou, st⟩ := Ou.appN (w := (y3.setCell ⟨y, 1, none⟩ (.string vv))) HO4.out (by omega) ⟨kx, vv⟩ y3.heap.size (by simp); have HRUN5 := Lib.hid r1; have HOU5 := Lib.hid ou; have HST5 := Lib.hid st; obtain ⟨q50, q51⟩ := cells2 HO4.out.mem.mem; clear r1 ou st)
                | (at_builtin; refine wpList_app rfl (.tmp 69) (.tmp 71) 22 rfl rfl rfl HRUN5.out ?_)
                | fail)
              go_roundg gk
              case measure => omega
              case rel => exact ⟨i + 1, true, A5, n9 + 1, c5, P ++ [⟨kx, vv⟩], by omega, rfl, by go_num, HOU5, by show _ = _; rw [HS.out]; unfold putStep; simp [eqKv, eqK, z2], HW3.out.trans ((Below.setCell (Below.refl (g6 + 1) y3) (p := ⟨y, 1, none⟩) HYB.out (.string vv)).trans (HST5.out.below HO4.out.base HO4.out.lt))⟩
        | true =>
          cases z : Op.bytesLess kx.toList s.toList with
          | false =>
            cases z2 : (kx.toList == s.toList) with
            | false =>
              go_wp2_with (first
                | ((with_reducible show wpList _ _ _ (⟨some 12, .alloc _, _, _, _, _⟩ :: _) _ _); refine wpList_alloc_var (o := ⟨some 12, _, _, _, _, _⟩) rfl 42 rfl y HY.out _ HZP.out ?_; intro y2 Y2 D2)
                | ((with_reducible show wpList _ _ _ (⟨none, .store _ (.tmp 12) _, _, _, _, _⟩ :: _) _ _); refine wpList_store_whole (o := ⟨none, .store 42 (.tmp 12) (.tmp 34), _, _, _, _⟩) rfl _ _ _ rfl rfl y #[.string kx, .string vx] rfl rfl 42 _ Y2.out size_pair rfl (onesP _ _) ?_; intro y3 Y3 D3; obtain ⟨z0, z1⟩ := cells2 Y3.out; have HD3 : Hid (Below y wr y3) := D2.out.trans D3.out; have HO3 := Lib.hid (HOr.out.below (HY.out.symm ▸ HD3.out)); have HW3 : Hid (Below (g6 + 1) x5 y3) := HW.out.trans (HD3.out.mono HYB.out); have HLy : Hid (y < y3.heap.size) := lt_of_heap Y3.out; have hNy : ¬ y = g9 := (by { have := HYL.out g9 (.inl rfl); omega }); have hNz : ¬ g9 = y := (by { have := HYL.out g9 (.inl rfl); omega }); obtain ⟨a30, a31⟩ := cells2 HO3.out.mem.mem; obtain ⟨A5, c5, W5, r1, f5, e5, ou, st⟩ := Ou.appN (w := y3) HO3.out (by omega) ⟨kx, vx⟩ y3.heap.size rfl; have HRUN5 := Lib.hid r1; have HOU5 := Lib.hid ou; have HST5 := Lib.hid st; obtain ⟨q50, q51⟩ := cells2 HO3.out.mem.mem; clear r1 ou st)
                | (at_builtin; refine wpList_app rfl (.tmp 69) (.tmp 71) 22 rfl rfl rfl HRUN5.out ?_)
                | fail)
              go_roundg gk
              case measure => omega
              case rel => exact ⟨i + 1, true, A5, n9 + 1, c5, P ++ [⟨kx, vx⟩], by omega, rfl, by go_num, HOU5, by show _ = _; rw [HS.out]; unfold putStep; simp, HW3.out.trans (HST5.out.below HO3.out.base HO3.out.lt)⟩
            | true =>
              go_wp2_with (first
                | ((with_reducible show wpList _ _ _ (⟨some 12, .alloc _, _, _, _, _⟩ :: _) _ _); refine wpList_alloc_var (o := ⟨some 12, _, _, _, _, _⟩) rfl 42 rfl y HY.out _ HZP.out ?_; intro y2 Y2 D2)
                | ((with_reducible show wpList _ _ _ (⟨none, .store _ (.tmp 12) _, _, _, _, _⟩ :: _) _ _); refine wpList_store_whole (o := ⟨none, .store 42 (.tmp 12) (.tmp 34), _, _, _, _⟩) rfl _ _ _ rfl rfl y #[.string kx, .string vx] rfl rfl 42 _ Y2.out size_pair rfl (onesP _ _) ?_; intro y3 Y3 D3; obtain ⟨z0, z1⟩ := cells2 Y3.out; have HD3 : Hid (Below y wr y3) := D2.out.trans D3.out; have HO3 := Lib.hid (HOr.out.below (HY.out.symm ▸ HD3.out)); have HW3 : Hid (Below (g6 + 1) x5 y3) := HW.out.trans (HD3.out.mono HYB.out); have HLy : Hid (y < y3.heap.size) := lt_of_heap Y3.out; have hNy : ¬ y = g9 := (by { have := HYL.out g9 (.inl rfl); omega }); have hNz : ¬ g9 = y := (by { have := HYL.out g9 (.inl rfl); omega }); obtain ⟨a30, a31⟩ := cells2 HO3.out.mem.mem; obtain ⟨A5, c5, W5, r1, f5, e5, ou, st⟩ := Ou.appN (w := y3) HO3.out (by omega) ⟨kx, vx⟩ y3.heap.size rfl; have HRUN5 := Lib.hid r1; have HOU5 := Lib.hid ou; have HST5 := Lib.hid st; obtain ⟨q50, q51⟩ := cells2 HO3.out.mem.mem; clear r1 ou st)
                | (at_builtin; refine wpList_app rfl (.tmp 69) (.tmp 71) 22 rfl rfl rfl HRUN5.out ?_)
                | fail)
              go_roundg gk
              case measure => omega
              case rel => exact ⟨i + 1, true, A5, n9 + 1, c5, P ++ [⟨kx, vx⟩], by omega, rfl, by go_num, HOU5, by show _ = _; rw [HS.out]; unfold putStep; simp, HW3.out.trans (HST5.out.below HO3.out.base HO3.out.lt)⟩
          | true =>
            cases z2 : (kx.toList == s.toList) with
            | false =>
              go_wp2_with (first
                | ((with_reducible show wpList _ _ _ (⟨some 12, .alloc _, _, _, _, _⟩ :: _) _ _); refine wpList_alloc_var (o := ⟨some 12, _, _, _, _, _⟩) rfl 42 rfl y HY.out _ HZP.out ?_; intro y2 Y2 D2)
                | ((with_reducible show wpList _ _ _ (⟨none, .store _ (.tmp 12) _, _, _, _, _⟩ :: _) _ _); refine wpList_store_whole (o := ⟨none, .store 42 (.tmp 12) (.tmp 34), _, _, _, _⟩) rfl _ _ _ rfl rfl y #[.string kx, .string vx] rfl rfl 42 _ Y2.out size_pair rfl (onesP _ _) ?_; intro y3 Y3 D3; obtain ⟨z0, z1⟩ := cells2 Y3.out; have HD3 : Hid (Below y wr y3) := D2.out.trans D3.out; have HO3 := Lib.hid (HOr.out.below (HY.out.symm ▸ HD3.out)); have HW3 : Hid (Below (g6 + 1) x5 y3) := HW.out.trans (HD3.out.mono HYB.out); have HLy : Hid (y < y3.heap.size) := lt_of_heap Y3.out; have hNy : ¬ y = g9 := (by { have := HYL.out g9 (.inl rfl); omega }); have hNz : ¬ g9 = y := (by { have := HYL.out g9 (.inl rfl); omega }); obtain ⟨a30, a31⟩ := cells2 HO3.out.mem.mem; obtain ⟨A5, c5, W5, r1, f5, e5, ou, st⟩ := Ou.appN (w := y3) HO3.out (by omega) ⟨kx, vx⟩ y3.heap.size rfl; have HRUN5 := Lib.hid r1; have HOU5 := Lib.hid ou; have HST5 := Lib.hid st; obtain ⟨q50, q51⟩ := cells2 HO3.out.mem.mem; clear r1 ou st)
                | (at_builtin; refine wpList_app rfl (.tmp 69) (.tmp 71) 22 rfl rfl rfl HRUN5.out ?_)
                | fail)
              go_roundg gk
              case measure => omega
              case rel => exact ⟨i + 1, true, A5, n9 + 1, c5, P ++ [⟨kx, vx⟩], by omega, rfl, by go_num, HOU5, by show _ = _; rw [HS.out]; unfold putStep; simp, HW3.out.trans (HST5.out.below HO3.out.base HO3.out.lt)⟩
            | true =>
              go_wp2_with (first
                | ((with_reducible show wpList _ _ _ (⟨some 12, .alloc _, _, _, _, _⟩ :: _) _ _); refine wpList_alloc_var (o := ⟨some 12, _, _, _, _, _⟩) rfl 42 rfl y HY.out _ HZP.out ?_; intro y2 Y2 D2)
                | ((with_reducible show wpList _ _ _ (⟨none, .store _ (.tmp 12) _, _, _, _, _⟩ :: _) _ _); refine wpList_store_whole (o := ⟨none, .store 42 (.tmp 12) (.tmp 34), _, _, _, _⟩) rfl _ _ _ rfl rfl y #[.string kx, .string vx] rfl rfl 42 _ Y2.out size_pair rfl (onesP _ _) ?_; intro y3 Y3 D3; obtain ⟨z0, z1⟩ := cells2 Y3.out; have HD3 : Hid (Below y wr y3) := D2.out.trans D3.out; have HO3 := Lib.hid (HOr.out.below (HY.out.symm ▸ HD3.out)); have HW3 : Hid (Below (g6 + 1) x5 y3) := HW.out.trans (HD3.out.mono HYB.out); have HLy : Hid (y < y3.heap.size) := lt_of_heap Y3.out; have hNy : ¬ y = g9 := (by { have := HYL.out g9 (.inl rfl); omega }); have hNz : ¬ g9 = y := (by { have := HYL.out g9 (.inl rfl); omega }); obtain ⟨a30, a31⟩ := cells2 HO3.out.mem.mem; obtain ⟨A5, c5, W5, r1, f5, e5, ou, st⟩ := Ou.appN (w := y3) HO3.out (by omega) ⟨kx, vx⟩ y3.heap.size rfl; have HRUN5 := Lib.hid r1; have HOU5 := Lib.hid ou; have HST5 := Lib.hid st; obtain ⟨q50, q51⟩ := cells2 HO3.out.mem.mem; clear r1 ou st)
                | (at_builtin; refine wpList_app rfl (.tmp 69) (.tmp 71) 22 rfl rfl rfl HRUN5.out ?_)
                | fail)
              go_roundg gk
              case measure => omega
              case rel => exact ⟨i + 1, true, A5, n9 + 1, c5, P ++ [⟨kx, vx⟩], by omega, rfl, by go_num, HOU5, by show _ = _; rw [HS.out]; unfold putStep; simp, HW3.out.trans (HST5.out.below HO3.out.base HO3.out.lt)⟩
set_option maxHeartbeats 3200000 in
theorem rpop15_any {w : World} {A B : Option Addr} {n c m d : Nat} {L : List Kv} {Q : List ByteArray} (h : Shv w A n c B m d L Q) (hq : Q.length < 900000) (hc : m ≤ d) (hdm : d ≤ maxLen) : Calls Try.prog 25 #[.agg #[.slice A n c, .slice B m d]] w (RefTo w L Q.tail) := by
  obtain ⟨g, hg⟩ : ∃ g, w.heap.size = g := ⟨_, rfl⟩
  obtain ⟨w1, hw1⟩ : ∃ w1, w.alloc (.cells #[.slice A n c, .slice B m d] 25) = w1 := ⟨_, rfl⟩
  have HX : Hid (w1.heap[g]? = some (.cells #[.slice A n c, .slice B m d] 25 (0, 0))) := by rw [← hw1, ← hg]; exact heap_alloc_new w _
  have HB : Hid (Below g w w1) := by rw [← hw1, ← hg]; exact (Below.refl _ _).alloc (Nat.le_refl _) _
  have HSV : Hid (∀ v, Below g w v → Shv v A n c B m d L Q) := fun v hv => h.below (hg.symm ▸ hv)
  have HN : Hid (L.length = n) := h.n1
  have HM : Hid (Q.length = m) := h.n2
  obtain ⟨g2, hg2⟩ : ∃ z, w1.heap.size = z := ⟨_, rfl⟩
  have HG2 := Lib.hid hg2
  have HL : Hid (g < g2) := hg2 ▸ lt_of_heap HX.out
  have HZ := Lib.hid zero_shelf
  obtain ⟨R, hR⟩ : ∃ R, RefTo w L Q.tail = R := ⟨_, rfl⟩
  have HFIN : Hid (∀ v W A' c' B' m' d', Below g w v → g2 < v.heap.size → v.ownsRow (g2 + 1) RP.tE RP.k (.slice A' n c') n (RP.enc L) → v.ownsRow (g2 + 1) RS.tE RS.k (.slice B' m' d') m' (RS.enc Q.tail) → Q.tail.length = m' → Turns g2 g2 v W → R (.returned (.agg #[.slice A' n c', .slice B' m' d'])) W) := fun v W A' c' B' m' d' k1 k2 k3 k4 k6 k5 => by
    have o : OwnS W (g2 + 1) A' n c' B' m' d' L Q.tail := (OwnS.turn ⟨k3, k4, HN.out, k6⟩ k5 (Nat.lt_succ_self _))
    rw [← hR]
    exact ⟨A', n, c', B', m', d', rfl, o.mono (by rw [hg]; have := HL.out; omega), by rw [hg]; exact k1.trans (turn_below k5 (Nat.le_of_lt HL.out) (by have := HL.out; omega))⟩
  have HAPP : Hid (∀ v, Below g w v → ∃ A' c' w', (Builtin.append_ #[22, 22] 22 #[.slice none 0 0, .slice A n c]).run Try.prog v = .ok (.slice A' n c') w' ∧ w'.ownsRow v.heap.size RP.tE RP.k (.slice A' n c') n (RP.enc L) ∧ Below v.heap.size v w') := fun v hv => app_nil RP v A n c L h.n1 (HSV.out v hv).r1 h.z1 22
  have HTL : Hid (Q.tail.length = m - 1) := by rw [List.length_tail, HM.out]; rfl
  have HAPQ : Hid (∀ v b o, m ≠ 0 → B = some ⟨b, o, none⟩ → Below g w v → ∃ A' c' w', (Builtin.append_ #[23, 23] 23 #[.slice none 0 0, .slice (some ⟨b, o + 1, none⟩) (m - 1) (d - 1)]).run Try.prog v = .ok (.slice A' (m - 1) c') w' ∧ w'.ownsRow v.heap.size RS.tE RS.k (.slice A' (m - 1) c') (m - 1) (RS.enc Q.tail) ∧ Below v.heap.size v w') := fun v b o e1 e2 hv => by
    have hr := (HSV.out v hv).r2
    rw [e2] at hr
    have hd := hr.drop 1
    rw [List.drop_one] at hd
    exact app_nil RS v _ (m - 1) _ Q.tail HTL.out hd (fun e => by cases e) 23
  have HAP1 : Hid (∀ v b o, m = 1 → Below g w v → ∃ A' c' w', (Builtin.append_ #[23, 23] 23 #[.slice none 0 0, .slice (some ⟨b, o, none⟩) 0 0]).run Try.prog v = .ok (.slice A' 0 c') w' ∧ w'.ownsRow v.heap.size RS.tE RS.k (.slice A' 0 c') 0 (RS.enc Q.tail) ∧ Below v.heap.size v w') := fun v b o e1 hv => by
    have e : Q.tail = [] := List.eq_nil_of_length_eq_zero (by have := HTL.out; omega)
    rw [e]
    exact app_nil RS v _ 0 0 [] rfl (RS.row_nil _ _) (fun e => by cases e) 23
  have HBN : Hid (m ≠ 0 → ∃ b o, B = some ⟨b, o, none⟩) := fun hm => by
    obtain ⟨b, o, e, -⟩ := h.r2.2 (by rw [h.n2]; omega)
    exact ⟨b, o, e⟩
  have hmb : m < 900000 := by have := h.n2; omega
  have hdb : d ≤ maxLen := hdm
  rw [hR]
  clear h hR hq hg2 hdm
  rcases Nat.eq_zero_or_pos m with hm0 | hm0
  · subst hm0
    have HTN : Hid (Q.tail = []) := List.eq_nil_of_length_eq_zero (by have := HTL.out; omega)
    obtain ⟨p0, p1⟩ := cells2 HX.out
    go_enter Try.func25, Try.ntmps25
    go_wp2_with (first
      | ((with_reducible show wpList _ _ _ (⟨some 2, .alloc _, _, _, _, _⟩ :: _) _ _); refine wpList_alloc_var (o := ⟨some 2, _, _, _, _, _⟩) rfl 25 rfl g2 HG2.out _ HZ.out ?_; intro v1 X2 B2; have HX1 := Lib.hid ((B2.out.block g HL.out).trans HX.out); have HB1 : Hid (Below g w v1) := HB.out.trans (B2.out.mono (Nat.le_of_lt HL.out)); clear p0 p1; obtain ⟨p0, p1⟩ := cells2 HX1.out)
      | (at_builtin; obtain ⟨A3, c3, x2, r2, o2, b2⟩ := HAPP.out v1 HB1.out; have HRUN := Lib.hid r2; have HO2 := Lib.hid o2; have HB2' := Lib.hid b2; clear r2 o2 b2; refine wpList_app rfl (.const (.slice none 0 0)) (.tmp 5) 22 rfl rfl rfl HRUN.out ?_; obtain ⟨g3, hg3⟩ : ∃ z, x2.heap.size = z := ⟨_, rfl⟩; have HG3 := Lib.hid hg3; clear hg3; clear p0 p1)
      | ((with_reducible show wpList _ _ _ (⟨some 3, .alloc _, _, _, _, _⟩ :: _) _ _); refine wpList_alloc_var (o := ⟨some 3, _, _, _, _, _⟩) rfl 25 rfl g3 HG3.out _ HZ.out ?_; intro x3 X3 B3)
      | ((with_reducible show wpList _ _ _ (⟨none, .store _ (.tmp 3) _, _, _, _, _⟩ :: _) _ _); refine wpList_store_whole (o := ⟨none, .store 25 (.tmp 3) (.tmp 7), _, _, _, _⟩) rfl _ _ _ rfl rfl g3 #[.slice A3 n c3, .slice none 0 0] rfl rfl 25 _ X3.out size_shelf rfl (onesV _ _ _ _ _ _) ?_; intro x5 X5 B5; have HLv : Hid (g2 < v1.heap.size) := lt_of_heap X2.out; have HB25 : Hid (Below g3 x2 x5) := B3.out.trans B5.out; have HL3 : Hid (g2 < g3) := Nat.lt_of_lt_of_le HLv.out (HG3.out ▸ HB2'.out.size); have HBx : Hid (Below (g2 + 1) v1 x5) := (HB2'.out.mono HLv.out).trans (HB25.out.mono HL3.out); have HX5 := Lib.hid ((HBx.out.block g (by have := HL.out; omega)).trans HX1.out); have HX25 := Lib.hid ((HBx.out.block g2 (by omega)).trans X2.out); have HB5 : Hid (Below g w x5) := HB1.out.trans (HBx.out.mono (by have := HL.out; omega)); have HO5 : Hid (x5.ownsRow (g2 + 1) RP.tE RP.k (.slice A3 n c3) n (RP.enc L)) := own_mono (own_keep HO2.out (HG3.out.symm ▸ HB25.out)) HLv.out; obtain ⟨p0, p1⟩ := cells2 HX5.out; obtain ⟨q0, q1⟩ := cells2 X5.out ; have HZ2 := HX25)
      | ((with_reducible show wpList _ _ _ (⟨none, .store _ (.tmp 2) _, _, _, _, _⟩ :: _) _ _); refine wpList_store_only (o := ⟨none, .store 25 (.tmp 2) (.tmp 17), _, _, _, _⟩) rfl _ _ _ rfl rfl g2 #[.slice A3 n c3, .slice none 0 0] rfl rfl 25 _ HZ2.out size_shelf rfl (onesV _ _ _ _ _ _) ?_; intro v9 X9 T9)
      | fail)
    refine bodyPost_ret (results_v1 (cs := [.slice A3 n c3, .slice none 0 0]) rfl Try.underlying25 rfl X9.out size_shelf) rfl ?_
    exact HFIN.out _ _ _ _ _ _ _ HB5.out (lt_of_heap HX25.out) HO5.out (by rw [HTN.out]; exact World.ownsRow_nil _ _ _ _) (by rw [HTN.out]; rfl) T9.out
  · obtain ⟨b, o, rfl⟩ := HBN.out (by omega)
    rcases Nat.eq_or_lt_of_le (show 1 ≤ d from by omega) with hd1 | hd1
    · obtain rfl : m = 1 := by omega
      subst hd1
      have HTL1 : Hid (Q.tail.length = 0) := HTL.out
      obtain ⟨p0, p1⟩ := cells2 HX.out
      go_enter Try.func25, Try.ntmps25
      go_wp2_with (first
        | ((with_reducible show wpList _ _ _ (⟨some 2, .alloc _, _, _, _, _⟩ :: _) _ _); refine wpList_alloc_var (o := ⟨some 2, _, _, _, _, _⟩) rfl 25 rfl g2 HG2.out _ HZ.out ?_; intro v1 X2 B2; have HX1 := Lib.hid ((B2.out.block g HL.out).trans HX.out); have HB1 : Hid (Below g w v1) := HB.out.trans (B2.out.mono (Nat.le_of_lt HL.out)); clear p0 p1; obtain ⟨p0, p1⟩ := cells2 HX1.out)
        | ((with_reducible show wpList _ _ _ (⟨some 6, .call _, _, _, _, _⟩ :: _) _ _); obtain ⟨A3, c3, x2, r2, o2, b2⟩ := HAPP.out v1 HB1.out; have HRUN := Lib.hid r2; have HO2 := Lib.hid o2; have HB2' := Lib.hid b2; clear r2 o2 b2; refine wpList_app rfl (.const (.slice none 0 0)) (.tmp 5) 22 rfl rfl rfl HRUN.out ?_; obtain ⟨g3, hg3⟩ : ∃ z, x2.heap.size = z := ⟨_, rfl⟩; have HG3 := Lib.hid hg3; clear hg3; clear p0 p1)
        | ((with_reducible show wpList _ _ _ (⟨some 3, .alloc _, _, _, _, _⟩ :: _) _ _); refine wpList_alloc_var (o := ⟨some 3, _, _, _, _, _⟩) rfl 25 rfl g3 HG3.out _ HZ.out ?_; intro x3 X3 B3)
        | ((with_reducible show wpList _ _ _ (⟨none, .store _ (.tmp 3) _, _, _, _, _⟩ :: _) _ _); refine wpList_store_whole (o := ⟨none, .store 25 (.tmp 3) (.tmp 7), _, _, _, _⟩) rfl _ _ _ rfl rfl g3 #[.slice A3 n c3, .slice none 0 0] rfl rfl 25 _ X3.out size_shelf rfl (onesV _ _ _ _ _ _) ?_; intro x5 X5 B5; have HLv : Hid (g2 < v1.heap.size) := lt_of_heap X2.out; have HB25 : Hid (Below g3 x2 x5) := B3.out.trans B5.out; have HL3 : Hid (g2 < g3) := Nat.lt_of_lt_of_le HLv.out (HG3.out ▸ HB2'.out.size); have HBx : Hid (Below (g2 + 1) v1 x5) := (HB2'.out.mono HLv.out).trans (HB25.out.mono HL3.out); have HX5 := Lib.hid ((HBx.out.block g (by have := HL.out; omega)).trans HX1.out); have HX25 := Lib.hid ((HBx.out.block g2 (by omega)).trans X2.out); have HB5 : Hid (Below g w x5) := HB1.out.trans (HBx.out.mono (by have := HL.out; omega)); have HO5 : Hid (x5.ownsRow (g2 + 1) RP.tE RP.k (.slice A3 n c3) n (RP.enc L)) := own_mono (own_keep HO2.out (HG3.out.symm ▸ HB25.out)) HLv.out; obtain ⟨p0, p1⟩ := cells2 HX5.out; obtain ⟨q0, q1⟩ := cells2 X5.out ; obtain ⟨A6, c6, x6, r6, o6, b6⟩ := HAP1.out x5 b o rfl HB5.out; have HRUN6 := Lib.hid r6; have HO6 := Lib.hid o6; have HB6 := Lib.hid b6; clear r6 o6 b6; have HX36 := Lib.hid ((HB6.out.block g3 (lt_of_heap X5.out)).trans X5.out); have hf6 : x6.frozen? ⟨g3, 1, none⟩ = false := (by { have hh := HX36.out; simp [World.frozen?, hh] }); obtain ⟨s0, s1⟩ := cells2 HX36.out; have HZ6 : Hid (x6.heap[g2]? = _) := (HB6.out.block g2 (lt_of_heap HX25.out)).trans HX25.out; have HZ2 : Hid ((x6.setCell ⟨g3, 1, none⟩ (.slice A6 0 c6)).heap[g2]? = some (.cells #[.slice none 0 0, .slice none 0 0] 25 (0, 0))) := (Below.heap_setCell x6 ⟨g3, 1, none⟩ _ g2 (by have := HL3.out; show g2 ≠ g3; omega)).trans HZ6.out)
        | ((with_reducible show wpList _ _ _ (⟨some 15, .call _, _, _, _, _⟩ :: _) _ _); refine wpList_app rfl (.const (.slice none 0 0)) (.tmp 14) 23 rfl rfl rfl HRUN6.out ?_)
        | ((with_reducible show wpList _ _ _ (⟨none, .store _ (.tmp 2) _, _, _, _, _⟩ :: _) _ _); refine wpList_store_only (o := ⟨none, .store 25 (.tmp 2) (.tmp 17), _, _, _, _⟩) rfl _ _ _ rfl rfl g2 #[.slice A3 n c3, .slice A6 0 c6] rfl rfl 25 _ HZ2.out size_shelf rfl (onesV _ _ _ _ _ _) ?_; intro v9 X9 T9)
        | fail)
      refine bodyPost_ret (results_v1 (cs := [.slice A3 n c3, .slice A6 0 c6]) rfl Try.underlying25 rfl X9.out size_shelf) rfl ?_
      exact HFIN.out _ _ _ _ _ _ _ (HB5.out.trans (HB6.out.mono (by have := HX5.out; have := lt_of_heap this; omega)) |>.setCell (p := ⟨g3, 1, none⟩) (by have := HL.out; have := HL3.out; show g ≤ g3; omega) _) (lt_of_heap HZ2.out) (own_same (own_keep HO5.out HB6.out) (fun k hk => Below.heap_setCell x6 ⟨g3, 1, none⟩ _ k (by have := own_ltN HO2.out hk; have := HG3.out; show k ≠ g3; omega))) (own_mono (own_same HO6.out (fun k hk => Below.heap_setCell x6 ⟨g3, 1, none⟩ _ k (by have := own_ge HO6.out k hk; have := lt_of_heap X5.out; show k ≠ g3; omega))) (by have := lt_of_heap HX25.out; exact this)) HTL1.out T9.out
    · obtain ⟨k, rfl⟩ : ∃ k, m = k + 1 := ⟨m - 1, by omega⟩
      have hd2 : ¬ d = 1 := by omega
      have hd3 : ¬ 1 = d := by omega
      clear hd1 hm0
      obtain ⟨p0, p1⟩ := cells2 HX.out
      go_enter Try.func25, Try.ntmps25
      go_wp2_with (first
        | ((with_reducible show wpList _ _ _ (⟨some 2, .alloc _, _, _, _, _⟩ :: _) _ _); refine wpList_alloc_var (o := ⟨some 2, _, _, _, _, _⟩) rfl 25 rfl g2 HG2.out _ HZ.out ?_; intro v1 X2 B2; have HX1 := Lib.hid ((B2.out.block g HL.out).trans HX.out); have HB1 : Hid (Below g w v1) := HB.out.trans (B2.out.mono (Nat.le_of_lt HL.out)); clear p0 p1; obtain ⟨p0, p1⟩ := cells2 HX1.out)
        | ((with_reducible show wpList _ _ _ (⟨some 6, .call _, _, _, _, _⟩ :: _) _ _); obtain ⟨A3, c3, x2, r2, o2, b2⟩ := HAPP.out v1 HB1.out; have HRUN := Lib.hid r2; have HO2 := Lib.hid o2; have HB2' := Lib.hid b2; clear r2 o2 b2; refine wpList_app rfl (.const (.slice none 0 0)) (.tmp 5) 22 rfl rfl rfl HRUN.out ?_; obtain ⟨g3, hg3⟩ : ∃ z, x2.heap.size = z := ⟨_, rfl⟩; have HG3 := Lib.hid hg3; clear hg3; clear p0 p1)
        | ((with_reducible show wpList _ _ _ (⟨some 3, .alloc _, _, _, _, _⟩ :: _) _ _); refine wpList_alloc_var (o := ⟨some 3, _, _, _, _, _⟩) rfl 25 rfl g3 HG3.out _ HZ.out ?_; intro x3 X3 B3)
        | ((with_reducible show wpList _ _ _ (⟨none, .store _ (.tmp 3) _, _, _, _, _⟩ :: _) _ _); refine wpList_store_whole (o := ⟨none, .store 25 (.tmp 3) (.tmp 7), _, _, _, _⟩) rfl _ _ _ rfl rfl g3 #[.slice A3 n c3, .slice none 0 0] rfl rfl 25 _ X3.out size_shelf rfl (onesV _ _ _ _ _ _) ?_; intro x5 X5 B5; have HLv : Hid (g2 < v1.heap.size) := lt_of_heap X2.out; have HB25 : Hid (Below g3 x2 x5) := B3.out.trans B5.out; have HL3 : Hid (g2 < g3) := Nat.lt_of_lt_of_le HLv.out (HG3.out ▸ HB2'.out.size); have HBx : Hid (Below (g2 + 1) v1 x5) := (HB2'.out.mono HLv.out).trans (HB25.out.mono HL3.out); have HX5 := Lib.hid ((HBx.out.block g (by have := HL.out; omega)).trans HX1.out); have HX25 := Lib.hid ((HBx.out.block g2 (by omega)).trans X2.out); have HB5 : Hid (Below g w x5) := HB1.out.trans (HBx.out.mono (by have := HL.out; omega)); have HO5 : Hid (x5.ownsRow (g2 + 1) RP.tE RP.k (.slice A3 n c3) n (RP.enc L)) := own_mono (own_keep HO2.out (HG3.out.symm ▸ HB25.out)) HLv.out; obtain ⟨p0, p1⟩ := cells2 HX5.out; obtain ⟨q0, q1⟩ := cells2 X5.out ; obtain ⟨A6, c6, x6, r6, o6, b6⟩ := HAPQ.out x5 b o (by omega) rfl HB5.out; have HRUN6 := Lib.hid r6; have HO6 := Lib.hid o6; have HB6 := Lib.hid b6; clear r6 o6 b6; have HX36 := Lib.hid ((HB6.out.block g3 (lt_of_heap X5.out)).trans X5.out); have hf6 : x6.frozen? ⟨g3, 1, none⟩ = false := (by { have hh := HX36.out; simp [World.frozen?, hh] }); obtain ⟨s0, s1⟩ := cells2 HX36.out; have HZ6 : Hid (x6.heap[g2]? = _) := (HB6.out.block g2 (lt_of_heap HX25.out)).trans HX25.out; have HZ2 : Hid ((x6.setCell ⟨g3, 1, none⟩ (.slice A6 k c6)).heap[g2]? = some (.cells #[.slice none 0 0, .slice none 0 0] 25 (0, 0))) := (Below.heap_setCell x6 ⟨g3, 1, none⟩ _ g2 (by have := HL3.out; show g2 ≠ g3; omega)).trans HZ6.out)
        | ((with_reducible show wpList _ _ _ (⟨some 15, .call _, _, _, _, _⟩ :: _) _ _); refine wpList_app rfl (.const (.slice none 0 0)) (.tmp 14) 23 rfl rfl rfl HRUN6.out ?_)
        | ((with_reducible show wpList _ _ _ (⟨none, .store _ (.tmp 2) _, _, _, _, _⟩ :: _) _ _); refine wpList_store_only (o := ⟨none, .store 25 (.tmp 2) (.tmp 17), _, _, _, _⟩) rfl _ _ _ rfl rfl g2 #[.slice A3 n c3, .slice A6 k c6] rfl rfl 25 _ HZ2.out size_shelf rfl (onesV _ _ _ _ _ _) ?_; intro v9 X9 T9)
        | fail)
      refine bodyPost_ret (results_v1 (cs := [.slice A3 n c3, .slice A6 k c6]) rfl Try.underlying25 rfl X9.out size_shelf) rfl ?_
      exact HFIN.out _ _ _ _ _ _ _ (HB5.out.trans (HB6.out.mono (by have := HX5.out; have := lt_of_heap this; omega)) |>.setCell (p := ⟨g3, 1, none⟩) (by have := HL.out; have := HL3.out; show g ≤ g3; omega) _) (lt_of_heap HZ2.out) (own_same (own_keep HO5.out HB6.out) (fun k hk => Below.heap_setCell x6 ⟨g3, 1, none⟩ _ k (by have := own_ltN HO2.out hk; have := HG3.out; show k ≠ g3; omega))) (own_mono (own_same HO6.out (fun k hk => Below.heap_setCell x6 ⟨g3, 1, none⟩ _ k (by have := own_ge HO6.out k hk; have := lt_of_heap X5.out; show k ≠ g3; omega))) (by have := lt_of_heap HX25.out; exact this)) HTL.out T9.out
/-- At a step of a region that draws: an append of which it is known what comes of it. -/
theorem step_appX {P : Program} {ops : Array Oper} {o : Oper} {a : Act} {K : Act → World → Prop} {Q : Exit → Act → World → Prop} {E : Prop} (hgd : o.guard = none) (s x : Operand) (t : TypeId)
    (ho : o.op = .call { callee := .builtin .append, args := #[s, x], argTypes := #[t, t] }) {w : World} {v V : Value} (hs : a.eval s = v) (hx : a.eval x = V) {R : Value → World → Prop}
    (hrun : ∃ v' w', (Builtin.append_ #[t, t] o.type #[v, V]).run P w = .ok v' w' ∧ R v' w') (h : ∀ v' w', R v' w' → K (a.put o.dst v') w') : if Region.wanted o (yielded ops a.tmps) = true then Oper.wp P o a w K Q else E := by
  obtain ⟨v', w', h1, h2⟩ := hrun
  exact step_app9 hgd s x t ho hs hx h1 (h v' w' h2)
/-- A world on the way of push: what was there lies, the answer's block is still empty. -/
def Gd (g4 : Nat) (w v : World) : Prop := Below g4 w v ∧ g4 < v.heap.size ∧ v.heap[g4]? = some (.cells #[.slice none 0 0, .slice none 0 0] 25 (0, 0))
theorem Gd.to {g4 : Nat} {w v W : World} (h : Gd g4 w v) (hb : Below (g4 + 1) v W) : Gd g4 w W := ⟨h.1.trans (hb.mono (by omega)), Nat.lt_of_lt_of_le h.2.1 hb.size, (hb.block g4 (by omega)).trans h.2.2⟩
theorem Gd.al {g4 : Nat} {w v : World} (h : Gd g4 w v) (o : Obj) : Gd g4 w (v.alloc o) := h.to ((Below.refl _ _).alloc (by have := h.2.1; omega) _)
/-- Two rows of one's own, the second one grown. -/
theorem own_far {w W : World} {B : Nat} {v u : Value} {e : TypeId} {k n : Nat} {xs : List Value} (h : w.ownsRow B e k v n xs) (hg : w.grownBy W u.ownBlock) (hne : ∀ b, v.ownBlock = some b → u.ownBlock ≠ some b) : W.ownsRow B e k v n xs :=
  own_same h (fun b hb => hg.block b (own_ltN h hb) (fun e => hne b hb e.symm))
def TxB (v : World) (N : Nat) (s : ByteArray) : Prop := v.heap[N]? = some (.cells #[.string s] 9 (0, 0))
theorem app_txt {v : World} {B m : Nat} {A : Option Addr} {c N : Nat} {Q : List ByteArray} {s : ByteArray} (ho : v.ownsRow B RS.tE RS.k (.slice A m c) m (RS.enc Q)) (hm : Q.length = m) (hl : m < 900000) (hB : B ≤ v.heap.size) (hN : TxB v N s) :
    ∃ v' w', (Builtin.append_ #[23, 23] 23 #[.slice A m c, .slice (some ⟨N, 0, none⟩) 1 1]).run Try.prog v = .ok v' w' ∧ (∃ A' c', v' = .slice A' (m + 1) c' ∧ w'.ownsRow B RS.tE RS.k (.slice A' (m + 1) c') (m + 1) (RS.enc (Q ++ [s])) ∧ v.grownBy w' (Value.slice A m c).ownBlock ∧ Below B v w') := by
  obtain ⟨v', w', h1, h2, h3, h4, h5⟩ := RS.run_app v B m (.slice A m c) Q ho (some ⟨N, 0, none⟩) 1 1 [s] rfl (RS.row_one hN) (fun h => by cases h) (by omega) hB 23
  have e : RS.enc Q ++ RS.enc [s] = RS.enc (Q ++ [s]) := by rw [RS.enc_append]
  obtain ⟨_, A', c', rfl, -⟩ := Rec.row_of_own h2 (by simp; omega)
  exact ⟨_, w', h1, A', c', rfl, h2, h3, (Below.refl _ _).grown h3 hB (own_ge ho)⟩
set_option maxHeartbeats 6400000 in
theorem rpush15_any {w : World} {A B : Option Addr} {n c m d : Nat} {L : List Kv} {Q : List ByteArray} (h : Shv w A n c B m d L Q) (hq : Q.length < 900000) (s : ByteArray) : Calls Try.prog 24 #[.agg #[.slice A n c, .slice B m d], .string s] w (RefTo w L (Q ++ [s])) := by
  obtain ⟨g, hg⟩ : ∃ g, w.heap.size = g := ⟨_, rfl⟩
  obtain ⟨w1, hw1⟩ : ∃ w1, w.alloc (.cells #[.slice A n c, .slice B m d] 25) = w1 := ⟨_, rfl⟩
  have HX : Hid (w1.heap[g]? = some (.cells #[.slice A n c, .slice B m d] 25 (0, 0))) := by rw [← hw1, ← hg]; exact heap_alloc_new w _
  have HB : Hid (Below g w w1) := by rw [← hw1, ← hg]; exact (Below.refl _ _).alloc (Nat.le_refl _) _
  have HSV : Hid (∀ v, Below g w v → Shv v A n c B m d L Q) := fun v hv => h.below (hg.symm ▸ hv)
  have HN : Hid (L.length = n) := h.n1
  have HM : Hid (Q.length = m) := h.n2
  have HMB : Hid (m < 900000) := by have := h.n2; show _ < _; omega
  obtain ⟨g4, hg4⟩ : ∃ z, w1.heap.size = z := ⟨_, rfl⟩
  have HG4 := Lib.hid hg4
  have HL : Hid (g < g4) := hg4 ▸ lt_of_heap HX.out
  have HZ := Lib.hid zero_shelf
  obtain ⟨R, hR⟩ : ∃ R, RefTo w L (Q ++ [s]) = R := ⟨_, rfl⟩
  have HFIN : Hid (∀ v A' c' B' d', Gd g4 w1 v → v.ownsRow (g4 + 1) RP.tE RP.k (.slice A' n c') n (RP.enc L) → v.ownsRow (g4 + 1) RS.tE RS.k (.slice B' (m + 1) d') (m + 1) (RS.enc (Q ++ [s])) → R (.returned (.agg #[.slice A' n c', .slice B' (m + 1) d'])) ((v.setCell ⟨g4, 0, none⟩ (.slice A' n c')).setCell ⟨g4, 1, none⟩ (.slice B' (m + 1) d'))) := fun v A' c' B' d' k1 k3 k4 => by
    have hk : ∀ k, k ≠ g4 → ((v.setCell ⟨g4, 0, none⟩ (.slice A' n c')).setCell ⟨g4, 1, none⟩ (.slice B' (m + 1) d')).heap[k]? = v.heap[k]? := fun k hk => by
      rw [Below.heap_setCell _ _ _ _ hk, Below.heap_setCell _ _ _ _ hk]
    have hql : (Q ++ [s]).length = m + 1 := by rw [List.length_append, HM.out]; rfl
    have o : OwnS ((v.setCell ⟨g4, 0, none⟩ (.slice A' n c')).setCell ⟨g4, 1, none⟩ (.slice B' (m + 1) d')) (g4 + 1) A' n c' B' (m + 1) d' L (Q ++ [s]) := ⟨own_same k3 (fun k e => hk k (by have := own_ge k3 k e; omega)), own_same k4 (fun k e => hk k (by have := own_ge k4 k e; omega)), HN.out, hql⟩
    rw [← hR]
    refine ⟨A', n, c', B', m + 1, d', rfl, o.mono (by rw [hg]; have := HL.out; omega), ?_⟩
    rw [hg]
    exact ((HB.out.trans (k1.1.mono (Nat.le_of_lt HL.out))).setCell (p := ⟨g4, 0, none⟩) (Nat.le_of_lt HL.out) _).setCell (p := ⟨g4, 1, none⟩) (Nat.le_of_lt HL.out) _
  have HP : Hid (∀ v, Gd g4 w1 v → ∃ v' w', (Builtin.append_ #[22, 22] 22 #[.slice none 0 0, .slice A n c]).run Try.prog v = .ok v' w' ∧ (∃ A' c', v' = .slice A' n c' ∧ w'.ownsRow v.heap.size RP.tE RP.k (.slice A' n c') n (RP.enc L) ∧ Below v.heap.size v w')) := fun v hv => by
    obtain ⟨A', c', w', e1, e2, e3⟩ := app_nil RP v A n c L h.n1 (HSV.out v (HB.out.trans (hv.1.mono (Nat.le_of_lt HL.out)))).r1 h.z1 22
    exact ⟨_, w', e1, A', c', rfl, e2, e3⟩
  have HQ : Hid (∀ v, Gd g4 w1 v → ∃ v' w', (Builtin.append_ #[23, 23] 23 #[.slice none 0 0, .slice B m d]).run Try.prog v = .ok v' w' ∧ (∃ A' c', v' = .slice A' m c' ∧ w'.ownsRow v.heap.size RS.tE RS.k (.slice A' m c') m (RS.enc Q) ∧ Below v.heap.size v w')) := fun v hv => by
    obtain ⟨A', c', w', e1, e2, e3⟩ := app_nil RS v B m d Q h.n2 (HSV.out v (HB.out.trans (hv.1.mono (Nat.le_of_lt HL.out)))).r2 h.z2 23
    exact ⟨_, w', e1, A', c', rfl, e2, e3⟩
  have HXG : Hid (∀ v, Gd g4 w1 v → v.heap[g]? = some (.cells #[.slice A n c, .slice B m d] 25 (0, 0))) := fun v hv => (hv.1.block g HL.out).trans HX.out
  have HCE : Hid (∀ v, Gd g4 w1 v → v.cell? ⟨g, 0, none⟩ = some (.slice A n c) ∧ v.cell? ⟨g, 1, none⟩ = some (.slice B m d) ∧ v.cell? ⟨g4, 0, none⟩ = some (.slice none 0 0) ∧ v.cell? ⟨g4, 1, none⟩ = some (.slice none 0 0) ∧ v.frozen? ⟨g4, 0, none⟩ = false ∧ v.frozen? ⟨g4, 1, none⟩ = false ∧ v.heap[g]? = some (.cells #[.slice A n c, .slice B m d] 25 (0, 0))) := fun v hv => by
    have hx : v.heap[g]? = some (.cells #[.slice A n c, .slice B m d] 25 (0, 0)) := HXG.out v hv
    obtain ⟨a0, a1⟩ := cells2 hx
    obtain ⟨b0, b1⟩ := cells2 hv.2.2
    have hz := hv.2.2
    exact ⟨a0, a1, b0, b1, by simp [World.frozen?, hz], by simp [World.frozen?, hz], hx⟩
  obtain ⟨p0, p1⟩ := cells2 HX.out
  rw [hR]
  clear h hR hq hg4
  go_enter Try.func24, Try.ntmps24
  go_wp2_with (first
    | ((with_reducible show wpList _ _ _ (⟨some 4, .alloc _, _, _, _, _⟩ :: _) _ _); refine wpList_alloc_var (o := ⟨some 4, _, _, _, _, _⟩) rfl 25 rfl g4 HG4.out _ HZ.out ?_; intro v1 X4 B4)
    | fail)
  clear hg hw1 p0 p1
  have GD : Hid (Gd g4 w1 v1.drew) := ⟨B4.out.drew, lt_of_heap X4.out, X4.out⟩
  have GA : Hid (Gd g4 w1 (v1.alloc (.cells #[.string s] 9)).drew) := GD.out.al _
  have GV : Hid (Gd g4 w1 v1) := ⟨B4.out, lt_of_heap X4.out, X4.out⟩
  obtain ⟨p0, p1, z0, z1, f0, f1, -⟩ := HCE.out v1 GV.out
  have hga : ¬ g = g4 := Nat.ne_of_lt HL.out
  have hgb : ¬ g4 = g := fun e => hga e.symm
  go_region_held3 (fun v => v.cell? ⟨g, 0, none⟩ = some (.slice A n c) ∧ v.cell? ⟨g, 1, none⟩ = some (.slice B m d)) (go_keep)
    (first
      | (refine step_appX rfl (.const (.slice none 0 0)) (.tmp 6) 22 rfl rfl rfl (HP.out v1.drew GD.out) ?_; rintro _ x7 ⟨A7, c7, rfl, o7, b7⟩; have B7 := Lib.hid b7; have N7 := Lib.hid (own_ge o7); have O7 : Hid (x7.ownsRow (g4 + 1) _ _ _ _ _) := own_mono o7 GD.out.2.1; clear o7 b7; have G7 : Hid (Gd g4 w1 x7) := (GD.out).to (B7.out.mono (GD.out).2.1); obtain ⟨p70, p71, z70, z71, f70, f71, -⟩ := HCE.out x7 G7.out; skip)
      | (refine step_appX rfl (.const (.slice none 0 0)) (.tmp 6) 22 rfl rfl rfl (HP.out (v1.alloc (.cells #[.string s] 9)).drew GA.out) ?_; rintro _ x7 ⟨A7, c7, rfl, o7, b7⟩; have B7 := Lib.hid b7; have N7 := Lib.hid (own_ge o7); have O7 : Hid (x7.ownsRow (g4 + 1) _ _ _ _ _) := own_mono o7 GA.out.2.1; clear o7 b7; have G7 : Hid (Gd g4 w1 x7) := (GA.out).to (B7.out.mono (GA.out).2.1); obtain ⟨p70, p71, z70, z71, f70, f71, -⟩ := HCE.out x7 G7.out; skip)
      | (refine step_appX rfl (.const (.slice none 0 0)) (.tmp 6) 22 rfl rfl rfl (HP.out x13 G13.out) ?_; rintro _ x7 ⟨A7, c7, rfl, o7, b7⟩; have B7 := Lib.hid b7; have N7 := Lib.hid (own_ge o7); have O7 : Hid (x7.ownsRow (g4 + 1) _ _ _ _ _) := own_mono o7 G13.out.2.1; clear o7 b7; have G7 : Hid (Gd g4 w1 x7) := (G13.out).to (B7.out.mono (G13.out).2.1); obtain ⟨p70, p71, z70, z71, f70, f71, -⟩ := HCE.out x7 G7.out; have F7 := O7; have F13 := Lib.hid (own_keep O13.out B7.out); have GL := G7)
      | (refine step_appX rfl (.const (.slice none 0 0)) (.tmp 6) 22 rfl rfl rfl (HP.out x10 G10.out) ?_; rintro _ x7 ⟨A7, c7, rfl, o7, b7⟩; have B7 := Lib.hid b7; have N7 := Lib.hid (own_ge o7); have O7 : Hid (x7.ownsRow (g4 + 1) _ _ _ _ _) := own_mono o7 G10.out.2.1; clear o7 b7; have G7 : Hid (Gd g4 w1 x7) := (G10.out).to (B7.out.mono (G10.out).2.1); obtain ⟨p70, p71, z70, z71, f70, f71, -⟩ := HCE.out x7 G7.out; skip)
      | (refine step_appX rfl (.const (.slice none 0 0)) (.tmp 6) 22 rfl rfl rfl (HP.out (x10.alloc (.cells #[.string s] 9)) (G10.out.al _)) ?_; rintro _ x7 ⟨A7, c7, rfl, o7, b7⟩; have B7 := Lib.hid b7; have N7 := Lib.hid (own_ge o7); have O7 : Hid (x7.ownsRow (g4 + 1) _ _ _ _ _) := own_mono o7 (G10.out.al _).2.1; clear o7 b7; have G7 : Hid (Gd g4 w1 x7) := ((G10.out.al _)).to (B7.out.mono ((G10.out.al _)).2.1); obtain ⟨p70, p71, z70, z71, f70, f71, -⟩ := HCE.out x7 G7.out; skip)
      | (refine step_appX rfl (.const (.slice none 0 0)) (.tmp 9) 23 rfl rfl rfl (HQ.out v1.drew GD.out) ?_; rintro _ x10 ⟨A10, c10, rfl, o10, b10⟩; have B10 := Lib.hid b10; have N10 := Lib.hid (own_ge o10); have O10 : Hid (x10.ownsRow (g4 + 1) _ _ _ _ _) := own_mono o10 GD.out.2.1; clear o10 b10; have G10 : Hid (Gd g4 w1 x10) := (GD.out).to (B10.out.mono (GD.out).2.1); obtain ⟨p100, p101, z100, z101, f100, f101, -⟩ := HCE.out x10 G10.out)
      | (refine step_appX rfl (.const (.slice none 0 0)) (.tmp 9) 23 rfl rfl rfl (HQ.out (v1.alloc (.cells #[.string s] 9)).drew GA.out) ?_; rintro _ x10 ⟨A10, c10, rfl, o10, b10⟩; have B10 := Lib.hid b10; have N10 := Lib.hid (own_ge o10); have O10 : Hid (x10.ownsRow (g4 + 1) _ _ _ _ _) := own_mono o10 GA.out.2.1; clear o10 b10; have G10 : Hid (Gd g4 w1 x10) := (GA.out).to (B10.out.mono (GA.out).2.1); obtain ⟨p100, p101, z100, z101, f100, f101, -⟩ := HCE.out x10 G10.out)
      | (refine step_appX rfl (.const (.slice none 0 0)) (.tmp 9) 23 rfl rfl rfl (HQ.out x7 G7.out) ?_; rintro _ x10 ⟨A10, c10, rfl, o10, b10⟩; have B10 := Lib.hid b10; have N10 := Lib.hid (own_ge o10); have O10 : Hid (x10.ownsRow (g4 + 1) _ _ _ _ _) := own_mono o10 G7.out.2.1; clear o10 b10; have G10 : Hid (Gd g4 w1 x10) := (G7.out).to (B10.out.mono (G7.out).2.1); obtain ⟨p100, p101, z100, z101, f100, f101, -⟩ := HCE.out x10 G10.out)
      | (refine step_appX rfl (.const (.slice none 0 0)) (.tmp 9) 23 rfl rfl rfl (HQ.out (x7.alloc (.cells #[.string s] 9)) (G7.out.al _)) ?_; rintro _ x10 ⟨A10, c10, rfl, o10, b10⟩; have B10 := Lib.hid b10; have N10 := Lib.hid (own_ge o10); have O10 : Hid (x10.ownsRow (g4 + 1) _ _ _ _ _) := own_mono o10 (G7.out.al _).2.1; clear o10 b10; have G10 : Hid (Gd g4 w1 x10) := ((G7.out.al _)).to (B10.out.mono ((G7.out.al _)).2.1); obtain ⟨p100, p101, z100, z101, f100, f101, -⟩ := HCE.out x10 G10.out)
      | (refine step_appX rfl (.tmp 10) (.tmp 12) 23 rfl rfl rfl (app_txt (own_keep O10.out ((Below.refl _ _).alloc (Nat.le_refl (x10).heap.size) (.cells #[.string s] 9))) HM.out HMB.out (G10.out.al _).2.1 (heap_alloc_new x10 _)) ?_; rintro _ x13 ⟨A13, c13, rfl, o13, g13, b13⟩; have O13 := Lib.hid o13; have B13 := Lib.hid b13; have E13 := Lib.hid g13; clear o13 b13 g13; have G13 : Hid (Gd g4 w1 x13) := ((G10.out.al _)).to B13.out; obtain ⟨p130, p131, z130, z131, f130, f131, -⟩ := HCE.out x13 G13.out; have F7 := Lib.hid (own_far (own_keep (own_keep O7.out B10.out) ((Below.refl _ _).alloc (Nat.le_refl (x10).heap.size) (.cells #[.string s] 9))) E13.out (fun b h7 h10 => by have h1 := own_ltN O7.out h7; have h2 := N10.out b h10; omega)); have F13 := O13; have GL := G13)
      | (refine step_appX rfl (.tmp 10) (.tmp 12) 23 rfl rfl rfl (app_txt (own_keep O10.out (Below.refl _ _)) HM.out HMB.out G10.out.2.1 ((B10.out.block _ (by simp)).trans (heap_alloc_new x7 _))) ?_; rintro _ x13 ⟨A13, c13, rfl, o13, g13, b13⟩; have O13 := Lib.hid o13; have B13 := Lib.hid b13; have E13 := Lib.hid g13; clear o13 b13 g13; have G13 : Hid (Gd g4 w1 x13) := (G10.out).to B13.out; obtain ⟨p130, p131, z130, z131, f130, f131, -⟩ := HCE.out x13 G13.out; have F7 := Lib.hid (own_far (own_keep (own_keep O7.out ((Below.refl _ _).alloc (Nat.le_refl (x7).heap.size) (.cells #[.string s] 9))) B10.out) E13.out (fun b h7 h10 => by have h1 := own_ltN O7.out h7; have h2 := N10.out b h10; simp at h2; omega)); have F13 := O13; have GL := G13)
      | (refine step_appX rfl (.tmp 10) (.tmp 12) 23 rfl rfl rfl (app_txt (own_keep O10.out (Below.refl _ _)) HM.out HMB.out G10.out.2.1 ((B10.out.block _ (by have := B7.out.size; simp at this; omega)).trans ((B7.out.block _ (by simp)).trans (heap_alloc_new v1.drew _)))) ?_; rintro _ x13 ⟨A13, c13, rfl, o13, g13, b13⟩; have O13 := Lib.hid o13; have B13 := Lib.hid b13; have E13 := Lib.hid g13; clear o13 b13 g13; have G13 : Hid (Gd g4 w1 x13) := (G10.out).to B13.out; obtain ⟨p130, p131, z130, z131, f130, f131, -⟩ := HCE.out x13 G13.out; have F7 := Lib.hid (own_far (own_keep O7.out B10.out) E13.out (fun b h7 h10 => by have h1 := own_ltN O7.out h7; have h2 := N10.out b h10; omega)); have F13 := O13; have GL := G13)
      | (refine step_appX rfl (.tmp 10) (.tmp 12) 23 rfl rfl rfl (app_txt (own_keep O10.out B7.out) HM.out HMB.out G7.out.2.1 ((B7.out.block _ (by have := B10.out.size; simp at this; omega)).trans ((B10.out.block _ (by simp)).trans (heap_alloc_new v1.drew _)))) ?_; rintro _ x13 ⟨A13, c13, rfl, o13, g13, b13⟩; have O13 := Lib.hid o13; have B13 := Lib.hid b13; have E13 := Lib.hid g13; clear o13 b13 g13; have G13 : Hid (Gd g4 w1 x13) := (G7.out).to B13.out; obtain ⟨p130, p131, z130, z131, f130, f131, -⟩ := HCE.out x13 G13.out; have F7 := Lib.hid (own_far O7.out E13.out (fun b h7 h10 => by have h1 := own_ltN O10.out h10; have h2 := N7.out b h7; omega)); have F13 := O13; have GL := G13)
      | (refine step_appX rfl (.tmp 10) (.tmp 12) 23 rfl rfl rfl (app_txt (own_keep O10.out (((Below.refl _ _).alloc (Nat.le_refl (x10).heap.size) (.cells #[.string s] 9)).trans (B7.out.mono (by simp)))) HM.out HMB.out G7.out.2.1 ((B7.out.block _ (by simp)).trans (heap_alloc_new x10 _))) ?_; rintro _ x13 ⟨A13, c13, rfl, o13, g13, b13⟩; have O13 := Lib.hid o13; have B13 := Lib.hid b13; have E13 := Lib.hid g13; clear o13 b13 g13; have G13 : Hid (Gd g4 w1 x13) := (G7.out).to B13.out; obtain ⟨p130, p131, z130, z131, f130, f131, -⟩ := HCE.out x13 G13.out; have F7 := Lib.hid (own_far O7.out E13.out (fun b h7 h10 => by have h1 := own_ltN O10.out h10; have h2 := N7.out b h7; simp at h2; omega)); have F13 := O13; have GL := G13)
      | (refine step_appX rfl (.tmp 10) (.tmp 12) 23 rfl rfl rfl (app_txt (own_keep O10.out (B7.out.trans (((Below.refl _ _).alloc (Nat.le_refl (x7).heap.size) (.cells #[.string s] 9)).mono B7.out.size))) HM.out HMB.out (G7.out.al _).2.1 (heap_alloc_new x7 _)) ?_; rintro _ x13 ⟨A13, c13, rfl, o13, g13, b13⟩; have O13 := Lib.hid o13; have B13 := Lib.hid b13; have E13 := Lib.hid g13; clear o13 b13 g13; have G13 : Hid (Gd g4 w1 x13) := ((G7.out.al _)).to B13.out; obtain ⟨p130, p131, z130, z131, f130, f131, -⟩ := HCE.out x13 G13.out; have F7 := Lib.hid (own_far (own_keep O7.out ((Below.refl _ _).alloc (Nat.le_refl (x7).heap.size) (.cells #[.string s] 9))) E13.out (fun b h7 h10 => by have h1 := own_ltN O10.out h10; have h2 := N7.out b h7; omega)); have F13 := O13; have GL := G13)
      | (refine step_appX rfl (.tmp 10) (.tmp 12) 23 rfl rfl rfl (app_txt (own_keep O10.out ((Below.refl _ _).alloc (Nat.le_refl (x10).heap.size) (.cells #[.string s] 9))) HM.out HMB.out (G10.out.al _).2.1 (heap_alloc_new x10 _)) ?_; rintro _ x13 ⟨A13, c13, rfl, o13, g13, b13⟩; have O13 := Lib.hid o13; have B13 := Lib.hid b13; have E13 := Lib.hid g13; clear o13 b13 g13; have G13 : Hid (Gd g4 w1 x13) := ((G10.out.al _)).to B13.out; obtain ⟨p130, p131, z130, z131, f130, f131, -⟩ := HCE.out x13 G13.out; skip)
      | (refine step_appX rfl (.tmp 10) (.tmp 12) 23 rfl rfl rfl (app_txt (own_keep O10.out (Below.refl _ _)) HM.out HMB.out G10.out.2.1 ((B10.out.block _ (by simp)).trans (heap_alloc_new v1.drew _))) ?_; rintro _ x13 ⟨A13, c13, rfl, o13, g13, b13⟩; have O13 := Lib.hid o13; have B13 := Lib.hid b13; have E13 := Lib.hid g13; clear o13 b13 g13; have G13 : Hid (Gd g4 w1 x13) := (G10.out).to B13.out; obtain ⟨p130, p131, z130, z131, f130, f131, -⟩ := HCE.out x13 G13.out; skip)
      | fail)
  all_goals
    go_wp2
    refine bodyPost_ret (results_v1 (cs := [.slice A7 n c7, .slice A13 (m + 1) c13]) rfl Try.underlying25 rfl (set2 GL.out.2.2) size_shelf) rfl ?_
    exact HFIN.out _ _ _ _ _ GL.out F7.out F13.out

end Go.Proofs.Ytpmgnhijiodbaaa

/-
  Proved here: the chapter's own Apply, kind by kind.
  Conditions: rows of at most 400,000.
-/
namespace Go.Proofs.Ytpmgnhijiodbaaa
open Go Go.RowKit
set_option maxRecDepth 100000

/-- A row that lies apart from the blocks from lo to below hi. -/
def Apt (A : Option Addr) (n lo hi : Nat) : Prop := 0 < n → ∀ x, A = some x → x.block < lo ∨ hi ≤ x.block
theorem Rec.Row.keep {α : Type} {R : Rec α} {w w' : World} {A : Option Addr} {l : List α} {n lo hi : Nat} (h : R.Row w A l) (hn : l.length = n) (ha : Apt A n lo hi) (hs : Stay (fun k => lo ≤ k ∧ k < hi) w w') : R.Row w' A l := by
  rcases Nat.eq_zero_or_pos n with h0 | h0
  · obtain rfl : l = [] := List.eq_nil_of_length_eq_zero (by omega)
    exact R.row_nil _ _
  · exact h.same hs.size (fun x hx hb => hs.block _ (fun e => by rcases ha h0 x hx with h1 | h1 <;> omega) hb)
theorem Apt.own {w : World} {B size n c k : Nat} {e : TypeId} {A : Option Addr} {xs : List Value} (h : w.ownsRow B e size (.slice A n c) k xs) {lo hi : Nat} (hb : hi ≤ B) : Apt A n lo hi := fun hp x hx => by
  rcases h.2 with ⟨e, _⟩ | ⟨g, cap, cur, e, h2, _⟩
  · cases e; cases hx
  · cases e; cases hx; exact .inr (Nat.le_trans hb h2)
theorem Apt.old {α : Type} {R : Rec α} {w : World} {A : Option Addr} {l : List α} {n hi : Nat} (h : R.Row w A l) (hn : l.length = n) : Apt A n w.heap.size hi := fun hp x hx => by
  obtain ⟨b, off, e, hlt, _⟩ := h.2 (by omega)
  rw [hx] at e
  cases e
  exact .inl hlt
theorem Apt.nil (A : Option Addr) (lo hi : Nat) : Apt A 0 lo hi := fun h => absurd h (Nat.lt_irrefl _)
/-- What the chapter's own Apply gives. -/
def RApTo (w : World) (A : Option Addr) (n : Nat) (B : Option Addr) (m : Nat) (L' : List Kv) (Q' : List ByteArray) (cd : Int) (f : Bool) (v : ByteArray) (M : List Kv) (H : List Bool) (e : Ending) (w' : World) : Prop :=
  ∃ A' n' c' B' m' d' A2 n2 c2 B2 m2 d2, e = .returned (.tuple #[.agg #[.slice A' n' c', .slice B' m' d'], .agg #[.int .i64 cd, .bool f, .string v, .slice A2 n2 c2, .slice B2 m2 d2, .int .u64 0]]) ∧ Shv w' A' n' c' B' m' d' L' Q' ∧
    (∀ lo hi, hi ≤ w.heap.size → Apt A n lo hi → Apt A' n' lo hi) ∧ (∀ lo hi, hi ≤ w.heap.size → Apt B m lo hi → Apt B' m' lo hi) ∧ RP.Row w' A2 M ∧ M.length = n2 ∧ RB.Row w' B2 H ∧ H.length = m2 ∧ Below w.heap.size w w'
/-- The frame of the chapter's own Apply in memory. -/
structure RW (g g3 g4 g5 g6 : Nat) (w : World) (c : Cal) (A : Option Addr) (n cc : Nat) (B : Option Addr) (m d : Nat) (L : List Kv) (Q : List ByteArray) (a0 a1 a2 a3 a4 a5 : Value) (x : World) : Prop where
  o1 : g < g3
  o2 : g3 < g4
  o3 : g4 < g5
  o4 : g5 < g6
  h2 : x.heap[g]? = some (.cells #[.slice A n cc, .slice B m d] 25 (0, 0))
  h3 : x.heap[g3]? = some (.cells #[.int .i64 c.kd, .string c.key, .string c.val, .string c.to_, .slice c.ga c.gn c.gc] 31 (0, 0))
  h4 : x.heap[g4]? = some (.cells #[.slice none 0 0, .slice none 0 0] 25 (0, 0))
  h5 : x.heap[g5]? = some (.cells #[.int .i64 0, .bool false, .string ⟨#[]⟩, .slice none 0 0, .slice none 0 0, .int .u64 0] 46 (0, 0))
  h6 : x.heap[g6]? = some (.cells #[a0, a1, a2, a3, a4, a5] 46 (0, 0))
  sh : Shv x A n cc B m d L Q
  ap : Apt A n g (g6 + 1)
  aq : Apt B m g (g6 + 1)
  bel : Below g w x
section
variable {g g3 g4 g5 g6 : Nat} {w x y : World} {c : Cal} {A : Option Addr} {n cc : Nat} {B : Option Addr} {m d : Nat} {L : List Kv} {Q : List ByteArray} {a0 a1 a2 a3 a4 a5 : Value}
theorem RW.lt (h : RW g g3 g4 g5 g6 w c A n cc B m d L Q a0 a1 a2 a3 a4 a5 x) : g6 < x.heap.size := lt_of_heap h.h6
theorem RW.below (h : RW g g3 g4 g5 g6 w c A n cc B m d L Q a0 a1 a2 a3 a4 a5 x) (hb : Below x.heap.size x y) : RW g g3 g4 g5 g6 w c A n cc B m d L Q a0 a1 a2 a3 a4 a5 y :=
  ⟨h.o1, h.o2, h.o3, h.o4, (hb.block _ (lt_of_heap h.h2)).trans h.h2, (hb.block _ (lt_of_heap h.h3)).trans h.h3, (hb.block _ (lt_of_heap h.h4)).trans h.h4, (hb.block _ (lt_of_heap h.h5)).trans h.h5, (hb.block _ (lt_of_heap h.h6)).trans h.h6, h.sh.below hb, h.ap, h.aq, h.bel.trans (hb.mono (Nat.le_of_lt (lt_of_heap h.h2)))⟩
theorem Shv.keep {lo hi : Nat} (h : Shv x A n cc B m d L Q) (ha : Apt A n lo hi) (hb : Apt B m lo hi) (hs : Stay (fun k => lo ≤ k ∧ k < hi) x y) : Shv y A n cc B m d L Q := ⟨h.r1.keep h.n1 ha hs, h.r2.keep h.n2 hb hs, h.n1, h.n2, h.z1, h.z2⟩
/-- The answer's variable written. -/
theorem RW.ans (h : RW g g3 g4 g5 g6 w c A n cc B m d L Q a0 a1 a2 a3 a4 a5 x) (hs : Stay (fun k => k = g6) x y) {b0 b1 b2 b3 b4 b5 : Value} (hy : y.heap[g6]? = some (.cells #[b0, b1, b2, b3, b4, b5] 46 (0, 0))) : RW g g3 g4 g5 g6 w c A n cc B m d L Q b0 b1 b2 b3 b4 b5 y := by
  have h1 := h.o1; have h2 := h.o2; have h3 := h.o3; have h4 := h.o4
  have hk : ∀ k, k ≠ g6 → k < x.heap.size → y.heap[k]? = x.heap[k]? := fun k e hl => hs.block k e hl
  have hr := hs.mono (S' := fun k => g ≤ k ∧ k < g6 + 1) (fun k _ e => by rw [show k = g6 from e]; omega)
  exact ⟨h1, h2, h3, h4, (hk g (by omega) (lt_of_heap h.h2)).trans h.h2, (hk g3 (by omega) (lt_of_heap h.h3)).trans h.h3, (hk g4 (by omega) (lt_of_heap h.h4)).trans h.h4, (hk g5 (by omega) (lt_of_heap h.h5)).trans h.h5, hy, h.sh.keep h.ap h.aq hr, h.ap, h.aq, h.bel.trans (hs.below (fun k e => by rw [show k = g6 from e]; omega) (by have := lt_of_heap h.h2; omega))⟩
/-- The store's variable written. -/
theorem RW.put (h : RW g g3 g4 g5 g6 w c A n cc B m d L Q a0 a1 a2 a3 a4 a5 x) (hs : Stay (fun k => k = g) x y) {A' B' : Option Addr} {n' c' m' d' : Nat} {L' : List Kv} {Q' : List ByteArray} (hv : Shv x A' n' c' B' m' d' L' Q') (ha : Apt A' n' g (g6 + 1)) (hb : Apt B' m' g (g6 + 1)) (hy : y.heap[g]? = some (.cells #[.slice A' n' c', .slice B' m' d'] 25 (0, 0))) : RW g g3 g4 g5 g6 w c A' n' c' B' m' d' L' Q' a0 a1 a2 a3 a4 a5 y := by
  have h1 := h.o1; have h2 := h.o2; have h3 := h.o3; have h4 := h.o4
  have hk : ∀ k, k ≠ g → k < x.heap.size → y.heap[k]? = x.heap[k]? := fun k e hl => hs.block k e hl
  have hr := hs.mono (S' := fun k => g ≤ k ∧ k < g6 + 1) (fun k _ e => by rw [show k = g from e]; omega)
  exact ⟨h1, h2, h3, h4, hy, (hk g3 (by omega) (lt_of_heap h.h3)).trans h.h3, (hk g4 (by omega) (lt_of_heap h.h4)).trans h.h4, (hk g5 (by omega) (lt_of_heap h.h5)).trans h.h5, (hk g6 (by omega) (lt_of_heap h.h6)).trans h.h6, hv.keep ha hb hr, ha, hb, h.bel.trans (hs.below (fun k e => by rw [show k = g from e]; exact Nat.le_refl _) (by have := lt_of_heap h.h2; omega))⟩
theorem rap_end (h : RW g g3 g4 g5 g6 w c A n cc B m d L Q a0 a1 a2 a3 a4 a5 x) (hw : w.heap.size = g) {A0 B0 : Option Addr} {n0 m0 : Nat} {cd : Int} {f : Bool} {v : ByteArray} {A2 B2 : Option Addr} {n2 c2 m2 d2 : Nat} {M : List Kv} {H : List Bool} {W : World}
    (hA : ∀ lo hi, hi ≤ g → Apt A0 n0 lo hi → Apt A n lo hi) (hB : ∀ lo hi, hi ≤ g → Apt B0 m0 lo hi → Apt B m lo hi) (hM : RP.Row x A2 M) (hMn : M.length = n2) (hMa : Apt A2 n2 g (g6 + 1)) (hH : RB.Row x B2 H) (hHn : H.length = m2) (hHa : Apt B2 m2 g (g6 + 1)) (hs : Stay (fun k => k = g4 ∨ k = g5) x W) :
    RApTo w A0 n0 B0 m0 L Q cd f v M H (.returned (.tuple #[.agg #[.slice A n cc, .slice B m d], .agg #[.int .i64 cd, .bool f, .string v, .slice A2 n2 c2, .slice B2 m2 d2, .int .u64 0]])) W := by
  have h1 := h.o1; have h2 := h.o2; have h3 := h.o3; have h4 := h.o4
  have hr := hs.mono (S' := fun k => g ≤ k ∧ k < g6 + 1) (fun k _ e => by rcases e with e | e <;> omega)
  refine ⟨A, n, cc, B, m, d, A2, n2, c2, B2, m2, d2, rfl, h.sh.keep h.ap h.aq hr, by rw [hw]; exact hA, by rw [hw]; exact hB, hM.keep hMn hMa hr, hMn, hH.keep hHn hHa hr, hHn, ?_⟩
  rw [hw]
  exact h.bel.trans (hs.below (fun k e => by rcases e with e | e <;> omega) (by have := lt_of_heap h.h2; omega))
end
theorem rw_start {g g3 g4 g5 g6 : Nat} {w w1 w2 v4 v5 v6 : World} {c : Cal} {A : Option Addr} {n cc : Nat} {B : Option Addr} {m d : Nat} {L : List Kv} {Q : List ByteArray} (o1 : g < g3) (o2 : g3 < g4) (o3 : g4 < g5) (o4 : g5 < g6)
    (hx : w1.heap[g]? = some (.cells #[.slice A n cc, .slice B m d] 25 (0, 0))) (hb1 : Below g w w1) (h3 : w2.heap[g3]? = some (.cells #[.int .i64 c.kd, .string c.key, .string c.val, .string c.to_, .slice c.ga c.gn c.gc] 31 (0, 0))) (hb2 : Below g3 w1 w2)
    (h4 : v4.heap[g4]? = some (.cells #[.slice none 0 0, .slice none 0 0] 25 (0, 0))) (hb4 : Below g4 w2 v4) (h5 : v5.heap[g5]? = some (.cells #[.int .i64 0, .bool false, .string ⟨#[]⟩, .slice none 0 0, .slice none 0 0, .int .u64 0] 46 (0, 0))) (hb5 : Below g5 v4 v5) (h6 : v6.heap[g6]? = some (.cells #[.int .i64 0, .bool false, .string ⟨#[]⟩, .slice none 0 0, .slice none 0 0, .int .u64 0] 46 (0, 0))) (hb6 : Below g6 v5 v6)
    (hs : ∀ v, Below g w v → Shv v A n cc B m d L Q) (ha : Apt A n g (g6 + 1)) (hb : Apt B m g (g6 + 1)) :
    RW g g3 g4 g5 g6 w c A n cc B m d L Q (.int .i64 0) (.bool false) (.string ⟨#[]⟩) (.slice none 0 0) (.slice none 0 0) (.int .u64 0) v6 := by
  have hbel : Below g w v6 := (((hb1.trans (hb2.mono (by omega))).trans (hb4.mono (by omega))).trans (hb5.mono (by omega))).trans (hb6.mono (by omega))
  have e56 : v6.heap[g5]? = v5.heap[g5]? := hb6.block g5 o4
  have e45 : v6.heap[g4]? = v4.heap[g4]? := (hb6.block g4 (by omega)).trans (hb5.block g4 o3)
  have e3 : v6.heap[g3]? = w2.heap[g3]? := ((hb6.block g3 (by omega)).trans (hb5.block g3 (by omega))).trans (hb4.block g3 o2)
  have e2 : v6.heap[g]? = w1.heap[g]? := (((hb6.block g (by omega)).trans (hb5.block g (by omega))).trans (hb4.block g (by omega))).trans (hb2.block g o1)
  exact ⟨o1, o2, o3, o4, e2.trans hx, e3.trans h3, e45.trans h4, e56.trans h5, h6, hs v6 hbel, ha, hb, hbel⟩
section
variable {g g3 g4 g5 g6 : Nat} {w x y : World} {c : Cal} {A : Option Addr} {n cc : Nat} {B : Option Addr} {m d : Nat} {L : List Kv} {Q : List ByteArray} {a0 a1 a2 a3 a4 a5 : Value}
/-- What lies behind the frame alone has turned. -/
theorem RW.far (h : RW g g3 g4 g5 g6 w c A n cc B m d L Q a0 a1 a2 a3 a4 a5 x) (hs : Stay (fun k => g6 + 1 ≤ k) x y) (hsv : ∀ v, Below g w v → Shv v A n cc B m d L Q) : RW g g3 g4 g5 g6 w c A n cc B m d L Q a0 a1 a2 a3 a4 a5 y := by
  have h1 := h.o1; have h2 := h.o2; have h3 := h.o3; have h4 := h.o4
  have hb : Below g w y := h.bel.trans (hs.below (fun k e => by have : g6 + 1 ≤ k := e; omega) (Nat.le_of_lt (lt_of_heap h.h2)))
  exact ⟨h1, h2, h3, h4, (hs.block _ (by show ¬ g6 + 1 ≤ g; omega) (lt_of_heap h.h2)).trans h.h2, (hs.block _ (by show ¬ g6 + 1 ≤ g3; omega) (lt_of_heap h.h3)).trans h.h3, (hs.block _ (by show ¬ g6 + 1 ≤ g4; omega) (lt_of_heap h.h4)).trans h.h4, (hs.block _ (by show ¬ g6 + 1 ≤ g5; omega) (lt_of_heap h.h5)).trans h.h5, (hs.block _ (by show ¬ g6 + 1 ≤ g6; omega) (lt_of_heap h.h6)).trans h.h6, hsv y hb, h.ap, h.aq, hb⟩
/-- One pair more of a scan's answer. -/
theorem RW.scan {A9 : Option Addr} {k9 c9 : Nat} {M : List Kv} (h : RW g g3 g4 g5 g6 w c A n cc B m d L Q a0 a1 a2 (.slice A9 k9 c9) a4 a5 x) (hsv : ∀ v, Below g w v → Shv v A n cc B m d L Q) (ho : x.ownsRow (g6 + 1) RP.tE RP.k (.slice A9 k9 c9) k9 (RP.enc M)) (hm : M.length = k9) (hl : k9 < 1000000) (p : Kv) :
    ∃ A' c' W, (Builtin.append_ #[22, 22] 22 #[.slice A9 k9 c9, .slice (some ⟨x.heap.size, 0, none⟩) 1 1]).run Try.prog (x.alloc (.cells #[.string p.k, .string p.v] 42)) = .ok (.slice A' (k9 + 1) c') W ∧ W.cell? ⟨g6, 3, none⟩ = some (.slice A9 k9 c9) ∧ W.frozen? ⟨g6, 3, none⟩ = false ∧
      RW g g3 g4 g5 g6 w c A n cc B m d L Q a0 a1 a2 (.slice A' (k9 + 1) c') a4 a5 (W.setCell ⟨g6, 3, none⟩ (.slice A' (k9 + 1) c')) ∧ (W.setCell ⟨g6, 3, none⟩ (.slice A' (k9 + 1) c')).ownsRow (g6 + 1) RP.tE RP.k (.slice A' (k9 + 1) c') (k9 + 1) (RP.enc (M ++ [p])) := by
  obtain ⟨u, W, e1, e2, e3, e4, _⟩ := RP.run_app_one x (g6 + 1) k9 _ M p ho (by omega) h.lt 22
  obtain ⟨_, A', c', rfl, _⟩ := Rec.row_of_own e2 (by rw [List.length_append, hm]; show k9 + 1 ≤ _; omega)
  have hst : Stay (fun k => g6 + 1 ≤ k) x W := (Stay.of_grown e3).mono (fun k _ e => own_ge ho k e)
  have h1 := h.far hst hsv
  have hh := h1.h6
  refine ⟨A', c', W, e1, by simp [World.cell?, hh], by simp [World.frozen?, hh], h1.ans (Stay.setCell (S := fun k => k = g6) _ g6 3 _ rfl) (heap_setCell_same _ g6 3 _ _ _ h1.h6), own_same e2 (fun k hk => Below.heap_setCell _ _ _ _ (by have := own_ge e2 k hk; show k ≠ g6; omega))⟩
end
end Go.Proofs.Ytpmgnhijiodbaaa
