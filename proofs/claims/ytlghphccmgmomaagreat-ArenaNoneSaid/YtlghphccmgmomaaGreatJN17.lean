/-
  Proved here, joined: DurB, DurC, DurLine, DurE
  Conditions: as each part says.
-/
import Derived.Test.YtlghphccmgmomaaGreatJN16
import Derived.Test.YtlghphccmgmomaaGreatJN4
import Derived.Test.YtlghphccmgmomaaGreatJN6
import Derived.Deep.RegionHeld3

/-
  Proved here: what package durable's Note answers and leaves; stores whose run is known.
  Conditions: none.
-/
namespace Go.Proofs.YtlghphccmgmomaaGreat
open Go Go.RowKit
set_option maxRecDepth 100000

/-! ### Stores whose run is known -/
theorem store_one {P : Program} (w : World) (b o : Nat) (v u : Value) (hc : w.cell? ⟨b, o, none⟩ = some u) (hz : w.frozen? ⟨b, o, none⟩ = false) (h1 : v.oneCell' = true) : (storeCells ⟨b, o, none⟩ [v]).run P w = .ok () (w.setCell ⟨b, o, none⟩ v) := by
  have := run_storeCells_cells (P := P) b o [v] 0 w (by intro j hj; obtain rfl : j = 0 := by simpa using hj
                                                        simp [hc]) (by intro j hj; obtain rfl : j = 0 := by simpa using hj
                                                                       simpa using hz) (by intro x hx; simp at hx; subst hx; exact h1)
  simpa [World.setCells] using this
theorem wpList_store_run {P : Program} {ops : Array Oper} {rest : List Oper} {o : Oper} {a : Act} {Q : Exit → Act → World → Prop} (hgd : o.guard = none) (ty : TypeId) (x y : Operand) (ho : o.op = .store ty x y) (hd : o.dst = none)
    {w w1 : World} {ad : Addr} {v : Value} {xs : List Value} (hx : a.eval x = .pointer (some ad)) (hy : a.eval y = v) (hv : v.cells.toList = xs) (hsz : (P.info? ty).map (·.size) = some xs.length) (hst : (storeCells ad xs).run P w = .ok () w1)
    (k : wpList P ops Q rest a w1) : wpList P ops Q (o :: rest) a w := by
  have hrun : (storeVar ty ad v).run P w = .ok () w1 := by
    cases hq : P.info? ty with
    | none => simp [hq] at hsz
    | some inf =>
      have hs : inf.size = xs.length := by simpa [hq] using hsz
      have hs2 : v.cells.size = inf.size := by rw [hs, ← hv]; simp
      simp [storeVar, sizeOf, typeInfo, hq, hs2, hv, hst]
  refine wpList_plain hgd fun _ hK => ?_
  unfold Oper.wp execOp
  simp only [ho, hx, hy, Instr.storeAt, Instr.sureAddr, Sem.run_bind, Sem.run_pure, Result.andThen_ok, hrun]
  refine hK _ _ ?_
  rw [hd]
  exact k
theorem size_int : (Tryz.prog.info? 3).map (·.size) = some 1 := by kernel_rfl
theorem up_wrap (x : Int) : IntKind.i64.wrap (x + 1) = up x := rfl
set_option maxHeartbeats 800000 in
set_option maxRecDepth 100000 in
theorem cknote_any {S : List Nat} {w : World} {p o : Nat} {c : Ck} (h : Cm S w p o c) (t x : Int) : Calls Tryz.prog 32 #[.pointer (some ⟨p, 0, none⟩), .int .i64 t, .int .i64 x] w fun e w' => e = .returned (.int .i64 (c.noteE t x)) ∧ Cm S w' p o (c.note t x) ∧ Turns p o w w' := by
  have hs := h.reads.2.2.1
  have hn4 := h.ok.four
  rcases Classical.em (inT c.owed t) with ht | ht
  · rcases Classical.em (inLine x) with hx | hx
    · obtain ⟨k, rfl⟩ := Int.eq_ofNat_of_zero_le ht.1
      obtain ⟨i, rfl⟩ := Int.eq_ofNat_of_zero_le hx.1
      have hk : k < c.owed.length := by have := ht.2; omega
      have hi : i < 258 := by have := hx.2; omega
      have he : c.noteE k i = 0 := by unfold Ck.noteE; rw [if_pos ht, if_pos hx]
      have hc' : c.note k i = { c with noted := c.noted.set i true, owed := c.owed.set k (up (c.owed.getD k 0)) } := by unfold Ck.note; rw [if_pos ⟨ht, hx⟩]; simp
      have hok := h.ok.note k i
      rw [he]
      rw [hc'] at hok ⊢
      have h1 := h.raw.setN i hi true
      have HST1 := Lib.hid (store_one (P := Tryz.prog) w p (3 + i) (.bool true) _ (h.raw.readN i hi) (h.raw.frozenP _) rfl)
      have ht1 := turns_p p o w (3 + i) (.bool true)
      generalize w.setCell ⟨p, 3 + i, none⟩ (.bool true) = w1 at *
      have hs1 := h1.reads.2.2.1
      have hv1 := h1.readO k hk
      have h2 := h1.setO k (up (c.owed.getD k 0))
      have HST2 := Lib.hid (store_one (P := Tryz.prog) w1 o k (.int .i64 (up (c.owed.getD k 0))) _ hv1 (h1.frozenO _) rfl)
      have HT := Lib.hid (ht1.trans (turns_o p o w1 k (.int .i64 (up (c.owed.getD k 0)))))
      have hu := up_wrap (c.owed.getD k 0)
      have HC : Hid (Cm S (w1.setCell ⟨o, k, none⟩ (.int .i64 (up (c.owed.getD k 0)))) p o { c with noted := c.noted.set i true, owed := c.owed.set k (up (c.owed.getD k 0)) }) := ⟨hok, h2⟩
      have hkn : (k : Int) < (c.owed.length : Int) := by omega
      have hi8 : (i : Int) < 258 := by omega
      have hnn : ¬ (c.owed.length : Int) ≤ (k : Int) := by omega
      have hin : ¬ (258 : Int) ≤ (i : Int) := by omega
      generalize c.owed.getD k 0 = y at *
      generalize w1.setCell ⟨o, k, none⟩ (.int .i64 (up y)) = w2 at *
      generalize up y = z at *
      generalize ({ c with noted := c.noted.set i true, owed := c.owed.set k z } : Ck) = c2 at *
      generalize c.owed.length = n at *
      clear h h1 h2 hok he hc' ht hx ht1
      go_enter Tryz.func32, Tryz.ntmps32
      go_wp2_with (first
        | ((with_reducible show wpList _ _ _ (⟨none, .store 4 _ _, _, _, _, _⟩ :: _) _ _); refine wpList_store_run (o := ⟨none, .store 4 _ _, _, _, _, _⟩) rfl _ _ _ rfl rfl rfl rfl rfl size_bool HST1.out ?_)
        | ((with_reducible show wpList _ _ _ (⟨none, .store 3 _ _, _, _, _, _⟩ :: _) _ _); refine wpList_store_run (o := ⟨none, .store 3 _ _, _, _, _, _⟩) rfl _ _ _ rfl rfl rfl rfl rfl size_int HST2.out ?_))
      go_ret
      exact ⟨rfl, HC.out, HT.out⟩
    · have he : c.noteE t x = 2 := by unfold Ck.noteE; rw [if_pos ht, if_neg hx]
      have hc' : c.note t x = c := by unfold Ck.note; rw [if_neg (fun e => hx e.2)]
      rw [he, hc']
      have HC := Lib.hid h
      have h0 : ¬ t < 0 := by have := ht.1; omega
      have h1 : ¬ (c.owed.length : Int) ≤ t := by have := ht.2; omega
      generalize c.owed.length = n at *
      unfold inLine at hx
      rcases Classical.em (x < 0) with h2 | h2
      · clear h hx he hc' ht
        go_enter Tryz.func32, Tryz.ntmps32
        go_wp2
        go_ret
        exact ⟨rfl, HC.out, Turns.refl _ _ _⟩
      · have h3 : (258 : Int) ≤ x := by omega
        clear h hx he hc' ht
        go_enter Tryz.func32, Tryz.ntmps32
        go_wp2
        go_ret
        exact ⟨rfl, HC.out, Turns.refl _ _ _⟩
  · have he : c.noteE t x = 1 := by unfold Ck.noteE; rw [if_neg ht]
    have hc' : c.note t x = c := by unfold Ck.note; rw [if_neg (fun e => ht e.1)]
    rw [he, hc']
    have HC := Lib.hid h
    unfold inT at ht
    generalize c.owed.length = n at *
    rcases Classical.em (t < 0) with h2 | h2
    · clear h ht he hc'
      go_enter Tryz.func32, Tryz.ntmps32
      go_wp2
      go_ret
      exact ⟨rfl, HC.out, Turns.refl _ _ _⟩
    · have h3 : (n : Int) ≤ t := by omega
      clear h ht he hc'
      go_enter Tryz.func32, Tryz.ntmps32
      go_wp2
      go_ret
      exact ⟨rfl, HC.out, Turns.refl _ _ _⟩

end Go.Proofs.YtlghphccmgmomaaGreat

/-
  Proved here: what package durable's New, lines and firstOrFence answer and leave.
  Conditions: none.
-/
namespace Go.Proofs.YtlghphccmgmomaaGreat
open Go Go.RowKit
set_option maxRecDepth 100000

theorem zero_clock (g n : Nat) : Tryz.zeroCells129.setIfInBounds 2 (.slice (some ⟨g, 0, none⟩) n n) = (ckL 0 0 g n noLines (.slice none 0 0) .nilFunc).toArray := by kernel_rfl
theorem madeZ (w : World) (n : Nat) (hn : n ≤ 4) : ∃ w1, (Instr.makeSlice 120 (.int .i64 (n : Int)) (.int .i64 (n : Int))).run Tryz.prog w = .ok (.slice (some ⟨w.heap.size, 0, none⟩) n n) w1 ∧
    w1.heap[w.heap.size]? = some (.cells (encI (List.replicate n 0)).toArray 3 (0, 0)) ∧ Below w.heap.size w w1 ∧ w1.heap.size = w.heap.size + 1 := by
  obtain ⟨i, hi, hz, hs, hy⟩ := int_info'
  have hmk := run_make (P := Tryz.prog) w 120 3 i _ Tryz.underlying120 hi hz .i64 .i64 (n : Int) (n : Int) (by omega) (by omega) (by rw [hy]; omega) (by omega)
  rw [Int.toNat_natCast, hs, Nat.mul_one] at hmk
  obtain ⟨cur, hcur⟩ : ∃ cur, madeCells (Value.cells (.int .i64 0)) n = cur := ⟨_, rfl⟩
  have hcl : cur.toList = List.replicate n (z64 0) := by
    rw [← hcur]
    exact toList_madeCells_one (.int .i64 0) n
  rw [hcur] at hmk
  refine ⟨_, hmk, ?_, (Below.refl _ _).alloc (Nat.le_refl _) _, by simp⟩
  have e : cur = (encI (List.replicate n 0)).toArray := by
    apply Array.ext'
    rw [hcl, encI, List.map_replicate]
    rfl
  rw [← e]
  show (w.heap.push _)[w.heap.size]? = _
  simp
/-- What New leaves. -/
def MadeC (w : World) (n d : Nat) (e : Ending) (w' : World) : Prop :=
  ∃ p o, e = .returned (.tuple #[.pointer (some ⟨p, 0, none⟩), .int .i64 0]) ∧ w.heap.size ≤ p ∧ w.heap.size ≤ o ∧ (∀ S : List Nat, p ∈ S → o ∈ S → Cm S w' p o (ck0 n d)) ∧ Below w.heap.size w w'
set_option maxHeartbeats 800000 in
set_option maxRecDepth 100000 in
theorem cknew_ok (n d : Nat) (h1 : 1 ≤ n) (h4 : n ≤ 4) (hd : d ≤ 1152921504606846976) (w : World) : Calls Tryz.prog 135 #[.int .i64 n, .int .u64 d] w (MadeC w n d) := by
  obtain ⟨w1, hmk, hq, hb, hs⟩ := madeZ w n h4
  obtain ⟨g, hg⟩ : ∃ g, w.heap.size = g := ⟨_, rfl⟩
  rw [hg] at hmk hq hb hs
  obtain ⟨Z, hZ⟩ : ∃ Z, Tryz.zeroCells129.setIfInBounds 2 (.slice (some ⟨g, 0, none⟩) n n) = Z := ⟨_, rfl⟩
  have hZL := hZ.symm.trans (zero_clock g n)
  have hA : (w1.alloc (.cells Z 129)).heap[w1.heap.size]? = some (.cells (ckL 0 0 g n noLines (.slice none 0 0) .nilFunc).toArray 129 (0, 0)) := by
    rw [hZL]
    exact heap_alloc_new w1 _
  have hG : (w1.alloc (.cells Z 129)).heap[g]? = some (.cells (encI (List.replicate n 0)).toArray 3 (0, 0)) := by
    rw [Below.heap_alloc _ _ _ (by omega)]
    exact hq
  have hb2 : Below g w (w1.alloc (.cells Z 129)) := hb.alloc (by omega) _
  obtain ⟨w2, hw2⟩ : ∃ w2, w1.alloc (.cells Z 129) = w2 := ⟨_, rfl⟩
  obtain ⟨p, hp⟩ : ∃ p, w1.heap.size = p := ⟨_, rfl⟩
  rw [hp] at hs
  rw [hp, hw2] at hA
  rw [hw2] at hG hb2
  have hraw : ∀ S : List Nat, p ∈ S → g ∈ S → Cr S w2 p g 0 0 (List.replicate n 0) noLines [] .nilFunc := fun S hp ho =>
    ⟨by omega, noLines_len, by rw [List.length_replicate]; exact h4, ⟨none, 0, by rw [hA, List.length_replicate]; rfl, rowI_nil _ _, Nat.le_refl _, fun _ => rfl, fun x hx => by cases hx⟩, hG, hp, ho⟩
  have hr2 := hraw [p, g] (by simp) (by simp)
  have H1 := Lib.hid (ustore p 1 _ (d : Nat) w2 hr2.reads.2.1 (hr2.frozenP 1))
  have hraw3 := fun S hp ho => (hraw S hp ho).setDur d
  have hb3 : Below g w (w2.setCell ⟨p, 1, none⟩ (.int .u64 (d : Nat))) := hb2.setCell (by show g ≤ p; omega) _
  generalize w2.setCell ⟨p, 1, none⟩ (.int .u64 (d : Nat)) = w3 at *
  have hr3 := hraw3 [p, g] (by simp) (by simp)
  have H2 := Lib.hid (ustore p 0 _ (d + 1 : Nat) w3 hr3.reads.1 (hr3.frozenP 0))
  have HR := Lib.hid (fun S hp ho => (hraw3 S hp ho).setNow (d + 1))
  have HB : Hid (Below g w (w3.setCell ⟨p, 0, none⟩ (.int .u64 (d + 1 : Nat)))) := hb3.setCell (by show g ≤ p; omega) _
  have hw := u64_up d (by omega)
  have HFIN : Hid (∀ e w', e = .returned (.tuple #[.pointer (some ⟨p, 0, none⟩), .int .i64 0]) → w3.setCell ⟨p, 0, none⟩ (.int .u64 (d + 1 : Nat)) = w' → MadeC w n d e w') := fun e w' he hw => by
    subst hw
    exact ⟨p, g, he, by omega, by omega, fun S hp ho => ⟨ck0_ok h1 h4 (by omega), HR.out S hp ho⟩, by rw [hg]; exact HB.out⟩
  generalize w3.setCell ⟨p, 0, none⟩ (.int .u64 (d + 1 : Nat)) = w4 at *
  have hn1 : ¬ (n : Int) < 1 := by omega
  have hn4 : ¬ (4 : Int) < (n : Int) := by omega
  have hdd : ¬ (1152921504606846976 : Int) < (d : Int) := by omega
  have HP := Lib.hid hp
  have HW2 := Lib.hid hw2
  have HZ := Lib.hid hZ
  generalize ((d + 1 : Nat) : Int) = d1 at *
  clear hq hb hg hA hG hb2 hZL hr2 hr3 hraw hraw3 hb3 HR HB h1 h4 hd hw2 hs hp hZ
  go_enter Tryz.func135, Tryz.ntmps135
  go_wp2_with (first
    | ((with_reducible show Calls _ _ #[.pointer (some ⟨_, 1, none⟩), _] _ _); rw [HZ.out, HP.out, HW2.out]; refine H1.out.mono ?_; rintro e w' ⟨rfl, rfl⟩)
    | ((with_reducible show Calls _ _ #[.pointer (some ⟨_, 0, none⟩), _] _ _); refine H2.out.mono ?_; rintro e w' ⟨rfl, rfl⟩))
  go_ret2
  exact HFIN.out _ _ rfl rfl
end Go.Proofs.YtlghphccmgmomaaGreat

/-
  Proved here: what the laws DurableOrder and DurableCloses ask, of a clock's and a device's numbers and lines alone.
  Conditions: none.
-/
namespace Go.Proofs.YtlghphccmgmomaaGreat
open Go Go.RowKit
set_option maxRecDepth 100000

def Fl (c : Cl) : Prop := c.on = true ∧ c.f = c.v
def Sf (c : Cl) : Prop := c.v = c.p ∧ (c.on = true → c.f = c.v)
def Good (c : Cl) : Prop := Sf c ∨ Fl c
theorem Cl.flush_fl (c : Cl) : Fl c.flush := ⟨rfl, rfl⟩
theorem Sf.flush {c : Cl} (h : Sf c) : Sf c.flush := ⟨h.1, fun _ => rfl⟩
theorem Good.fence {c : Cl} (h : Good c) : Sf c.fence := by
  unfold Cl.fence
  split
  · rename_i ho
    refine ⟨?_, fun h => by cases h⟩
    rcases h with h | h
    · exact (h.2 ho).symm
    · exact h.2.symm
  · rename_i ho
    rcases h with h | h
    · exact h
    · exact absurd h.1 ho
theorem Fl.fence {c : Cl} (h : Fl c) : c.fence.v = c.fence.p ∧ c.fence.on = false := by
  unfold Cl.fence
  rw [if_pos h.1]
  exact ⟨h.2.symm, rfl⟩
theorem still_fence {c : Cl} (h : c.v = c.p ∧ c.on = false) : c.fence.v = c.fence.p ∧ c.fence.on = false := by
  unfold Cl.fence
  rw [if_neg (by rw [h.2]; decide)]
  exact h
theorem store_other (s : St) (x y : Int) (b : List UInt8) (j : Nat) (h : x ≠ (j : Int)) : clAt (s.store x y b).1 (j : Int) = clAt s.1 (j : Int) := by
  unfold St.store
  split
  · rename_i hh
    rw [Bool.and_eq_true] at hh
    obtain ⟨i, rfl, hi⟩ := has_true hh.1
    rw [Int.toNat_natCast, clAt_set _ _ _ _ hi, if_neg (by omega)]
  · rfl
theorem flush_other (s : St) (x : Int) (j : Nat) (h : x ≠ (j : Int)) : clAt (s.flush x).1 (j : Int) = clAt s.1 (j : Int) := by
  unfold St.flush
  split
  · rename_i hh
    obtain ⟨i, rfl, hi⟩ := has_true hh
    rw [Int.toNat_natCast, clAt_set _ _ _ _ hi, if_neg (by omega)]
  · rfl
theorem flush_same (s : St) (j : Nat) (hj : j < s.1.length) : clAt (s.flush (j : Int)).1 (j : Int) = (clAt s.1 (j : Int)).flush := by rw [St.flush_at _ _ _ hj, if_pos rfl]
theorem Ck.dev_len (c : Ck) (s : St) : (c.dev s).1.length = s.1.length := by
  unfold Ck.dev
  split
  · rfl
  split
  · exact St.flush_len _ _
  split
  · exact St.fence_len _
  split
  · exact St.store_len _ _ _ _
  split
  · exact St.flush_len _ _
  · exact St.fence_len _
theorem left_cons {c : Ck} (h : c.ok) (hp : c.ph = 1) : ∃ x l, c.left = x :: l := by
  have := h.some_.1 hp
  cases hl : c.left with
  | nil => exact absurd hl this
  | cons x l => exact ⟨x, l, rfl⟩
theorem nx_two {l : List Int} (h : nx l = 2) : l = [] := by
  unfold nx at h
  split at h
  · exact List.eq_nil_of_length_eq_zero ‹_›
  · cases h

/-! ### What the law DurableOrder asks -/
structure Ord (c : Ck) (s : St) : Prop where
  len : s.1.length = 30
  p1 : c.ph = 1 → ∀ i : Nat, 2 ≤ i → i < 30 → (i : Int) ∈ c.left ∨ Good (clAt s.1 (i : Int))
  p2 : c.ph = 2 → ∀ i : Nat, 2 ≤ i → i < 30 → Good (clAt s.1 (i : Int))
  p3 : c.ph = 0 ∨ 3 ≤ c.ph → ∀ i : Nat, 2 ≤ i → i < 30 → Sf (clAt s.1 (i : Int))
  q : 1 ≤ c.ph → c.ph ≤ 3 → clAt s.1 1 = Cl.zero
  lines : ∀ x ∈ c.left, 2 ≤ x
theorem Ord.step {c : Ck} {s : St} (h : Ord c s) (hc : c.ok) (hp : c.ph ≠ 0) : Ord c.step (c.dev s) := by
  have hl := h.len
  have h5 := hc.ph
  have hlen : (c.dev s).1.length = 30 := by rw [Ck.dev_len]; exact hl
  rcases (by omega : c.ph = 1 ∨ c.ph = 2 ∨ c.ph = 3 ∨ c.ph = 4 ∨ c.ph = 5) with e | e | e | e | e
  · obtain ⟨x, l, hxl⟩ := left_cons hc e
    have e1 : c.step = { c with left := l, ph := nx l } := by unfold Ck.step; simp [e, hxl]
    have e2 : c.dev s = s.flush x := by unfold Ck.dev; simp [e, hxl]
    have hx2 : 2 ≤ x := h.lines x (by rw [hxl]; simp)
    have hg : ∀ i : Nat, 2 ≤ i → i < 30 → (i : Int) ∈ l ∨ Good (clAt (s.flush x).1 (i : Int)) := by
      intro i h2 h3
      rcases Classical.em (x = (i : Int)) with rfl | hne
      · right; rw [flush_same _ _ (by omega)]; exact .inr (Cl.flush_fl _)
      · rw [flush_other _ _ _ hne]
        rcases h.p1 e i h2 h3 with h4 | h4
        · rw [hxl] at h4
          rcases List.mem_cons.1 h4 with h5 | h5
          · exact absurd h5.symm hne
          · exact .inl h5
        · exact .inr h4
    rw [e1, e2]
    rw [e2] at hlen
    refine ⟨hlen, fun _ => hg, fun h2 i h3 h4 => ?_, fun h2 => ?_, fun h2 h3 => ?_, fun y hy => h.lines y (by rw [hxl]; exact List.mem_cons_of_mem _ hy)⟩
    · rcases hg i h3 h4 with h5 | h5
      · rw [nx_two h2] at h5; cases h5
      · exact h5
    · have := nx_le l; simp only at h2; omega
    · have := flush_other s x 1 (by omega)
      rw [show ((1 : Nat) : Int) = 1 from rfl] at this
      rw [this]; exact h.q (by omega) (by omega)
  · have e1 : c.step = { c with ph := 3 } := by unfold Ck.step; simp [e]
    have e2 : c.dev s = s.fence := by unfold Ck.dev; simp [e]
    rw [e1, e2]
    rw [e2] at hlen
    refine ⟨hlen, fun h2 => (by simp at h2), fun h2 => (by simp at h2), fun _ i h3 h4 => ?_, fun _ _ => ?_, h.lines⟩
    · rw [St.fence_at _ _ (by omega)]; exact (h.p2 e i h3 h4).fence
    · have := St.fence_at s 1 (by omega)
      rw [show ((1 : Nat) : Int) = 1 from rfl] at this
      rw [this, h.q (by omega) (by omega)]; rfl
  · have e1 : c.step = { c with ph := 4 } := by unfold Ck.step; simp [e]
    have e2 : c.dev s = s.store 1 0 (clockL (c.dur + 1)) := by unfold Ck.dev; simp [e]
    rw [e1, e2]
    rw [e2] at hlen
    refine ⟨hlen, fun h2 => (by simp at h2), fun h2 => (by simp at h2), fun _ i h3 h4 => ?_, fun _ h2 => (by simp at h2), h.lines⟩
    rw [store_other _ _ _ _ _ (by omega)]; exact h.p3 (by omega) i h3 h4
  · have e1 : c.step = { c with ph := 5 } := by unfold Ck.step; simp [e]
    have e2 : c.dev s = s.flush 1 := by unfold Ck.dev; simp [e]
    rw [e1, e2]
    rw [e2] at hlen
    refine ⟨hlen, fun h2 => (by simp at h2), fun h2 => (by simp at h2), fun _ i h3 h4 => ?_, fun _ h2 => (by simp at h2), h.lines⟩
    rw [flush_other _ _ _ (by omega)]; exact h.p3 (by omega) i h3 h4
  · have e1 : c.step = { c with ph := 0, dur := c.dur + 1 } := by unfold Ck.step; simp [e]
    have e2 : c.dev s = s.fence := by unfold Ck.dev; simp [e]
    rw [e1, e2]
    rw [e2] at hlen
    refine ⟨hlen, fun h2 => (by simp at h2), fun h2 => (by simp at h2), fun _ i h3 h4 => ?_, fun h2 _ => (by simp at h2), h.lines⟩
    rw [St.fence_at _ _ (by omega)]; exact (show Good _ from .inl (h.p3 (by omega) i h3 h4)).fence
/-- Ahead of the closing: lines that were stored to are noted. -/
structure OrdA (c : Ck) (s : St) : Prop where
  len : s.1.length = 30
  ph : c.ph = 0
  good : ∀ i : Nat, 2 ≤ i → i < 30 → c.noted.getD i false = true ∨ clAt s.1 (i : Int) = Cl.zero
  q : clAt s.1 1 = Cl.zero
  low : ∀ i : Nat, c.noted.getD i false = true → 2 ≤ i ∧ i < 30
theorem getD_set_true (l : List Bool) (i j : Nat) (hi : i < l.length) : (l.set i true).getD j false = if i = j then true else l.getD j false := by
  simp only [List.getD, List.getElem?_set]
  split
  · first | rfl | (rw [if_pos (by omega)]; rfl)
  · rfl
theorem OrdA.note {c : Ck} {s : St} (h : OrdA c s) (hc : c.ok) (i : Nat) (h2 : 2 ≤ i) (h3 : i < 30) (y : Int) (b : List UInt8) : OrdA (c.note 0 (i : Int)) (s.store (i : Int) y b) := by
  have hin : inT c.owed 0 ∧ inLine (i : Int) := by have := hc.one; exact ⟨⟨by omega, by omega⟩, by omega, by omega⟩
  have e : (c.note 0 (i : Int)).noted = c.noted.set i true := by unfold Ck.note; rw [if_pos hin]; simp
  have hlen := hc.noted
  refine ⟨by rw [St.store_len]; exact h.len, by rw [Ck.note_ph]; exact h.ph, fun j h4 h5 => ?_, ?_, fun j hj => ?_⟩
  · rw [e, getD_set_true _ _ _ (by omega)]
    rcases Nat.decEq i j with hne | rfl
    · rw [if_neg hne, store_other _ _ _ _ _ (by omega)]; exact h.good j h4 h5
    · left; rw [if_pos rfl]
  · have := store_other s (i : Int) y b 1 (by omega)
    rw [show ((1 : Nat) : Int) = 1 from rfl] at this
    rw [this]; exact h.q
  · rw [e, getD_set_true _ _ _ (by omega)] at hj
    split at hj
    · omega
    · exact h.low j hj
theorem OrdA.first {d : Nat} : OrdA (ck0 1 d) (fresh 30, five0) := by
  have hz : ∀ i : Nat, i < 30 → clAt (fresh 30) (i : Int) = Cl.zero := by
    intro i hi
    unfold clAt fresh
    rw [Int.toNat_natCast, List.getD, List.getElem?_replicate, if_pos hi]
    rfl
  refine ⟨by simp [fresh], rfl, fun i _ h3 => .inr (hz i h3), hz 1 (by omega), fun i hi => ?_⟩
  rw [show (ck0 1 d).noted = noLines from rfl, noLines_at] at hi
  cases hi

/-! ### What the law DurableCloses asks -/
structure Cls (N : List Bool) (c : Ck) (s : St) : Prop where
  len : s.1.length = 40
  low : ∀ i : Nat, N.getD i false = true → 2 ≤ i ∧ i < 40
  p1 : c.ph = 1 → ∀ i : Nat, N.getD i false = true → (i : Int) ∈ c.left ∨ Fl (clAt s.1 (i : Int))
  p2 : c.ph = 2 → ∀ i : Nat, N.getD i false = true → Fl (clAt s.1 (i : Int))
  p3 : c.ph = 0 ∨ 3 ≤ c.ph → ∀ i : Nat, N.getD i false = true → (clAt s.1 (i : Int)).v = (clAt s.1 (i : Int)).p ∧ (clAt s.1 (i : Int)).on = false
  v1 : (clAt s.1 1).v.length = 64
  q4 : c.ph = 4 → (clAt s.1 1).v = clockL 8
  q5 : c.ph = 5 → (clAt s.1 1).on = true ∧ (clAt s.1 1).f = clockL 8
  q0 : c.ph = 0 → (clAt s.1 1).p = clockL 8 ∧ c.dur = 8
  dur : c.ph ≠ 0 → c.dur = 7
  lines : ∀ x ∈ c.left, 2 ≤ x
theorem at_one (s : St) : clAt s.1 ((1 : Nat) : Int) = clAt s.1 1 := rfl
theorem fence_v (c : Cl) : c.fence.v = c.v := by unfold Cl.fence; split <;> rfl
theorem Cls.step {N : List Bool} {c : Ck} {s : St} (h : Cls N c s) (hc : c.ok) (hp : c.ph ≠ 0) : Cls N c.step (c.dev s) := by
  have hl := h.len
  have h5 := hc.ph
  have hd := h.dur hp
  have hlen : (c.dev s).1.length = 40 := by rw [Ck.dev_len]; exact hl
  rcases (by omega : c.ph = 1 ∨ c.ph = 2 ∨ c.ph = 3 ∨ c.ph = 4 ∨ c.ph = 5) with e | e | e | e | e
  · obtain ⟨x, l, hxl⟩ := left_cons hc e
    have e1 : c.step = { c with left := l, ph := nx l } := by unfold Ck.step; simp [e, hxl]
    have e2 : c.dev s = s.flush x := by unfold Ck.dev; simp [e, hxl]
    have hx2 : 2 ≤ x := h.lines x (by rw [hxl]; simp)
    have hg : ∀ i : Nat, N.getD i false = true → (i : Int) ∈ l ∨ Fl (clAt (s.flush x).1 (i : Int)) := by
      intro i hN
      have hlo := h.low i hN
      rcases Classical.em (x = (i : Int)) with rfl | hne
      · right; rw [flush_same _ _ (by omega)]; exact Cl.flush_fl _
      · rw [flush_other _ _ _ hne]
        rcases h.p1 e i hN with h4 | h4
        · rw [hxl] at h4
          rcases List.mem_cons.1 h4 with h5 | h5
          · exact absurd h5.symm hne
          · exact .inl h5
        · exact .inr h4
    have h1 : clAt (s.flush x).1 1 = clAt s.1 1 := flush_other s x 1 (by omega)
    have hn := nx_le l
    rw [e1, e2]
    rw [e2] at hlen
    refine ⟨hlen, h.low, fun _ => hg, fun h2 i hN => ?_, fun h2 => by simp only at h2; omega, by rw [h1]; exact h.v1, fun h2 => by simp only at h2; omega, fun h2 => by simp only at h2; omega, fun h2 => by simp only at h2; omega, fun _ => hd, fun y hy => h.lines y (by rw [hxl]; exact List.mem_cons_of_mem _ hy)⟩
    rcases hg i hN with h5 | h5
    · rw [nx_two h2] at h5; cases h5
    · exact h5
  · have e1 : c.step = { c with ph := 3 } := by unfold Ck.step; simp [e]
    have e2 : c.dev s = s.fence := by unfold Ck.dev; simp [e]
    have h1 : clAt s.fence.1 1 = (clAt s.1 1).fence := St.fence_at s 1 (by omega)
    rw [e1, e2]
    rw [e2] at hlen
    refine ⟨hlen, h.low, fun h2 => (by simp at h2), fun h2 => (by simp at h2), fun _ i hN => ?_, by rw [h1, fence_v]; exact h.v1, fun h2 => (by simp at h2), fun h2 => (by simp at h2), fun h2 => (by simp at h2), fun _ => hd, h.lines⟩
    have hlo := h.low i hN
    rw [St.fence_at _ _ (by omega)]; exact (h.p2 e i hN).fence
  · have e1 : c.step = { c with ph := 4 } := by unfold Ck.step; simp [e]
    have e2 : c.dev s = s.store 1 0 (clockL 8) := by unfold Ck.dev; simp [e, hd]
    have hcl : (clockL 8).length = 64 := clockL_len 8
    have h1 : clAt (s.store 1 0 (clockL 8)).1 1 = (clAt s.1 1).store 0 (clockL 8) := by
      have := St.store_at s 1 1 (clockL 8) (by omega) (by omega)
      rw [if_pos rfl] at this
      exact this
    have hv : ((clAt s.1 1).store 0 (clockL 8)).v = clockL 8 := by
      have hv1 := h.v1
      simp only [Cl.store, List.take_zero, List.nil_append, Nat.zero_add]
      rw [List.drop_of_length_le (by omega), List.append_nil]
    rw [e1, e2]
    rw [e2] at hlen
    refine ⟨hlen, h.low, fun h2 => (by simp at h2), fun h2 => (by simp at h2), fun _ i hN => ?_, by rw [h1, hv]; exact hcl, fun _ => by rw [h1, hv], fun h2 => (by simp at h2), fun h2 => (by simp at h2), fun _ => hd, h.lines⟩
    have hlo := h.low i hN
    rw [store_other _ _ _ _ _ (by omega)]; exact h.p3 (by omega) i hN
  · have e1 : c.step = { c with ph := 5 } := by unfold Ck.step; simp [e]
    have e2 : c.dev s = s.flush 1 := by unfold Ck.dev; simp [e]
    have h1 : clAt (s.flush 1).1 1 = (clAt s.1 1).flush := flush_same s 1 (by omega)
    rw [e1, e2]
    rw [e2] at hlen
    refine ⟨hlen, h.low, fun h2 => (by simp at h2), fun h2 => (by simp at h2), fun _ i hN => ?_, by rw [h1]; exact h.v1, fun h2 => (by simp at h2), fun _ => by rw [h1]; exact ⟨rfl, h.q4 e⟩, fun h2 => (by simp at h2), fun _ => hd, h.lines⟩
    have hlo := h.low i hN
    rw [flush_other _ _ _ (by omega)]; exact h.p3 (by omega) i hN
  · have e1 : c.step = { c with ph := 0, dur := c.dur + 1 } := by unfold Ck.step; simp [e]
    have e2 : c.dev s = s.fence := by unfold Ck.dev; simp [e]
    have h1 : clAt s.fence.1 1 = (clAt s.1 1).fence := St.fence_at s 1 (by omega)
    have hq := h.q5 e
    rw [e1, e2]
    rw [e2] at hlen
    refine ⟨hlen, h.low, fun h2 => (by simp at h2), fun h2 => (by simp at h2), fun _ i hN => ?_, by rw [h1, fence_v]; exact h.v1, fun h2 => (by simp at h2), fun h2 => (by simp at h2), fun _ => ?_, fun h2 => absurd rfl h2, h.lines⟩
    · have hlo := h.low i hN
      rw [St.fence_at _ _ (by omega)]; exact still_fence (h.p3 (by omega) i hN)
    · rw [h1]
      refine ⟨?_, by show c.dur + 1 = 8; omega⟩
      unfold Cl.fence
      rw [if_pos hq.1]
      exact hq.2
/-- Ahead of the closing. -/
structure ClsA (c : Ck) (s : St) : Prop where
  len : s.1.length = 40
  ph : c.ph = 0
  dur : c.dur = 7
  v1 : (clAt s.1 1).v.length = 64
  low : ∀ i : Nat, c.noted.getD i false = true → 2 ≤ i ∧ i < 40
theorem ClsA.note {c : Ck} {s : St} (h : ClsA c s) (hc : c.ok) (i : Nat) (t : Int) (h2 : 2 ≤ i) (h3 : i < 40) (ht : inT c.owed t) (y : Int) (b : List UInt8) : ClsA (c.note t (i : Int)) (s.store (i : Int) y b) ∧ (c.note t (i : Int)).noted = c.noted.set i true ∧ c.noteE t (i : Int) = 0 := by
  have hin : inLine (i : Int) := ⟨by omega, by omega⟩
  have e : (c.note t (i : Int)).noted = c.noted.set i true := by unfold Ck.note; rw [if_pos ⟨ht, hin⟩]; simp
  have hlen := hc.noted
  refine ⟨⟨by rw [St.store_len]; exact h.len, by rw [Ck.note_ph]; exact h.ph, by rw [Ck.note_dur]; exact h.dur, ?_, fun j hj => ?_⟩, e, by unfold Ck.noteE; rw [if_pos ht, if_pos hin]⟩
  · have := store_other s (i : Int) y b 1 (by omega)
    rw [at_one, at_one] at this
    rw [this]; exact h.v1
  · rw [e, getD_set_true _ _ _ (by omega)] at hj
    split at hj
    · omega
    · exact h.low j hj
theorem ClsA.first : ClsA (ck0 4 7) (fresh 40, five0) := by
  refine ⟨by simp [fresh], rfl, rfl, ?_, fun i hi => ?_⟩
  · have : clAt (fresh 40) ((1 : Nat) : Int) = Cl.zero := by
      unfold clAt fresh
      rw [Int.toNat_natCast, List.getD, List.getElem?_replicate, if_pos (by omega)]
      rfl
    rw [show (1 : Int) = ((1 : Nat) : Int) from rfl, this]
    exact zeros64_len
  · rw [show (ck0 4 7).noted = noLines from rfl, noLines_at] at hi
    cases hi
end Go.Proofs.YtlghphccmgmomaaGreat

/-
  Proved here: what the actions of package durable's steps answer and leave, of a clock and of a device.
  Conditions: none.
-/
namespace Go.Proofs.YtlghphccmgmomaaGreat
open Go Go.RowKit
set_option maxRecDepth 100000

theorem sub2 {p q : Nat} {S : List Nat} (hp : p ∈ S) (hq : q ∈ S) : ∀ x ∈ [p, q], x ∈ S := by
  intro x hx
  simp only [List.mem_cons, List.not_mem_nil, or_false] at hx
  rcases hx with rfl | rfl <;> assumption
theorem not2 {x p q : Nat} (h1 : x ≠ p) (h2 : x ≠ q) : x ∉ [p, q] := by simp [h1, h2]
theorem Turns.k2 {p q : Nat} {a b : World} (h : Turns p q a b) : Keeps [p, q] a b := h.keeps (by simp) (by simp)
section
variable {S : List Nat} {w w' : World} {p o dp dq now dur : Nat} {c : Ck} {s : St} {owed left : List Int} {noted : List Bool} {fv : Value}
theorem Cr.dev (h : Cr S w p o now dur owed noted left fv) (ht : Turns dp dq w w') (h1 : p ≠ dp) (h2 : p ≠ dq) (h3 : o ≠ dp) (h4 : o ≠ dq) (h5 : dp ∈ S) (h6 : dq ∈ S) : Cr S w' p o now dur owed noted left fv := h.keeps ht.k2 (not2 h1 h2) (not2 h3 h4) (sub2 h5 h6)
theorem Dv.ck {T D : TypeId} {st : List Cl} {cs : List Int} (h : Dv T D w dp dq st cs) (ht : Turns p o w w') (h1 : p ≠ dp) (h2 : p ≠ dq) (h3 : o ≠ dp) (h4 : o ≠ dq) : Dv T D w' dp dq st cs := h.turns ht h1.symm h3.symm h2.symm h4.symm
end
end Go.Proofs.YtlghphccmgmomaaGreat
