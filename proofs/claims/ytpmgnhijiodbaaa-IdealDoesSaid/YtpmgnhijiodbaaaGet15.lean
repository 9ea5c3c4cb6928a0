/-
  Proved here: slices.Clone at pairs and texts; what Get answers.
  Conditions: rows of at most 2^20.
-/
import Derived.Test.YtpmgnhijiodbaaaCallEff15
namespace Go.Proofs.Ytpmgnhijiodbaaa
open Go Go.RowKit
set_option maxRecDepth 100000

/-- A row of the call's own. -/
def OwnR {α : Type} (R : Rec α) (w : World) (l : List α) (e : Ending) (w' : World) : Prop := ∃ V, e = .returned V ∧ w'.ownsRow w.heap.size R.tE R.k V l.length (R.enc l) ∧ Below w.heap.size w w'
theorem cloneR_run {α : Type} (R : Rec α) (w : World) (a : Addr) (n c : Nat) (l : List α) (hl : l.length = n) (hr : R.Row w (some a) l) : ∃ V w2, (Builtin.append_ #[R.tS, R.tS] R.tS #[.slice (some ⟨w.heap.size, 0, none⟩) 0 0, .slice (some a) n c]).run Try.prog (w.alloc (.cells #[] R.tE)) = .ok V w2 ∧ OwnR R w l (.returned V) w2 := by
  have hb0 : Below w.heap.size w (w.alloc (.cells #[] R.tE)) := (Below.refl _ _).alloc (Nat.le_refl _) _
  obtain ⟨V, w2, hrun, hown, hg, _⟩ := R.run_app (w.alloc (.cells #[] R.tE)) w.heap.size 0 _ [] (World.ownsRow_made (e := R.tE) (size := R.k) w #[] 0 (Nat.le_refl _) (by simp) (by simp)) (some a) n c l hl (hr.below hb0) (by intro h; cases h) (by have := hr.1; omega) (by simp) R.tS
  refine ⟨V, w2, hrun, V, rfl, by rw [hl]; simpa using hown, hb0.grown hg (by simp) (fun k hk => by simp [Value.ownBlock] at hk; omega)⟩
set_option maxHeartbeats 400000 in
theorem clonep_any (w : World) (A : Option Addr) (n c : Nat) (l : List Kv) (hl : l.length = n) (hr : RP.Row w A l) (hA : A = none → c = 0) :
    Calls Try.prog 36 #[.slice A n c] w (OwnR RP w l) := by
  rcases A with _ | a
  · have h0 : l.length = 0 := by
      rcases Nat.eq_zero_or_pos l.length with h | h
      · exact h
      · obtain ⟨_, _, e, _⟩ := hr.2 h
        cases e
    obtain rfl : l = [] := List.eq_nil_of_length_eq_zero h0
    obtain rfl : n = 0 := by simpa using hl.symm
    obtain rfl := hA rfl
    clear hr hl hA h0
    have hnil : (binOp .eql 22 (.slice none 0 0) (.slice none 0 0)).run Try.prog w = .ok (.bool true) w := Lib.run_eql_slice_nil w 22 42 none 0 0 0 0 Try.underlying22
    go_enter Try.func36, Try.ntmps36
    go_wp2
    go_ret
    exact ⟨_, rfl, ⟨rfl, .inl ⟨rfl, rfl⟩⟩, Below.refl _ _⟩
  · obtain ⟨V, w2, hrun, hown⟩ := cloneR_run RP w a n c l hl hr
    have HRUN : Hid ((Builtin.append_ #[22, 22] 22 #[.slice (some ⟨w.heap.size, 0, none⟩) 0 0, .slice (some a) n c]).run Try.prog (w.alloc (.cells #[] 42)) = .ok V w2) := hrun
    have HO := Lib.hid hown
    have hnil : (binOp .eql 22 (.slice (some a) n c) (.slice none 0 0)).run Try.prog w = .ok (.bool false) w := Lib.run_eql_slice_nil w 22 42 (some a) n c 0 0 Try.underlying22
    obtain ⟨R, hR⟩ : ∃ R, OwnR RP w l = R := ⟨_, rfl⟩
    rw [hR] at HO ⊢
    clear hrun hown hl hr hR
    go_enter Try.func36, Try.ntmps36
    go_wp2_with (at_builtin; refine wpList_app rfl (.tmp 5) (.tmp 6) 22 rfl rfl rfl HRUN.out ?_)
    exact HO.out
set_option maxHeartbeats 400000 in
theorem clones_any (w : World) (A : Option Addr) (n c : Nat) (l : List ByteArray) (hl : l.length = n) (hr : RS.Row w A l) (hA : A = none → c = 0) :
    Calls Try.prog 37 #[.slice A n c] w (OwnR RS w l) := by
  rcases A with _ | a
  · have h0 : l.length = 0 := by
      rcases Nat.eq_zero_or_pos l.length with h | h
      · exact h
      · obtain ⟨_, _, e, _⟩ := hr.2 h
        cases e
    obtain rfl : l = [] := List.eq_nil_of_length_eq_zero h0
    obtain rfl : n = 0 := by simpa using hl.symm
    obtain rfl := hA rfl
    clear hr hl hA h0
    have hnil : (binOp .eql 23 (.slice none 0 0) (.slice none 0 0)).run Try.prog w = .ok (.bool true) w := Lib.run_eql_slice_nil w 23 9 none 0 0 0 0 Try.underlying23
    go_enter Try.func37, Try.ntmps37
    go_wp2
    go_ret
    exact ⟨_, rfl, ⟨rfl, .inl ⟨rfl, rfl⟩⟩, Below.refl _ _⟩
  · obtain ⟨V, w2, hrun, hown⟩ := cloneR_run RS w a n c l hl hr
    have HRUN : Hid ((Builtin.append_ #[23, 23] 23 #[.slice (some ⟨w.heap.size, 0, none⟩) 0 0, .slice (some a) n c]).run Try.prog (w.alloc (.cells #[] 9)) = .ok V w2) := hrun
    have HO := Lib.hid hown
    have hnil : (binOp .eql 23 (.slice (some a) n c) (.slice none 0 0)).run Try.prog w = .ok (.bool false) w := Lib.run_eql_slice_nil w 23 9 (some a) n c 0 0 Try.underlying23
    obtain ⟨R, hR⟩ : ∃ R, OwnR RS w l = R := ⟨_, rfl⟩
    rw [hR] at HO ⊢
    clear hrun hown hl hr hR
    go_enter Try.func37, Try.ntmps37
    go_wp2_with (at_builtin; refine wpList_app rfl (.tmp 5) (.tmp 6) 23 rfl rfl rfl HRUN.out ?_)
    exact HO.out
/-- A store as it is handed on by value: two slices that read as L and Q. -/
structure Shv (w : World) (A : Option Addr) (n c : Nat) (B : Option Addr) (m d : Nat) (L : List Kv) (Q : List ByteArray) : Prop where
  r1 : RP.Row w A L
  r2 : RS.Row w B Q
  n1 : L.length = n
  n2 : Q.length = m
  z1 : A = none → c = 0
  z2 : B = none → d = 0
theorem Shv.below {w w' : World} {A B : Option Addr} {n c m d : Nat} {L : List Kv} {Q : List ByteArray} (h : Shv w A n c B m d L Q) (hb : Below w.heap.size w w') : Shv w' A n c B m d L Q := ⟨h.r1.below hb, h.r2.below hb, h.n1, h.n2, h.z1, h.z2⟩
theorem valK_at {L : List Kv} {s : ByteArray} {i : Nat} (hi : i = L.findIdx (eqKv s)) (hl : i < L.length) : valK L s = (L[i]).v := by
  subst hi
  unfold valK getK
  have : L.find? (eqKv s) = some (L[L.findIdx (eqKv s)]) := by
    rw [List.find?_eq_some_iff_getElem]
    refine ⟨List.findIdx_getElem, _, hl, rfl, fun j hj => by
      have := List.not_of_lt_findIdx hj
      simpa using this⟩
  rw [this]
theorem valK_no {L : List Kv} {s : ByteArray} (h : hasK L s = false) : valK L s = ⟨#[]⟩ := by
  unfold valK getK
  have : L.find? (eqKv s) = none := by
    rw [List.find?_eq_none]
    exact fun x hx => List.any_eq_false.1 h x hx
  rw [this]
set_option maxHeartbeats 800000 in
theorem get15_any {w : World} {A B : Option Addr} {n c m d : Nat} {L : List Kv} {Q : List ByteArray} (h : Shv w A n c B m d L Q) (s : ByteArray) : Calls Try.prog 15 #[.agg #[.slice A n c, .slice B m d], .string s] w fun e w' => e = .returned (.tuple #[.string (valK L s), .bool (hasK L s)]) ∧ Below w.heap.size w w' := by
  obtain ⟨g, hg⟩ : ∃ g, w.heap.size = g := ⟨_, rfl⟩
  obtain ⟨w1, hw1⟩ : ∃ w1, w.alloc (.cells #[.slice A n c, .slice B m d] 25) = w1 := ⟨_, rfl⟩
  have HX : Hid (w1.heap[g]? = some (.cells #[.slice A n c, .slice B m d] 25 (0, 0))) := by rw [← hw1, ← hg]; exact heap_alloc_new w _
  have HB : Hid (Below g w w1) := by rw [← hw1, ← hg]; exact (Below.refl _ _).alloc (Nat.le_refl _) _
  have h1 := h.below (hg ▸ HB.out)
  have HF := Lib.hid (findp_any n c h1.n1 h1.r1 s)
  have HR := Lib.hid h1.r1
  have HL : Hid (g < w1.heap.size) := lt_of_heap HX.out
  obtain ⟨p0, p1⟩ := cells2 HX.out
  rw [hg]
  have hn := h.n1
  have hmx : n ≤ 1048576 := by have := h.r1.1; omega
  clear h h1
  rcases fIdx_has L s with ⟨e1, e2⟩ | ⟨i, e1, hi, e2, e3⟩
  · rw [e1] at HF
    rw [e2, valK_no e2]
    clear e1 e2
    go_enter Try.func15, Try.ntmps15
    go_wp2_with fail
    refine HF.out.mono ?_
    clear hg hw1
    rintro e w2 ⟨rfl, hb2⟩
    have HB2 : Hid (Below g w w2) := HB.out.trans (hb2.mono (Nat.le_of_lt HL.out))
    clear hb2 p0 p1
    go_wp2
    go_ret2
    exact ⟨rfl, HB2.out⟩
  · rw [e1] at HF
    rw [e2, valK_at e3 hi]
    have hgi := List.getElem?_eq_getElem hi
    generalize L[i] = x at *
    have HGI := Lib.hid hgi
    have hin : (i : Int) < (n : Int) := by omega
    have hi0 : (0 : Int) ≤ (i : Int) := by omega
    clear e1 e2 e3 hgi hi
    go_enter Try.func15, Try.ntmps15
    go_wp2_with fail
    refine HF.out.mono ?_
    clear hg hw1
    rintro e w2 ⟨rfl, hb2⟩
    have HB2 : Hid (Below g w w2) := HB.out.trans (hb2.mono (Nat.le_of_lt HL.out))
    obtain ⟨b, off, rfl, -, c0, c1⟩ := pairAt (HR.out.below hb2) HGI.out
    have H2 := Lib.hid ((hb2.block g HL.out).trans HX.out)
    clear hb2 p0 p1
    obtain ⟨q0, q1⟩ := cells2 H2.out
    go_wp2
    go_ret2
    exact ⟨rfl, HB2.out⟩

end Go.Proofs.Ytpmgnhijiodbaaa
