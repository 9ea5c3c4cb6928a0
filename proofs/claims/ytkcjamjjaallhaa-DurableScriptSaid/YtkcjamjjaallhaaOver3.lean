/-
  Proved here: what the statements' own OverBytes does to a line's bytes that were answered, and OverInts, told by the blocks that stay.
  Conditions: none.
-/
import Derived.Test.YtkcjamjjaallhaaSim3
import Derived.ArgAppend
namespace Go.Proofs.Ytkcjamjjaallhaa
open Go Go.RowKit

theorem Arr.frozen {T : TypeId} {w : World} {g : Nat} {x : List UInt8} (h : Arr T w g x) (j : Nat) : w.frozen? ⟨g, j, none⟩ = false := by
  unfold Arr at h
  simp [World.frozen?, h]
/-- All that was there but the block of v is as it was. -/
structure Spares (v : Value) (w w' : World) : Prop where
  os : w'.os = w.os
  tape : w'.tape = w.tape
  output : w'.output = w.output
  size : w.heap.size ≤ w'.heap.size
  block : ∀ k, k < w.heap.size → v.ownBlock ≠ some k → w'.heap[k]? = w.heap[k]?
theorem Spares.refl (v : Value) (w : World) : Spares v w w := ⟨rfl, rfl, rfl, Nat.le_refl _, fun _ _ _ => rfl⟩
theorem Spares.trans {v : Value} {a b c : World} (h : Spares v a b) (k : Spares v b c) : Spares v a c :=
  ⟨k.os.trans h.os, k.tape.trans h.tape, k.output.trans h.output, Nat.le_trans h.size k.size, fun i hi hn => (k.block i (Nat.lt_of_lt_of_le hi h.size) hn).trans (h.block i hi hn)⟩
theorem Spares.of_below {v : Value} {w w' : World} (h : Below w.heap.size w w') : Spares v w w' := ⟨h.os, h.tape, h.output, h.size, fun k hk _ => h.block k hk⟩
theorem Spares.setCell {w : World} {g n cap : Nat} (o : Nat) (u : Value) : Spares (.slice (some ⟨g, 0, none⟩) n cap) w (w.setCell ⟨g, o, none⟩ u) :=
  ⟨rfl, rfl, rfl, by simp [World.setCell], fun k _ hn => Below.heap_setCell _ _ _ _ (fun e => hn (by subst e; rfl))⟩
theorem Spares.below {v : Value} {B : Nat} {w w' : World} (h : Spares v w w') (hv : ∀ k, v.ownBlock = some k → B ≤ k) (hB : B ≤ w.heap.size) : Below B w w' :=
  ⟨h.os, h.tape, h.output, h.size, fun k hk => h.block k (by omega) (fun e => by have := hv k e; omega)⟩
theorem Spares.own {v u : Value} {w w' : World} {base n : Nat} {e : TypeId} {xs : List Value} (h : Spares v w w') (ho : w.ownsRow base e 1 u n xs) (hv : ∀ k, v.ownBlock = some k → k < base) : w'.ownsRow base e 1 u n xs := by
  refine ⟨ho.1, ho.2.imp id fun ⟨g, cap, cur, h1, h2, h3, h4⟩ => ⟨g, cap, cur, h1, h2, (h.block g (lt_of_heap h3) (fun e => by have := hv g e; omega)).trans h3, h4⟩⟩
theorem own_lt {w : World} {base n : Nat} {e : TypeId} {v : Value} {xs : List Value} (h : w.ownsRow base e 1 v n xs) : ∀ k, v.ownBlock = some k → k < w.heap.size := by
  intro k hk
  rcases h.2 with ⟨rfl, _⟩ | ⟨g, cap, cur, rfl, _, hh, _⟩
  · cases hk
  · have : g = k := by simpa [Value.ownBlock] using hk
    subst this
    exact lt_of_heap hh
theorem run_appI_sp (w : World) (base n : Nat) (v : Value) (l : List Int) (hn : l.length = n) (x : Int) (hown : w.ownsRow base 3 1 v n (encI l)) (hl : n < 134217728) (hbase : base ≤ w.heap.size) :
    ∃ v' w', (Builtin.append_ #[68, 68] 68 #[v, .slice (some ⟨w.heap.size, 0, none⟩) 1 1]).run Try.prog (w.alloc (.cells #[.int .i64 x] 3)) = .ok v' w' ∧ Spares v w w' := by
  obtain ⟨v', w', h1, _, h3, _⟩ := run_appI (w.alloc (.cells #[.int .i64 x] 3)) base n v (encI l) (own_alloc hown _) (some ⟨w.heap.size, 0, none⟩) 1 1 [x] rfl (rowI_one w x) (by intro h; cases h) (by omega) (by simp; omega)
  exact ⟨v', w', h1, (Spares.of_below ((Below.refl _ _).alloc (Nat.le_refl _) _)).trans ⟨h3.os, h3.tape, h3.output, h3.size, fun k hk hne => h3.block k hk (fun e => hne e.symm)⟩⟩
set_option maxHeartbeats 800000 in
theorem overi_sp (w : World) (B n : Nat) (v : Value) (r : List Int) (hr : r.length = n) (hn : n < 134217728) (h : w.ownsRow B 3 1 v n (encI r)) (hB : B ≤ w.heap.size) :
    Calls Try.prog 54 #[v] w fun e w' => e = .returned (.tuple #[]) ∧ Spares v w w' := by
  rcases h.2 with ⟨rfl, h0⟩ | ⟨g, cap, cur, rfl, hg, _⟩
  · obtain ⟨V', w', hrun, hb'⟩ := run_appI_sp w B n (.slice none 0 0) r hr (-998) h hn hB
    have HRUN : Hid (Sem.run Try.prog (Builtin.append_ #[68, 68] 68 #[.slice none 0 0, .slice (some ⟨w.heap.size, 0, none⟩) 1 1]) (w.alloc (.cells #[.int .i64 (-998)] 3)) = .ok V' w') := hrun
    have HB' := Lib.hid hb'
    clear hrun hb' h hr h0
    go_enter Try.func54, Try.ntmps54
    go_wp2
    go_loopg [2] 0 (fun gk s2 wx => gk = 0 ∧ s2 = .int .i64 0 ∧ w = wx)
    case atStart => exact ⟨rfl, rfl, rfl⟩
    case round =>
      obtain ⟨rfl, rfl, rfl⟩ := hrel
      go_wp2_with (at_builtin; refine wpList_app rfl (.tmp 12) (.tmp 13) 68 rfl rfl rfl HRUN.out ?_)
      refine bodyPost_end (results_none rfl _ _ _) rfl ?_
      exact ⟨rfl, HB'.out⟩
  · have HO0 := Lib.hid h
    have HR := Lib.hid hr
    clear h hr
    go_enter Try.func54, Try.ntmps54
    go_wp2
    go_loopg [2] n (fun gk s2 wx => ∃ (i : Nat) (q : List Int), i + gk = n ∧ s2 = .int .i64 i ∧ Hid (q.length = n) ∧ Hid (wx.ownsRow B 3 1 (.slice (some ⟨g, 0, none⟩) n cap) n (encI q)) ∧ Hid (Spares (.slice (some ⟨g, 0, none⟩) n cap) w wx))
    case atStart => exact ⟨0, r, by omega, rfl, HR, HO0, Spares.refl _ _⟩
    case round =>
      obtain ⟨i, q, hin, rfl, HQ, HO, HW⟩ := hrel
      cases gk with
      | zero =>
        obtain rfl : i = n := by omega
        have hii : ¬ (i : Int) < (i : Int) := by omega
        obtain ⟨V', w', hrun, hb'⟩ := run_appI_sp wr B i (.slice (some ⟨g, 0, none⟩) i cap) q HQ.out (-998) HO.out (by omega) (Nat.le_trans hB HW.out.size)
        have HRUN : Hid (Sem.run Try.prog (Builtin.append_ #[68, 68] 68 #[.slice (some ⟨g, 0, none⟩) i cap, .slice (some ⟨wr.heap.size, 0, none⟩) 1 1]) (wr.alloc (.cells #[.int .i64 (-998)] 3)) = .ok V' w') := hrun
        have HB' := Lib.hid hb'
        clear hrun hb'
        go_wp2_with (at_builtin; refine wpList_app rfl (.tmp 12) (.tmp 13) 68 rfl rfl rfl HRUN.out ?_)
        refine bodyPost_end (results_none rfl _ _ _) rfl ?_
        exact ⟨rfl, HW.out.trans HB'.out⟩
      | succ gk =>
        have hii : (i : Int) < (n : Int) := by omega
        have hcell := HO.out.cellAt i (by omega)
        rw [encI_at _ _ (by have := HQ.out; omega)] at hcell
        have hfr := HO.out.frozenAt i
        have hst := (HO.out.stored i (.int .i64 (-999))).1
        rw [encI_set] at hst
        have HST := Lib.hid hst
        have HQ2 : Hid ((q.set i (-999)).length = n) := by show _ = _; rw [List.length_set]; exact HQ.out
        clear hst
        go_wp2
        go_roundg gk
        case measure => omega
        case rel => exact ⟨i + 1, _, by omega, by go_num, HQ2, HST, HW.out.trans (Spares.setCell _ _)⟩

end Go.Proofs.Ytkcjamjjaallhaa
