/-
  Proved here: what the table's Get answers and leaves.
  Conditions: keys of at most 2^30 bytes.
-/
import Derived.Test.YtjehklmbgldfpaaTabA
namespace Go.Proofs.Ytjehklmbgldfpaa
open Go Go.RowKit
set_option maxRecDepth 100000

/-- A whole block written over: all others lie as they lay. -/
theorem wpList_store_only {P : Program} {ops : Array Oper} {rest : List Oper} {o : Oper} {a : Act} {w : World} {Q : Exit → Act → World → Prop} (hgd : o.guard = none) (ty : TypeId) (x y : Operand) (ho : o.op = .store ty x y) (hd : o.dst = none)
    (g : Nat) (cells : Array Value) (hx : a.eval x = .pointer (some ⟨g, 0, none⟩)) (hy : a.eval y = .agg cells)
    (t : TypeId) (old : Array Value) (hg : w.heap[g]? = some (.cells old t (0, 0))) (hi : (P.info? ty).map (·.size) = some cells.size) (hold : old.size = cells.size) (h1 : cells.all (·.oneCell') = true)
    (k : ∀ w', Hid (w'.heap[g]? = some (.cells cells t (0, 0))) → Hid (Turns g g w w') → wpList P ops Q rest a w') : wpList P ops Q (o :: rest) a w := by
  refine wpList_store_row hgd ty x y ho g cells hx hy t old hg hi hold h1 ?_
  rw [hd]
  exact k _ (setRow_heap w g _ _ t _ hg) ⟨rfl, rfl, rfl, by simp, fun k hk _ _ => setRow_other _ _ k _ hk⟩
theorem mAt_bkt (m : Nat → Option Nat) (k : Ky) : mAt m ((addS 0 k % 8 : Nat) : Int) = m (bkt k) := by
  unfold mAt
  have := bkt_lt k
  unfold bkt at this ⊢
  rw [if_pos (by omega)]
  rfl
theorem Tb.look {w w1 : World} {p : Nat} {m : Nat → Option Nat} {L : List Ln} (h : Tb w p m L) (hb : Below w.heap.size w w1) (s : ByteArray) (hs : s.size ≤ 1073741824) :
    (Instr.lookup 48 (.map (m (bkt s.data.toList))) (.string s) true).run Try.prog w1 = .ok (.tuple #[(linkT L s.data.toList).agg, .bool (hasT L s.data.toList)]) w1 := by
  have h1 := look_run ((h.below hb).mapO (bkt_lt s.data.toList)) s (by rw [Array.length_toList]; exact hs) true
  have h2 := getT_part h.rises bkt s.data.toList
  unfold linkT hasT at *
  rw [h2] at h1
  exact h1
set_option maxHeartbeats 800000 in
theorem tbget_any {w : World} {p : Nat} {m : Nat → Option Nat} {L : List Ln} (h : Tb w p m L) (s : ByteArray) (hs : s.size ≤ 1073741824) :
    Calls Try.prog 15 #[.pointer (some ⟨p, 0, none⟩), .string s] w fun e w' => e = .returned (.tuple #[(linkT L s.data.toList).agg, .bool (hasT L s.data.toList)]) ∧ Below w.heap.size w w' := by
  obtain ⟨g, hg⟩ : ∃ g, w.heap.size = g := ⟨_, rfl⟩
  have HG := Lib.hid hg
  have HB := Lib.hid (fun w1 => bucket_any s hs w1)
  have HLK : Hid (∀ w1, Below g w w1 → Calls Try.prog 26 #[.pointer (some ⟨p, 0, none⟩), .int .i64 (addS 0 s.data.toList % 8 : Nat)] w1 fun e w' => e = .returned (.map (m (bkt s.data.toList))) ∧ w1 = w') := fun w1 hb => by
    have := tblinks_any (h.below (hg.symm ▸ hb)) ((addS 0 s.data.toList % 8 : Nat) : Int)
    rwa [mAt_bkt] at this
  have HRUN : Hid (∀ w1, Below g w w1 → (Instr.lookup 48 (.map (m (bkt s.data.toList))) (.string s) true).run Try.prog w1 = .ok (.tuple #[.agg #[.string (linkT L s.data.toList).str, .int .u64 ((linkT L s.data.toList).id : Nat), .int .u64 ((linkT L s.data.toList).ver : Nat), .int .i64 (linkT L s.data.toList).line, .int .i64 (linkT L s.data.toList).cl], .bool (hasT L s.data.toList)]) w1) := fun w1 hb => h.look (hg.symm ▸ hb) s hs
  have HZ := Lib.hid zero_link
  obtain ⟨x, hx⟩ : ∃ x, linkT L s.data.toList = x := ⟨_, rfl⟩
  rw [hx] at HRUN ⊢
  have HEB : Hid (∀ (w' : World) (g : Nat), w'.heap[g]? = some (.cells #[.string x.str, .int .u64 (x.id : Nat), .int .u64 (x.ver : Nat), .int .i64 x.line, .int .i64 x.cl] 33 (0, 0)) → LBox w' g x) := fun w' g h => h
  obtain ⟨V, hV⟩ : ∃ V, V = x.agg := ⟨_, rfl⟩
  have HV := Lib.hid hV
  rw [← hV]
  generalize hasT L s.data.toList = hb at *
  generalize m (bkt s.data.toList) = mb at *
  generalize addS 0 s.data.toList % 8 = bk at *
  generalize x.str = x0 at *
  generalize (x.id : Int) = x1 at *
  generalize (x.ver : Int) = x2 at *
  generalize x.line = x3 at *
  generalize x.cl = x4 at *
  clear h hx hV hg
  go_enter Try.func15, Try.ntmps15
  go_wp2_with (first
    | ((with_reducible show wpList _ _ _ (⟨some 4, .alloc _, _, _, _, _⟩ :: _) _ _); refine wpList_alloc_var (o := ⟨some 4, _, _, _, _, _⟩) rfl 33 rfl g HG.out _ HZ.out ?_; intro w1 H1 B1)
    | fail)
  refine (HB.out w1).mono ?_
  rintro e w2 ⟨rfl, hb2⟩
  have hlt1 := lt_of_heap H1.out
  have HB2 : Hid (Below g w w2) := B1.out.trans (hb2.mono (by omega))
  have H2 := Lib.hid ((hb2.block g hlt1).trans H1.out)
  clear hb2 hlt1
  go_wp2_with fail
  refine (HLK.out w2 HB2.out).mono ?_
  rintro e w3 ⟨rfl, rfl⟩
  have HR2 := Lib.hid (HRUN.out w2 HB2.out)
  obtain ⟨g2, hg2⟩ : ∃ g2, w2.heap.size = g2 := ⟨_, rfl⟩
  have HG2 := Lib.hid hg2
  have HL2 : Hid (g < g2) := hg2 ▸ lt_of_heap H2.out
  clear hg2
  go_wp2_with (first
    | (at_lookup; refine wpList_look rfl (.tmp 12) (.tmp 13) 48 true rfl rfl rfl HR2.out ?_)
    | ((with_reducible show wpList _ _ _ (⟨some 6, .alloc _, _, _, _, _⟩ :: _) _ _); refine wpList_alloc_var (o := ⟨some 6, _, _, _, _, _⟩) rfl 33 rfl g2 HG2.out _ HZ.out ?_; intro w3 H3 B3)
    | (((with_reducible show wpList _ _ _ (⟨none, .store _ (.tmp 6) _, _, _, _, _⟩ :: _) _ _); refine wpList_store_whole (o := ⟨none, .store 33 (.tmp 6) (.tmp 15), _, _, _, _⟩) rfl _ _ _ rfl rfl g2 #[.string x0, .int .u64 x1, .int .u64 x2, .int .i64 x3, .int .i64 x4] rfl rfl 33 _ H3.out size_link rfl (onesL _ _ _ _ _) ?_; intro w4 H4 B4); obtain ⟨c0, c1, c2, c3, c4⟩ := cellsL H4.out; have HO := Lib.hid ((B4.out.block g HL2.out).trans ((B3.out.block g HL2.out).trans H2.out)))
    | ((with_reducible show wpList _ _ _ (⟨none, .store _ (.tmp 4) _, _, _, _, _⟩ :: _) _ _); refine wpList_store_whole (o := ⟨none, .store 33 (.tmp 4) (.tmp 17), _, _, _, _⟩) rfl _ _ _ rfl rfl g #[.string x0, .int .u64 x1, .int .u64 x2, .int .i64 x3, .int .i64 x4] rfl rfl 33 _ HO.out size_link rfl (onesL _ _ _ _ _) ?_; intro w5 H5 B5)
    | fail)
  refine bodyPost_ret (results_l2 rfl rfl rfl (HEB.out _ _ H5.out)) rfl ⟨by rw [HV.out]; rfl, ?_⟩
  rw [HG.out]
  exact HB2.out.trans (((B3.out.trans B4.out).mono (Nat.le_of_lt HL2.out)).trans B5.out)

end Go.Proofs.Ytjehklmbgldfpaa
