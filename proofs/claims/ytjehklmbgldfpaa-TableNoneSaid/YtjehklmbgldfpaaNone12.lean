/-
  Proved here: a link that came in; what the functions of package table answer of no table.
  Conditions: none.
-/
import Derived.Test.YtjehklmbgldfpaaTabC
import Derived.Test.YtjehklmbgldfpaaTabE
import Derived.Test.YtjehklmbgldfpaaTabN
import Derived.Test.YtjehklmbgldfpaaTabAl
import Derived.Test.YtjehklmbgldfpaaSumBig
import Derived.Test.YtjehklmbgldfpaaActs12
import Derived.ChangeSame
namespace Go.Proofs.Ytjehklmbgldfpaa
open Go Go.RowKit
set_option maxRecDepth 100000

section
open Go.ChangeShapes Go.WideShapes Go.Deep
set_option maxRecDepth 100000 in
/-- A link that came in, as the walk is told of it. -/
theorem isLink_of {H : Type} {enc : TypeId × Value → H} {w : World} {base b0 : Nat} {spare : Nat → Bool} {held : Bool} {r : Reach} {v : Value} {d : DataW H} {p : List MemPlace}
    (hv : Value.okWide Try.prog w r b0 33 v) (h : DataW.Trod enc Try.prog w base spare held 33 v d p) : ∃ x : Ln, v = x.agg ∧ x.k.length ≤ maxLen := by
  obtain ⟨cs, rfl, hsz⟩ := okWide_struct Try.underlying33 hv
  obtain ⟨fuel, hf⟩ := h
  obtain ⟨x, hx, hk⟩ := link_cells hf
  refine ⟨x, ?_, hk⟩
  rw [Ln.agg_cells]
  congr 1
  apply Array.ext'
  rw [← hx]
  rfl
end
/-- What Get and Drop answer of no table. -/
theorem look_none (s : ByteArray) (hs : s.size ≤ maxLen) (w : World) : (Instr.lookup 48 (.map none) (.string s) true).run Try.prog w = .ok (.tuple #[.agg #[.string ⟨#[]⟩, .int .u64 0, .int .u64 0, .int .i64 0, .int .i64 0], .bool false]) w :=
  Maps.look_nil true str_law Try.underlying48 (Try.zeroValue33 w) (WideMaps.keyOf_string_mk (P := Try.prog) Try.underlying9 hs)
set_option maxHeartbeats 800000 in
theorem tbget_nil (s : ByteArray) (hs : s.size ≤ maxLen) (w : World) :
    Calls Try.prog 15 #[.pointer none, .string s] w fun e w' => e = .returned (.tuple #[.agg #[.string ⟨#[]⟩, .int .u64 0, .int .u64 0, .int .i64 0, .int .i64 0], .bool false]) ∧ Below w.heap.size w w' := by
  obtain ⟨g, hg⟩ : ∃ g, w.heap.size = g := ⟨_, rfl⟩
  have HG := Lib.hid hg
  have HB := Lib.hid (fun w1 => bbucket_any s (by unfold maxLen at hs; omega) w1)
  have HLK := Lib.hid (fun w1 => tblinks_nil ((addS 0 s.data.toList % 8 : Nat) : Int) w1)
  have HRUN := Lib.hid (fun w1 => look_none s hs w1)
  have HZ := Lib.hid zero_link
  have HEZ : Hid (∀ (w' : World) (g : Nat), w'.heap[g]? = some (.cells #[.string ⟨#[]⟩, .int .u64 0, .int .u64 0, .int .i64 0, .int .i64 0] 33 (0, 0)) → LBox w' g Ln.zero) := fun w' g h => h
  generalize addS 0 s.data.toList % 8 = bk at *
  clear hg hs
  go_enter Try.func15, Try.ntmps15
  go_wp2_with (first
    | ((with_reducible show wpList _ _ _ (⟨some 4, .alloc _, _, _, _, _⟩ :: _) _ _); refine wpList_alloc_var (o := ⟨some 4, _, _, _, _, _⟩) rfl 33 rfl g HG.out _ HZ.out ?_; intro w1 H1 B1)
    | fail)
  refine (HB.out w1).mono ?_
  rintro e w2 ⟨rfl, hb2⟩
  have hlt1 := lt_of_heap H1.out
  have HB2 : Hid (Below g w w2) := B1.out.trans (hb2.mono (by omega))
  have H2 := Lib.hid ((hb2.block g hlt1).trans H1.out)
  clear hb2 hlt1
  go_wp2_with fail
  refine (HLK.out w2).mono ?_
  rintro e w3 ⟨rfl, rfl⟩
  have HR2 := Lib.hid (HRUN.out w2)
  obtain ⟨g2, hg2⟩ : ∃ g2, w2.heap.size = g2 := ⟨_, rfl⟩
  have HG2 := Lib.hid hg2
  have HL2 : Hid (g < g2) := hg2 ▸ lt_of_heap H2.out
  clear hg2
  go_wp2_with (first
    | (at_lookup; refine wpList_look rfl (.tmp 12) (.tmp 13) 48 true rfl rfl rfl HR2.out ?_)
    | ((with_reducible show wpList _ _ _ (⟨some 6, .alloc _, _, _, _, _⟩ :: _) _ _); refine wpList_alloc_var (o := ⟨some 6, _, _, _, _, _⟩) rfl 33 rfl g2 HG2.out _ HZ.out ?_; intro w3 H3 B3)
    | (((with_reducible show wpList _ _ _ (⟨none, .store _ (.tmp 6) _, _, _, _, _⟩ :: _) _ _); refine wpList_store_whole (o := ⟨none, .store 33 (.tmp 6) (.tmp 15), _, _, _, _⟩) rfl _ _ _ rfl rfl g2 #[.string ⟨#[]⟩, .int .u64 0, .int .u64 0, .int .i64 0, .int .i64 0] rfl rfl 33 _ H3.out size_link rfl (onesL _ _ _ _ _) ?_; intro w4 H4 B4); obtain ⟨c0, c1, c2, c3, c4⟩ := cellsL H4.out; have HO := Lib.hid ((B4.out.block g HL2.out).trans ((B3.out.block g HL2.out).trans H2.out)))
    | ((with_reducible show wpList _ _ _ (⟨none, .store _ (.tmp 4) _, _, _, _, _⟩ :: _) _ _); refine wpList_store_whole (o := ⟨none, .store 33 (.tmp 4) (.tmp 17), _, _, _, _⟩) rfl _ _ _ rfl rfl g #[.string ⟨#[]⟩, .int .u64 0, .int .u64 0, .int .i64 0, .int .i64 0] rfl rfl 33 _ HO.out size_link rfl (onesL _ _ _ _ _) ?_; intro w5 H5 B5)
    | fail)
  refine bodyPost_ret (results_l2 rfl rfl rfl (HEZ.out _ _ H5.out)) rfl ⟨rfl, ?_⟩
  rw [HG.out]
  exact HB2.out.trans (((B3.out.trans B4.out).mono (Nat.le_of_lt HL2.out)).trans B5.out)
set_option maxHeartbeats 1600000 in
theorem tbdrop_nil (s : ByteArray) (hs : s.size ≤ maxLen) (w : World) :
    Calls Try.prog 13 #[.pointer none, .string s] w fun e w' => e = .returned (.tuple #[.agg #[.string ⟨#[]⟩, .int .u64 0, .int .u64 0, .int .i64 0, .int .i64 0], .bool false]) ∧ Below w.heap.size w w' := by
  obtain ⟨g, hg⟩ : ∃ g, w.heap.size = g := ⟨_, rfl⟩
  have HG := Lib.hid hg
  have HB := Lib.hid (fun w1 => bbucket_any s (by unfold maxLen at hs; omega) w1)
  have HGET := Lib.hid (fun w1 => tbget_nil s hs w1)
  have HLK := Lib.hid (fun w1 => tblinks_nil ((addS 0 s.data.toList % 8 : Nat) : Int) w1)
  have HDEL : Hid (∀ (w5 : World) ty, (Builtin.delete_ #[48, 9] ty #[.map none, .string s]).run Try.prog w5 = .ok (.tuple #[]) w5) := fun w5 ty => Maps.drop_nil str_law Try.underlying48 (WideMaps.keyOf_string_mk (P := Try.prog) Try.underlying9 hs) ty
  have HZ := Lib.hid zero_link
  have HEZ : Hid (∀ (w' : World) (g : Nat), w'.heap[g]? = some (.cells #[.string ⟨#[]⟩, .int .u64 0, .int .u64 0, .int .i64 0, .int .i64 0] 33 (0, 0)) → LBox w' g Ln.zero) := fun w' g h => h
  generalize addS 0 s.data.toList % 8 = bk at *
  clear hg hs
  go_enter Try.func13, Try.ntmps13
  go_wp2_with (first
    | ((with_reducible show wpList _ _ _ (⟨some 4, .alloc _, _, _, _, _⟩ :: _) _ _); refine wpList_alloc_var (o := ⟨some 4, _, _, _, _, _⟩) rfl 33 rfl g HG.out _ HZ.out ?_; intro w1 H1 B1)
    | fail)
  refine (HGET.out w1).mono ?_
  rintro e w2 ⟨rfl, hb2⟩
  have hlt1 := lt_of_heap H1.out
  have HB2 : Hid (Below g w w2) := B1.out.trans (hb2.mono (by omega))
  have H2 := Lib.hid ((hb2.block g hlt1).trans H1.out)
  obtain ⟨g2, hg2⟩ : ∃ g2, w2.heap.size = g2 := ⟨_, rfl⟩
  have HG2 := Lib.hid hg2
  have HL2 : Hid (g < g2) := hg2 ▸ lt_of_heap H2.out
  clear hb2 hlt1 hg2
  go_wp2_with (first
    | ((with_reducible show wpList _ _ _ (⟨some 6, .alloc _, _, _, _, _⟩ :: _) _ _); refine wpList_alloc_var (o := ⟨some 6, _, _, _, _, _⟩) rfl 33 rfl g2 HG2.out _ HZ.out ?_; intro w3 H3 B3)
    | ((with_reducible show wpList _ _ _ (⟨none, .store _ (.tmp 6) _, _, _, _, _⟩ :: _) _ _); refine wpList_store_whole (o := ⟨none, .store 33 (.tmp 6) (.tmp 12), _, _, _, _⟩) rfl _ _ _ rfl rfl g2 #[.string ⟨#[]⟩, .int .u64 0, .int .u64 0, .int .i64 0, .int .i64 0] rfl rfl 33 _ H3.out size_link rfl (onesL _ _ _ _ _) ?_; intro w4 H4 B4)
    | fail)
  have HB4 : Hid (Below g w w4) := HB2.out.trans ((B3.out.trans B4.out).mono (Nat.le_of_lt HL2.out))
  have HO4 := Lib.hid ((B4.out.block g HL2.out).trans ((B3.out.block g HL2.out).trans H2.out))
  refine (HB.out w4).mono ?_
  rintro e w5 ⟨rfl, hb5⟩
  have hlt4 := lt_of_heap H4.out
  have hlo4 := lt_of_heap HO4.out
  have HB5 : Hid (Below g w w5) := HB4.out.trans (hb5.mono (by omega))
  have H5 := Lib.hid ((hb5.block g2 hlt4).trans H4.out)
  have HO5 := Lib.hid ((hb5.block g hlo4).trans HO4.out)
  clear hb5 hlt4 hlo4
  go_wp2_with fail
  refine (HLK.out w5).mono ?_
  rintro e w5' ⟨rfl, rfl⟩
  have HR6 := Lib.hid (HDEL.out w5 0)
  obtain ⟨c0, c1, c2, c3, c4⟩ := cellsL H5.out
  go_wp2_with (first
    | (at_delete; refine wpList_del rfl (.tmp 17) (.tmp 18) 48 9 rfl rfl rfl HR6.out ?_)
    | ((with_reducible show wpList _ _ _ (⟨none, .store _ (.tmp 4) _, _, _, _, _⟩ :: _) _ _); refine wpList_store_whole (o := ⟨none, .store 33 (.tmp 4) (.tmp 19), _, _, _, _⟩) rfl _ _ _ rfl rfl g #[.string ⟨#[]⟩, .int .u64 0, .int .u64 0, .int .i64 0, .int .i64 0] rfl rfl 33 _ HO5.out size_link rfl (onesL _ _ _ _ _) ?_; intro w7 H7 B7)
    | fail)
  refine bodyPost_ret (results_l2 rfl rfl rfl (HEZ.out _ _ H7.out)) rfl ⟨rfl, ?_⟩
  rw [HG.out]
  exact HB5.out.trans B7.out
theorem tball_nil (w : World) : Calls Try.prog 20 #[.pointer none] w (AllTo [] w) := tball_of (nil_bks w) (Nat.zero_le _)
theorem tblen_nil (w : World) : Calls Try.prog 19 #[.pointer none] w fun e w' => e = .returned (.int .i64 0) ∧ w = w' := tblen_of (nil_bks w) (Nat.zero_le _)
theorem tbnext_none (w : World) (b : Int) (s : ByteArray) (past : Bool) : Calls Try.prog 17 #[.pointer none, .int .i64 b, .string s, .bool past] w fun e w' => e = .returned (.tuple #[.agg #[.string ⟨#[]⟩, .int .u64 0, .int .u64 0, .int .i64 0, .int .i64 0], .bool false]) ∧ Below w.heap.size w w' := tbnext_nil w b s past

end Go.Proofs.Ytjehklmbgldfpaa
