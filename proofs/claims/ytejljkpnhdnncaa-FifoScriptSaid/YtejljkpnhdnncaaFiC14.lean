/-
  Proved here: what the ring's grow leaves.
  Conditions: at most 2,040 places.
-/
import Derived.Test.YtejljkpnhdnncaaFiB14
import Derived.Test.YtejljkpnhdnncaaStepCall
import Derived.Deep.RegionWith
import Derived.Lib.AppendZerosOnto
import Derived.Deep.RegionLaw
import Derived.Shelf.Abstract
namespace Go.Proofs.Ytejljkpnhdnncaa
open Go Go.RowKit
set_option maxRecDepth 100000

theorem zerosL_list (n : Nat) : (Builtin.zeroCells (Value.agg #[.string ⟨#[]⟩, .int .u64 0, .int .u64 0, .int .i64 0, .int .i64 0]).cells n).toList = encL (List.replicate n Ln.zero) := by
  rw [← madeL_list]
  rfl
theorem run_growL (w : World) (B g n k : Nat) (l : List Ln) (hn : l.length = n) (hown : w.ownsRow B 29 5 (.slice (some ⟨g, 0, none⟩) n n) n (encL l)) (hk : 0 < k) (hs : n + k ≤ 1048576) (ty : TypeId) :
    ∃ G w', (Builtin.append_ #[22, 3] ty #[.slice (some ⟨g, 0, none⟩) n n, .int .i64 (k : Nat)]).run Try.prog w = .ok (.slice (some ⟨w.heap.size, 0, none⟩) (n + k) G) w' ∧
      w'.ownsRow w.heap.size 29 5 (.slice (some ⟨w.heap.size, 0, none⟩) (n + k) G) (n + k) (encL (l ++ List.replicate k Ln.zero)) ∧ Below w.heap.size w w' := by
  obtain ⟨inf, hinf, hz, hs5, hby⟩ := link_info'
  have hold : (Builtin.firstCells inf.size n (.slice (some ⟨g, 0, none⟩) n n)).run Try.prog w.drew = .ok (encL l).toArray w.drew := by
    rw [hs5]
    exact run_firstCells_some w.drew 5 n ⟨g, 0, none⟩ n n (encL l) (by rw [encL_len, hn]) (fun j u hj => hown.cells (g := g) rfl j u hj)
  have h := Lib.run_append_grow_zeros w 22 3 ty 29 inf _ .i64 .i64 Try.underlying22 Try.underlying3 hinf hz (some ⟨g, 0, none⟩) n n (encL l) hold k hk (by omega) (by omega) (by omega) (by rw [hby]; omega) (by rw [hby]; exact growslice_fits (by omega) (by omega))
  have hGn : n + k ≤ grownCap w (n + k) n 29 := grownCap_ge w _ _ _
  have hGm : grownCap w (n + k) n 29 ≤ maxLen := grownCap_le_maxLen w (n + k) n _ (by unfold maxLen; omega)
  generalize grownCap w (n + k) n 29 = G at *
  refine ⟨G, _, h, ?_, (Below.refl _ _).drew.alloc (Nat.le_refl _) _⟩
  obtain ⟨ROW, hROW⟩ : ∃ ROW : Array Value, (encL l).toArray ++ Builtin.zeroCells (Value.agg #[.string ⟨#[]⟩, .int .u64 0, .int .u64 0, .int .i64 0, .int .i64 0]).cells k ++ Builtin.zeroCells (Value.agg #[.string ⟨#[]⟩, .int .u64 0, .int .u64 0, .int .i64 0, .int .i64 0]).cells (G - (n + k)) = ROW := ⟨_, rfl⟩
  have hRl : ROW.toList = encL (l ++ List.replicate k Ln.zero) ++ encL (List.replicate (G - (n + k)) Ln.zero) := by
    rw [← hROW, Array.toList_append, Array.toList_append, zerosL_list, zerosL_list, ← encL_append]
  have hRs : ROW.size = G * 5 := by
    rw [← Array.length_toList, hRl, List.length_append, encL_len, encL_len]
    simp
    omega
  rw [hROW]
  have hll : (encL (l ++ List.replicate k Ln.zero)).length = (n + k) * 5 := by rw [encL_len]; simp [hn]
  refine ⟨hll, .inr ⟨w.heap.size, G, ROW, rfl, Nat.le_refl _, heap_alloc_new w.drew _, hGn, hGm, hRs, ?_⟩⟩
  rw [hRl, ← hll, List.take_left]
theorem Fi.fresh {w w3 : World} {p f n b G : Nat} {v : Value} {P P' L : List Ln} (h : Fi w p v f P L) (hb : Below w.heap.size w w3) (hbb : w.heap.size ≤ b) (ho : w3.ownsRow b 29 5 (.slice (some ⟨b, 0, none⟩) n G) n (encL P')) (hn : P'.length = n) (hr : Ring P' 0 L) (hs : n ≤ 4095) :
    Fi ((w3.setCell ⟨p, 0, none⟩ (.slice (some ⟨b, 0, none⟩) n G)).setCell ⟨p, 1, none⟩ (.int .i64 0)) p (.slice (some ⟨b, 0, none⟩) n G) 0 P' L ∧ Stay (fiOwn p v) w ((w3.setCell ⟨p, 0, none⟩ (.slice (some ⟨b, 0, none⟩) n G)).setCell ⟨p, 1, none⟩ (.int .i64 0)) ∧
      ∀ k, fiOwn p (.slice (some ⟨b, 0, none⟩) n G) k → fiOwn p v k ∨ w.heap.size ≤ k := by
  have hp : p < w.heap.size := lt_of_heap h.mem
  have hm3 := (hb.block p hp).trans h.mem
  have h1 := heap_setCell_same w3 p 0 _ _ (.slice (some ⟨b, 0, none⟩) n G) hm3
  have h2 := heap_setCell_same _ p 1 _ _ (.int .i64 0) h1
  subst hn
  refine ⟨⟨by simpa using h2, own_mono (own_same ho fun k hk => ?_) (Nat.zero_le _), hr, fun e => ?_, hs⟩, ?_, fun k hk => ?_⟩
  · cases hk
    rw [Below.heap_setCell _ _ _ _ (show b ≠ p by omega), Below.heap_setCell _ _ _ _ (show b ≠ p by omega)]
  · exact absurd (show b = p from Option.some.inj e) (by omega)
  · exact ((Stay.of_below hb).trans (Stay.setCell _ p 0 _ (.inl rfl))).trans (Stay.setCell _ p 1 _ (.inl rfl))
  · rcases hk with rfl | e
    · exact .inl (.inl rfl)
    · cases e
      exact .inr hbb
/-- What grow leaves. -/
def GrowTo (w : World) (p : Nat) (v : Value) (n : Nat) (L : List Ln) (w' : World) : Prop :=
  ∃ v', Fi w' p v' 0 (L ++ List.replicate (n + 1) Ln.zero) L ∧ Stay (fiOwn p v) w w' ∧ ∀ k, fiOwn p v' k → fiOwn p v k ∨ w.heap.size ≤ k
set_option maxHeartbeats 1600000 in
set_option maxRecDepth 100000 in
theorem rgrow_any {w : World} {p f : Nat} {v : Value} {P L : List Ln} (h : Fi w p v f P L) (hl : P.length ≤ 2040) (hfull : L.length = P.length) :
    Calls Try.prog 21 #[.pointer (some ⟨p, 0, none⟩)] w fun e w' => e = .returned (.tuple #[]) ∧ GrowTo w p v P.length L w' := by
  obtain ⟨m, hm⟩ : ∃ m, P.length = m := ⟨_, rfl⟩
  have HC := Lib.hid (rall_any (w := w.drew) (h.below (Below.refl _ _).drew))
  obtain ⟨g, hg⟩ : ∃ g, w.heap.size = g := ⟨_, rfl⟩
  unfold AllN at HC
  rw [show w.drew.heap.size = g from hg, hfull, hm] at HC
  rw [hm] at hl ⊢
  obtain ⟨A, cap, hv, _, _⟩ := h.reads
  rw [hm] at hv
  obtain ⟨c0, c1, c2⟩ := h.cells
  rw [hv] at c0
  have c0d : w.drew.cell? ⟨p, 0, none⟩ = some (.slice A m cap) := c0
  have hpg : p < g := hg ▸ h.lt (.inl rfl)
  have HPG := Lib.hid hpg
  have HH := Lib.hid h
  have HG := Lib.hid hg
  have HE : Hid (∀ args w, (callFunc 19 args).run Try.prog w = .ok (.enter 19 args) w) := enters_of Try.func19 (by kernel_rfl) rfl
  have HLM : Hid (L.length = m) := hfull.trans hm
  have hw1 : IntKind.i64.wrap ((m : Int) + 1) = (m : Int) + 1 := by rw [IntKind.wrap_i64]; omega
  have HML : Hid (m ≤ 2040) := hl
  clear h hg hfull hm hv
  go_enter Try.func21, Try.ntmps21
  go_wp2
  go_region_law (first
    | (refine step_callR rfl 19 #[.tmp 3] #[46] rfl #[.pointer (some ⟨p, 0, none⟩)] (by simp [Act.eval, Act.put]) HE.out HC.out ?_; rintro e w2 ⟨b, rfl, ho, hb2⟩; refine ⟨_, rfl, ?_⟩; have e0 : w2.cell? ⟨p, 0, none⟩ = some (.slice A m cap) := (hb2.cell (p := ⟨p, 0, none⟩) hpg).trans c0d; obtain ⟨G, w3, e1, e2, e3⟩ := run_growL w2 g b m (m + 1) L HLM.out ho (by omega) (by omega) 22; have E1 := Lib.hid e1; have E2 := Lib.hid e2; have HB2 : Hid (Below g w w2) := (Below.refl _ _).drew.trans hb2; have HB3 : Hid (Below g w w3) := ((Below.refl _ _).drew.trans hb2).trans (e3.mono (HG.out ▸ hb2.size)); have e4 : w3.cell? ⟨p, 0, none⟩ = some (.slice A m cap) := (HB3.out.cell (p := ⟨p, 0, none⟩) hpg).trans c0; have f4 : w3.frozen? ⟨p, 0, none⟩ = false := ((HH.out.below (HG.out.symm ▸ HB3.out)).frozen 0); clear e1 e2 ho)
    | (refine step_appz rfl (.tmp 4) (.tmp 10) 22 3 rfl (by simp [Act.eval, Act.put]) (by simp [Act.eval, Act.put]) E1.out ?_))
  all_goals
    have e5 : (w3.setCell ⟨p, 0, none⟩ (.slice (some ⟨w2.heap.size, 0, none⟩) (m + (m + 1)) G)).cell? ⟨p, 1, none⟩ = some (.int .i64 (f : Nat)) := (World.cell?_setCell_other _ _ _ _ (by simp)).trans ((HB3.out.cell (p := ⟨p, 1, none⟩) hpg).trans c1)
    have f5 : (w3.setCell ⟨p, 0, none⟩ (.slice (some ⟨w2.heap.size, 0, none⟩) (m + (m + 1)) G)).frozen? ⟨p, 1, none⟩ = false := by rw [World.frozen?_setCell]; exact (HH.out.below (HG.out.symm ▸ HB3.out)).frozen 1
    go_wp2
    refine bodyPost_end (results_none rfl _ _ _) rfl ?_
    refine ⟨rfl, _, HH.out.fresh (HG.out.symm ▸ HB3.out) HB2.out.size E2.out (by simp [HLM.out]) ?_ (by have := HML.out; omega)⟩
    exact Ring.grown L m

end Go.Proofs.Ytejljkpnhdnncaa
