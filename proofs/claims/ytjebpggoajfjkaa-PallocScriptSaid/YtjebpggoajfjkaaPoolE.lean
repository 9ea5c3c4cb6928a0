/-
  Proved here: how rows of blocks lie in memory, and what package palloc's Taken answers and leaves.
  Conditions: none.
-/
import Derived.Test.YtjebpggoajfjkaaPoolD
namespace Go.Proofs.Ytjebpggoajfjkaa
open Go Go.RowKit

/-- Blocks as cells. -/
def encT (l : List Tk) : List Value := l.flatMap fun t => [.int .i64 t.1, .int .i64 t.2]
theorem encT_len (l : List Tk) : (encT l).length = l.length * 2 := by
  induction l with
  | nil => rfl
  | cons t r ih =>
    simp only [encT, List.flatMap_cons, List.length_append, List.length_cons, List.length_nil] at ih ⊢
    omega
theorem encT_append (a b : List Tk) : encT a ++ encT b = encT (a ++ b) := by simp [encT]
theorem encT_one {l : List Tk} : ∀ u ∈ encT l, u.oneCell' = true := by
  intro u hu
  simp only [encT, List.mem_flatMap, List.mem_cons, List.not_mem_nil, or_false] at hu
  obtain ⟨t, _, rfl | rfl⟩ := hu
  · rfl
  · rfl
theorem encT_at {l : List Tk} {i : Nat} {t : Tk} (h : l[i]? = some t) : (encT l)[i * 2]? = some (.int .i64 t.1) ∧ (encT l)[i * 2 + 1]? = some (.int .i64 t.2) := by
  induction l generalizing i with
  | nil => cases h
  | cons u r ih =>
    cases i with
    | zero =>
      obtain rfl : u = t := by simpa using h
      exact ⟨rfl, rfl⟩
    | succ i =>
      have := ih (i := i) (by simpa using h)
      rw [show (i + 1) * 2 = i * 2 + 1 + 1 by omega, show (i * 2 + 1 + 1 + 1) = (i * 2 + 1) + 1 + 1 by omega]
      exact this
theorem encT_set {l : List Tk} {i : Nat} (hi : i < l.length) (a b : Int) : ((encT l).set (i * 2) (.int .i64 a)).set (i * 2 + 1) (.int .i64 b) = encT (l.set i (a, b)) := by
  induction l generalizing i with
  | nil => cases hi
  | cons u r ih =>
    cases i with
    | zero => rfl
    | succ i =>
      have := ih (i := i) (by simpa using hi)
      rw [show (i + 1) * 2 = i * 2 + 1 + 1 by omega, show (i * 2 + 1 + 1 + 1) = (i * 2 + 1) + 1 + 1 by omega]
      simp only [encT, List.flatMap_cons, List.cons_append, List.nil_append, List.set_cons_succ] at this ⊢
      rw [this]
/-- The slice at A holds the blocks l. -/
def RowT (w : World) (A : Option Addr) (l : List Tk) : Prop :=
  l.length ≤ 67108864 ∧ (0 < l.length → ∃ b off, A = some ⟨b, off, none⟩ ∧ b < w.heap.size ∧ ∀ i t, l[i]? = some t → w.cell? ⟨b, off + i * 2, none⟩ = some (.int .i64 t.1) ∧ w.cell? ⟨b, off + i * 2 + 1, none⟩ = some (.int .i64 t.2))
theorem rowT_nil (w : World) (A : Option Addr) : RowT w A [] := ⟨by simp, fun h => by simp at h⟩
theorem RowT.below {w w' : World} {A : Option Addr} {l : List Tk} (h : RowT w A l) (hb : Below w.heap.size w w') : RowT w' A l :=
  ⟨h.1, fun hl => by
    obtain ⟨b, off, e, hlt, hc⟩ := h.2 hl
    exact ⟨b, off, e, Nat.lt_of_lt_of_le hlt hb.size, fun i t ht => ⟨(hb.cell (p := ⟨b, off + i * 2, none⟩) hlt).trans (hc i t ht).1, (hb.cell (p := ⟨b, off + i * 2 + 1, none⟩) hlt).trans (hc i t ht).2⟩⟩⟩
theorem RowT.same {w w' : World} {A : Option Addr} {l : List Tk} (h : RowT w A l) (hs : w.heap.size ≤ w'.heap.size) (hb : ∀ x, A = some x → w'.heap[x.block]? = w.heap[x.block]?) : RowT w' A l :=
  ⟨h.1, fun hl => by
    obtain ⟨b, off, e, hlt, hc⟩ := h.2 hl
    have hbl := hb ⟨b, off, none⟩ e
    exact ⟨b, off, e, Nat.lt_of_lt_of_le hlt hs, fun i t ht => ⟨(World.cell?_of_block (w := w) (a := ⟨b, off + i * 2, none⟩) hbl).trans (hc i t ht).1, (World.cell?_of_block (w := w) (a := ⟨b, off + i * 2 + 1, none⟩) hbl).trans (hc i t ht).2⟩⟩⟩
theorem rowT_of_own {w : World} {base n : Nat} {v : Value} {l : List Tk} (h : w.ownsRow base 52 2 v n (encT l)) (hl : l.length ≤ 67108864) : l.length = n ∧ ∃ A cap, v = .slice A n cap ∧ RowT w A l ∧ (A = none → cap = 0) ∧ ∀ x, A = some x → base ≤ x.block := by
  have hn : l.length = n := by have := h.1; rw [encT_len] at this; omega
  refine ⟨hn, ?_⟩
  rcases h.2 with ⟨e, e0⟩ | ⟨g, cap, cur, e, hge, hh, _⟩
  · have h0 : l = [] := List.eq_nil_of_length_eq_zero (by omega)
    subst h0
    exact ⟨none, 0, by rw [e, e0], rowT_nil _ _, fun _ => rfl, fun x hx => by cases hx⟩
  · refine ⟨_, _, e, ⟨hl, fun hpos => ⟨g, 0, rfl, lt_of_heap hh, fun i t ht => ?_⟩⟩, (fun h => by cases h), (fun x hx => by cases hx; exact hge)⟩
    have h1 := h.cells (g := g) (by rw [e]; rfl) (i * 2) _ (encT_at ht).1
    have h2 := h.cells (g := g) (by rw [e]; rfl) (i * 2 + 1) _ (encT_at ht).2
    rw [add_plain] at h1 h2
    exact ⟨h1, by rw [Nat.add_assoc]; exact h2⟩
theorem taken_info : (Try.prog.info? 52).map (fun i => (i.zero, i.size, i.bytes)) = some (some (.agg #[.int .i64 0, .int .i64 0]), 2, 16) := by kernel_rfl
theorem taken_info' : ∃ i, Try.prog.info? 52 = some i ∧ i.zero = some (.agg #[.int .i64 0, .int .i64 0]) ∧ i.size = 2 ∧ i.bytes = 16 := by
  obtain ⟨i, h1, h2⟩ := Option.map_eq_some_iff.1 taken_info
  simp only [Prod.mk.injEq] at h2
  exact ⟨i, h1, h2.1, h2.2.1, h2.2.2⟩
/-- One block put behind a row that the call made. -/
theorem run_appT_one (w : World) (base : Nat) (v : Value) (l : List Tk) (x c : Int) (hown : w.ownsRow base 52 2 v l.length (encT l)) (hl : l.length < 67108864) (hbase : base ≤ w.heap.size) :
    ∃ v' w', (Builtin.append_ #[47, 47] 47 #[v, .slice (some ⟨w.heap.size, 0, none⟩) 1 1]).run Try.prog (w.alloc (.cells #[.int .i64 x, .int .i64 c] 52)) = .ok v' w' ∧ w'.ownsRow base 52 2 v' (l ++ [(x, c)]).length (encT (l ++ [(x, c)])) ∧ Below base w w' ∧ (v'.ownBlock = v.ownBlock ∨ v'.ownBlock = some (w.heap.size + 1)) ∧ ∀ k, k < w.heap.size → v.ownBlock ≠ some k → w'.heap[k]? = w.heap[k]? := by
  obtain ⟨i, hi, hz, hs, hy⟩ := taken_info'
  obtain ⟨v', w', h1, h2, h3, _, h4⟩ := run_append_own_at (P := Try.prog) (w.alloc (.cells #[.int .i64 x, .int .i64 c] 52)) base 47 47 52 i _ 2 16 Try.underlying47 hi hz hs hy rfl (by omega) v l.length (encT l) (own_alloc hown _) ⟨w.heap.size, 0, none⟩ 1 1 (encT [(x, c)]) rfl
    (fun j u hu => by
      rw [add_plain]
      match j, hu with
      | 0, hu => replace hu : some (Value.int .i64 x) = some u := hu; rw [← hu]; simp
      | 1, hu => replace hu : some (Value.int .i64 c) = some u := hu; rw [← hu]; simp
      | j + 2, hu => simp [encT] at hu) encT_one (by unfold maxLen; omega) (by omega) (by simp; omega)
  refine ⟨v', w', h1, ?_, ((Below.refl _ _).alloc hbase _).grown h3 (by simp; omega) (own_ge hown), ?_, fun k hk hne => (h3.block k (by simp; omega) (fun e => hne e.symm)).trans (Below.heap_alloc _ _ _ hk)⟩
  · rw [← encT_append, List.length_append]
    exact h2
  · simpa using h4
theorem index_eight (l : List Bool) (hl : l.length = 8) (j : Nat) (hj : j < 8) (w : World) : (Instr.index 68 (.agg (encB l).toArray) (.int .i64 (j : Int))).run Try.prog w = .ok (.bool (l.getD j false)) w := by
  match l, hl with
  | [b0, b1, b2, b3, b4, b5, b6, b7], _ =>
    match j, hj with
    | 0, _ => show _ = _; kernel_rfl
    | 1, _ => show _ = _; kernel_rfl
    | 2, _ => show _ = _; kernel_rfl
    | 3, _ => show _ = _; kernel_rfl
    | 4, _ => show _ = _; kernel_rfl
    | 5, _ => show _ = _; kernel_rfl
    | 6, _ => show _ = _; kernel_rfl
    | 7, _ => show _ = _; kernel_rfl
/-- The blocks ahead of line x. -/
def upTo (L : List Tk) (x : Int) : List Tk := L.filter fun t => decide (t.1 < x)
theorem mem_upTo {L : List Tk} {x : Int} {t : Tk} : t ∈ upTo L x ↔ t ∈ L ∧ t.1 < x := by simp [upTo]
theorem upTo_le (L : List Tk) (x : Int) : (upTo L x).length ≤ L.length := List.length_filter_le _ _
theorem rising_upTo {L : List Tk} (h : Rising L) (x : Int) : Rising (upTo L x) := List.Pairwise.filter _ h
theorem upTo_none {L : List Tk} {x : Int} (e : ofL L x = none) : upTo L (x + 1) = upTo L x := by
  unfold upTo
  refine List.filter_congr fun t ht => ?_
  have := ofL_none.1 e t ht
  rw [decide_eq_decide]
  omega
theorem upTo_some {L : List Tk} (h : Rising L) {x c : Int} (e : ofL L x = some c) : upTo L (x + 1) = upTo L x ++ [(x, c)] := by
  have hm := (ofL_some h).1 e
  refine rising_ext (rising_upTo h _) ?_ fun u => ?_
  · refine List.pairwise_append.2 ⟨rising_upTo h _, by simp, fun a ha b hb => ?_⟩
    obtain rfl : b = (x, c) := by simpa using hb
    exact (mem_upTo.1 ha).2
  · rw [List.mem_append, mem_upTo, mem_upTo, List.mem_singleton]
    constructor
    · rintro ⟨h1, h2⟩
      rcases Classical.em (u.1 = x) with h3 | h3
      · exact .inr (rising_one h h1 hm h3)
      · exact .inl ⟨h1, by omega⟩
    · rintro (⟨h1, h2⟩ | rfl)
      · exact ⟨h1, by omega⟩
      · exact ⟨hm, by show x < x + 1; omega⟩
theorem upTo_first {n : Nat} {L : List Tk} (h : Pool7 n L) : upTo L 2 = [] := by
  unfold upTo
  rw [List.filter_eq_nil_iff]
  intro t ht
  have := (mem_starts (home_starts (h.home t ht))).2.2.2.2.1
  have := (home_cls (h.home t ht)).1
  simp
  omega
theorem upTo_last {n : Nat} {L : List Tk} (h : Pool7 n L) : upTo L (2 + 8 * (n : Int)) = L := by
  unfold upTo
  rw [List.filter_eq_self]
  intro t ht
  have h1 := h.slab t ht
  have h2 := (home_cls (h.home t ht)).1
  have h3 := (slabOfN_in (x := t.1) (by omega)).2.2
  simp
  omega
/-- A rising row of lines within n slabs is not long. -/
theorem rising_len {L : List Tk} (h : Rising L) (a : Int) (m : Nat) (hl : ∀ t ∈ L, a ≤ t.1 ∧ t.1 < a + m) : L.length ≤ m := by
  induction L generalizing a m with
  | nil => simp
  | cons t r ih =>
    have h1 := List.pairwise_cons.1 h
    obtain ⟨h2, h3⟩ := hl t (by simp)
    have := ih h1.2 (t.1 + 1) (a + m - (t.1 + 1)).toNat (fun u hu => by
      have h4 := h1.1 u hu
      have h5 := (hl u (by simp [hu])).2
      omega)
    rw [List.length_cons]
    omega
theorem pool_len {n : Nat} {L : List Tk} (h : Pool7 n L) : L.length ≤ 8 * n := rising_len h.rising 2 (8 * n) fun t ht => by
  have h1 := h.slab t ht
  have h2 := (home_cls (h.home t ht)).1
  have h3 := slabOfN_in (x := t.1) (by omega)
  omega
def RowToT (w : World) (l : List Tk) (e : Ending) (w' : World) : Prop := ∃ v, e = .returned v ∧ w'.ownsRow w.heap.size 52 2 v l.length (encT l) ∧ Below w.heap.size w w'
set_option maxHeartbeats 1600000 in
theorem taken_any {w : World} {p q n : Nat} {L : List Tk} (h : PlP w p q n L) : Calls Try.prog 25 #[.pointer (some ⟨p, 0, none⟩)] w (RowToT w L) := by
  have hn := h.most
  have HP := Lib.hid h
  have hsl := h.slice
  have HRU : Hid (∀ v w', w'.ownsRow w.heap.size 52 2 v (upTo L (2 + 8 * (n : Int))).length (encT (upTo L (2 + 8 * (n : Int)))) → Below w.heap.size w w' → RowToT w L (.returned v) w') := fun v w' a b => ⟨v, rfl, by rw [upTo_last h.pool] at a; exact a, b⟩
  obtain ⟨R, hR⟩ : ∃ R, RowToT w L = R := ⟨_, rfl⟩
  rw [hR] at HRU ⊢
  obtain ⟨g, hg⟩ : ∃ g, w.heap.size = g := ⟨_, rfl⟩
  rw [hg] at HRU
  have HG := Lib.hid hg
  have HLE : Hid (∀ x, (upTo L x).length ≤ 256) := fun x => by have := upTo_le L x; have := pool_len h.pool; omega
  have HU0 := Lib.hid (upTo_first h.pool)
  clear hR h hg
  go_enter Try.func25, Try.ntmps25
  go_wp2
  clear hsl
  go_loopg [3, 16] n (fun gk s3 s16 wx => ∃ (i : Nat) (V : Value), i + gk = n ∧ s16 = .int .i64 i ∧ V = s3 ∧ Hid (wx.ownsRow g 52 2 V (upTo L (2 + 8 * (i : Int))).length (encT (upTo L (2 + 8 * (i : Int))))) ∧ Hid (Below g w wx))
  case atStart => exact ⟨0, _, by omega, rfl, rfl, (by rw [show 2 + 8 * ((0 : Nat) : Int) = 2 by omega, HU0.out]; exact World.ownsRow_nil _ _ _ _), Below.refl _ _⟩
  case round =>
    obtain ⟨i, V, hin, rfl, rfl, HO, HW⟩ := hrel
    have HPr : Hid (PlP wr p q n L) := HP.out.below (HG.out ▸ HW.out)
    cases gk with
    | zero =>
      obtain rfl : i = n := by omega
      have hii : ¬ (i : Int) < (i : Int) := by omega
      go_wp2
      exact HRU.out _ _ HO.out HW.out
    | succ go =>
      have hii : (i : Int) < (n : Int) := by omega
      have hi : i < n := by omega
      have hsl := HPr.out.slice
      have HSB := Lib.hid (fun w' => slab_any i w')
      have hsb : slabN i = 2 + 8 * (i : Int) := by unfold slabN; rw [if_pos (by omega)]
      rw [hsb] at HSB
      obtain ⟨l, hl8, hrg, _⟩ := HPr.out.row hi
      have HRG := Lib.hid hrg
      have HL8 := Lib.hid hl8
      have HLT : Hid (∀ j : Nat, j < 8 → l.getD j false = (ofL L (2 + 8 * (i : Int) + j)).isSome) := fun j hj => by
        have h1 := hrg j _ (encB_at l j (by omega))
        rw [HPr.out.taken hi hj] at h1
        injection h1 with h1
        injection h1 with h1
        exact h1.symm
      clear hsb hrg hl8
      go_wp2
      go_quiet ((go_at_call 51; exact (HSB.out _).mono fun _ _ hh => ⟨hh.1, _, hh.2.symm⟩))
      clear hsl
      go_wp2_with ((with_reducible show wpList _ _ _ (⟨some 30, _, _, _, _, _⟩ :: _) _ _); refine wpList_load_agg (o := ⟨some 30, _, _, _, _, _⟩) rfl 68 (.tmp 29) rfl q (i * 9) rfl (encB l) _ HRG.out Try.underlying68 rfl (by rw [encB_len, HL8.out]; exact size_eight) ?_)
      go_loopg [3, 31] 8 (fun gk s3 s31 wx => ∃ (j : Nat) (V : Value), j + gk = 8 ∧ s31 = .int .i64 j ∧ V = s3 ∧ Hid (wx.ownsRow g 52 2 V (upTo L (2 + 8 * (i : Int) + j)).length (encT (upTo L (2 + 8 * (i : Int) + j)))) ∧ Hid (Below g w wx))
      case atStart => exact ⟨0, V, by omega, rfl, rfl, (by rw [show 2 + 8 * (i : Int) + ((0 : Nat) : Int) = 2 + 8 * (i : Int) by omega]; exact HO), below_drewN HW.out nq⟩
      case round =>
        obtain ⟨j, V2, hjn, rfl, rfl, HO2, HW2⟩ := hrel
        cases gk with
        | zero =>
          obtain rfl : j = 8 := by omega
          go_wp2
          go_roundg go
          case measure => omega
          case rel => exact ⟨i + 1, V2, by omega, by go_num, rfl, (by rw [show 2 + 8 * ((i + 1 : Nat) : Int) = 2 + 8 * (i : Int) + ((8 : Nat) : Int) by omega]; exact HO2), HW2⟩
        | succ gk =>
          have hjj : (j : Int) < 8 := by omega
          have hj : j < 8 := by omega
          have hix : ∀ w' : World, (Instr.index 68 (.agg (encB l).toArray) (.int .i64 (j : Int))).run Try.prog w' = .ok (.bool (l.getD j false)) w' := index_eight l HL8.out j hj
          have HPr2 : Hid (PlP wr p q n L) := HP.out.below (HG.out ▸ HW2.out)
          have hlt := HLT.out j hj
          rw [hlt] at hix
          obtain ⟨z, hz, hc⟩ := HPr2.out.cls hi
          cases e : ofL L (2 + 8 * (i : Int) + j) with
          | none =>
            rw [e] at hix
            replace hix : ∀ w' : World, (Instr.index 68 (.agg (encB l).toArray) (.int .i64 (j : Int))).run Try.prog w' = .ok (.bool false) w' := hix
            have HUP := Lib.hid (upTo_none e)
            clear hlt e hz hc
            go_wp2
            go_roundg gk
            case measure => omega
            case rel => exact ⟨j + 1, V2, by omega, by go_num, rfl, (by rw [show 2 + 8 * (i : Int) + ((j + 1 : Nat) : Int) = 2 + 8 * (i : Int) + (j : Int) + 1 by omega, HUP.out]; exact HO2), HW2⟩
          | some c =>
            rw [e] at hix
            replace hix : ∀ w' : World, (Instr.index 68 (.agg (encB l).toArray) (.int .i64 (j : Int))).run Try.prog w' = .ok (.bool true) w' := hix
            have HUP := Lib.hid (upTo_some HP.out.pool.rising e)
            have h1 := of_cls HP.out.pool e
            have h2 := (home_cls (HP.out.pool.home _ ((ofL_some HP.out.pool.rising).1 e))).2.2
            rw [line_slab (by omega) hj] at h1
            obtain rfl : z = c := by rw [hc (by omega)]; exact h1
            obtain ⟨V3, w3, hrun, ho3, hb3, _⟩ := run_appT_one wr g V2 _ (2 + 8 * (i : Int) + j) z HO2.out (by have := HLE.out (2 + 8 * (i : Int) + j); omega) (by have := HG.out; have := HW2.out.size; omega)
            have HRUN := Lib.hid hrun
            have HO3 := Lib.hid ho3
            have HB3 := Lib.hid hb3
            clear hlt e hc h1 h2 hrun ho3 hb3
            go_wp2_with (at_builtin; refine wpList_app rfl (.tmp 36) (.tmp 45) 47 rfl rfl rfl HRUN.out ?_)
            go_roundg gk
            case measure => omega
            case rel => exact ⟨j + 1, V3, by omega, by go_num, rfl, (by rw [show 2 + 8 * (i : Int) + ((j + 1 : Nat) : Int) = 2 + 8 * (i : Int) + (j : Int) + 1 by omega, HUP.out]; exact HO3), HW2.out.trans HB3.out⟩

end Go.Proofs.Ytjebpggoajfjkaa
