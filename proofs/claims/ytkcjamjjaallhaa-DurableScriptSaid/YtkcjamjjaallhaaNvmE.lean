/-
  Proved here: what package nvm's New and Fence answer and leave.
  Conditions: a device of at most 258 lines.
-/
import Derived.Test.YtkcjamjjaallhaaNvmD
namespace Go.Proofs.Ytkcjamjjaallhaa
open Go Go.RowKit

def Cl.zero : Cl := ⟨zeros64, zeros64, zeros64, false⟩
theorem Cl.zero_ok : Cl.zero.ok := ⟨zeros64_len, zeros64_len, zeros64_len⟩
def fresh (n : Nat) : List Cl := List.replicate n Cl.zero
theorem fresh_oks (n : Nat) : Oks (fresh n) := fun c hc => by rw [List.eq_of_mem_replicate hc]; exact Cl.zero_ok
theorem made_lines (z : Array Value) (hz : z.toList = Cl.zero.cells) (n : Nat) : (madeCells z (n * 193)).toList = flat (fresh n) := by
  have hl := Cl.cells_len Cl.zero_ok
  have hs : z.size = 193 := by rw [← Array.length_toList, hz, hl]
  apply List.ext_getElem?
  intro m
  rcases Nat.lt_or_ge m (n * 193) with h | h
  · have h2 : m / 193 < n := by omega
    have hc : (fresh n)[m / 193]? = some Cl.zero := by rw [fresh, List.getElem?_replicate, if_pos h2]
    have hf := flat_at (fresh_oks n) [] hc (m % 193) (by omega)
    rw [List.append_nil, show m / 193 * 193 + m % 193 = m by omega] at hf
    rw [hf, ← hz]
    have h3 : m % 193 < z.size := by omega
    simp only [madeCells, Array.getElem?_toList, Array.getElem?_map, Array.getElem?_range, h, if_true, Option.map_some, hs]
    rw [getElem!_pos z _ h3, Array.getElem?_eq_getElem h3]
  · rw [List.getElem?_eq_none (by simp [madeCells]; exact h), List.getElem?_eq_none (by rw [flat_len (fresh_oks n), fresh, List.length_replicate]; exact h)]
theorem cell_info : (Try.prog.info? 107).map (fun i => (i.zero, i.size, i.bytes)) = some (some (.agg Cl.zero.cells.toArray), 193, 193) := by kernel_rfl
/-- What New makes. -/
theorem new_made (w : World) (n : Nat) (hn : n ≤ 258) : ∃ w1, (Instr.makeSlice 86 (.int .i64 (n : Int)) (.int .i64 (n : Int))).run Try.prog w = .ok (.slice (some ⟨w.heap.size, 0, none⟩) n n) w1 ∧
    w1.heap[w.heap.size]? = some (.cells (flat (fresh n)).toArray 107 (0, 0)) ∧ Below w.heap.size w w1 ∧ w1.heap.size = w.heap.size + 1 := by
  obtain ⟨i, hi, hz, hs, hy⟩ : ∃ i, Try.prog.info? 107 = some i ∧ i.zero = some (.agg Cl.zero.cells.toArray) ∧ i.size = 193 ∧ i.bytes = 193 := by
    obtain ⟨i, h1, h2⟩ := Option.map_eq_some_iff.1 cell_info
    simp only [Prod.mk.injEq] at h2
    exact ⟨i, h1, h2.1, h2.2.1, h2.2.2⟩
  have hmk := run_make (P := Try.prog) w 86 107 i _ Try.underlying86 hi hz .i64 .i64 (n : Int) (n : Int) (by omega) (by omega) (by rw [hy]; omega) (by omega)
  rw [Int.toNat_natCast, hs] at hmk
  refine ⟨_, hmk, ?_, (Below.refl _ _).alloc (Nat.le_refl _) _, by simp⟩
  have := made_lines (Value.cells (.agg Cl.zero.cells.toArray)) rfl n
  rw [← this]
  show (w.heap.push _)[w.heap.size]? = _
  simp

def five0 : List Int := [0, 0, 0, 0, 0]
/-- What New leaves where it does not refuse. -/
def Made (w : World) (n : Nat) (e : Ending) (w' : World) : Prop :=
  ∃ p q, e = .returned (.tuple #[.pointer (some ⟨p, 0, none⟩), .int .i64 0]) ∧ w.heap.size ≤ p ∧ w.heap.size ≤ q ∧ DvP w' p q (fresh n) five0 ∧ Below w.heap.size w w'
set_option maxHeartbeats 400000 in
theorem new_bad (x : Int) (hx : x < 1 ∨ 258 < x) (w : World) : Calls Try.prog 12 #[.int .i64 x] w fun e w' => e = .returned (.tuple #[.pointer none, .int .i64 2]) ∧ w = w' := by
  rcases Classical.em (x < 1) with h1 | h1
  · clear hx
    go_enter Try.func12, Try.ntmps12
    go_wp2
    go_ret2
    exact ⟨rfl, rfl⟩
  · have h2 : 258 < x := by omega
    clear hx
    go_enter Try.func12, Try.ntmps12
    go_wp2
    go_ret2
    exact ⟨rfl, rfl⟩
set_option maxHeartbeats 400000 in
theorem new_ok (n : Nat) (h1 : 1 ≤ n) (h2 : n ≤ 258) (w : World) : Calls Try.prog 12 #[.int .i64 n] w (Made w n) := by
  obtain ⟨w1, hmk, hq, hb, hs⟩ := new_made w n h2
  have HQ := Lib.hid hq
  have HB := Lib.hid hb
  obtain ⟨g, hg⟩ : ∃ g, w.heap.size = g := ⟨_, rfl⟩
  rw [hg] at hmk HQ HB hs
  have HG := Lib.hid hg
  have HS := Lib.hid hs
  clear hq hb hg hs
  have h3 : ¬ (n : Int) < 1 := by omega
  have h4 : ¬ 258 < (n : Int) := by omega
  go_enter Try.func12, Try.ntmps12
  go_wp2
  go_ret2
  have hs1 := HS.out
  refine ⟨w1.heap.size, g, rfl, by have := HG.out; omega, Nat.le_of_eq HG.out, ⟨fresh_oks n, by simp [fresh, h2], rfl, by omega, ⟨n, ?_, by simp [fresh]⟩, ⟨[], ?_⟩⟩, ?_⟩
  · show (w1.heap.push _)[w1.heap.size]? = _
    simp [fresh, five0]
  · rw [Below.heap_alloc _ _ _ (by omega), List.append_nil]
    exact HQ.out
  · rw [HG.out]
    exact HB.out.alloc (by omega) _
/-- h done to the first i of a list. -/
def mapTo {α : Type} (h : α → α) (st : List α) (i : Nat) : List α := (st.take i).map h ++ st.drop i
theorem mapTo_len {α : Type} (h : α → α) (st : List α) (i : Nat) : (mapTo h st i).length = st.length := by simp [mapTo]; omega
theorem mapTo_zero {α : Type} (h : α → α) (st : List α) : mapTo h st 0 = st := by simp [mapTo]
theorem mapTo_all {α : Type} (h : α → α) (st : List α) (i : Nat) (hi : st.length ≤ i) : mapTo h st i = st.map h := by simp [mapTo, List.take_of_length_le hi, List.drop_of_length_le hi]
theorem mapTo_at {α : Type} (h : α → α) (st : List α) (i : Nat) {c : α} (hc : st[i]? = some c) : (mapTo h st i)[i]? = some c := by
  obtain ⟨hi, rfl⟩ := List.getElem?_eq_some_iff.1 hc
  have hl : ((st.take i).map h).length = i := by rw [List.length_map, List.length_take]; omega
  rw [mapTo, List.getElem?_append_right (by omega), hl, Nat.sub_self, List.getElem?_drop, Nat.add_zero, List.getElem?_eq_getElem hi]
theorem mapTo_set {α : Type} (h : α → α) (st : List α) (i : Nat) {c : α} (hc : st[i]? = some c) : (mapTo h st i).set i (h c) = mapTo h st (i + 1) := by
  obtain ⟨hi, rfl⟩ := List.getElem?_eq_some_iff.1 hc
  have hl : ((st.take i).map h).length = i := by rw [List.length_map, List.length_take]; omega
  rw [mapTo, mapTo, List.take_succ_eq_append_getElem hi, List.set_append_right _ _ (by omega), hl, Nat.sub_self, List.drop_eq_getElem_cons hi, List.set_cons_zero, List.map_append, List.append_assoc]
  rfl

def Cl.fence (c : Cl) : Cl := if c.on then ({ c with p := c.f } : Cl).stop else c
set_option maxHeartbeats 400000 in
theorem fence_nil (w : World) : Calls Try.prog 77 #[.pointer none] w fun e w' => e = .returned (.int .i64 1) ∧ w = w' := by
  go_enter Try.func77, Try.ntmps77
  go_wp2
  go_ret
  exact ⟨rfl, rfl⟩
set_option maxHeartbeats 800000 in
theorem fence_ok {w : World} {p q : Nat} {st : List Cl} {cs : List Int} (h : DvP w p q st cs) :
    Calls Try.prog 77 #[.pointer (some ⟨p, 0, none⟩)] w fun e w' => e = .returned (.int .i64 0) ∧ DvP w' p q (st.map Cl.fence) (bump cs 2) ∧ Turns p q w w' := by
  obtain ⟨cap, hsl, _⟩ := h.slice
  have HD := Lib.hid h
  have hn := h.len
  obtain ⟨n, hn'⟩ : ∃ n, st.length = n := ⟨_, rfl⟩
  have HN := Lib.hid hn'
  rw [hn'] at hsl hn
  clear h hn'
  go_enter Try.func77, Try.ntmps77
  go_wp2
  clear hsl
  go_loopg [3, 4, 12] n (fun gk s3 s4 s12 wx => ∃ i : Nat, i + gk = n ∧ s12 = .int .i64 i ∧ Hid (DvP wx p q (mapTo Cl.fence st i) cs) ∧ Hid (Turns p q w wx))
  case atStart => exact ⟨0, by omega, rfl, (by rw [mapTo_zero]; exact HD), Turns.refl _ _ _⟩
  case round =>
    obtain ⟨i, hig, rfl, HDr, HT⟩ := hrel
    cases gk with
    | zero =>
      obtain rfl : i = n := by omega
      have hii : ¬ (i : Int) < (i : Int) := by omega
      have HD2 : Hid (DvP wr p q (st.map Cl.fence) cs) := by
        have := HDr.out
        rw [mapTo_all _ _ _ (Nat.le_of_eq HN.out)] at this
        exact this
      go_wp2_with fail
      refine (add_ok HD2.out 2 (by decide)).mono ?_
      rintro e w3 ⟨rfl, hd3, ht3⟩
      have HD3 := Lib.hid hd3
      have HT3 := Lib.hid ht3
      clear hd3 ht3
      go_wp2
      go_ret
      exact ⟨rfl, HD3.out, HT.out.trans HT3.out⟩
    | succ gk =>
      have hii : (i : Int) < (n : Int) := by omega
      have hi : i < st.length := by have := HN.out; omega
      obtain ⟨c, hc⟩ : ∃ c, st[i]? = some c := ⟨_, List.getElem?_eq_getElem hi⟩
      have hc1 := mapTo_at Cl.fence st i hc
      have HS := Lib.hid (mapTo_set Cl.fence st i hc)
      obtain ⟨cap1, hsl1, _⟩ := HDr.out.slice
      rw [mapTo_len, HN.out] at hsl1
      have hon := HDr.out.cell_on hc1
      have hok := oks_at HDr.out.oks hc1
      have HC1 := Lib.hid hc1
      have HF := Lib.hid (HDr.out.range_f hc1)
      have HX := Lib.hid hok.2.2
      have HOV := Lib.hid (over_p hok c.f hok.2.2)
      have HOK1 : Hid (({ c with p := c.f } : Cl).ok) := ⟨hok.1, hok.2.2, hok.2.2⟩
      have HC2 : Hid (((mapTo Cl.fence st i).set i { c with p := c.f })[i]? = some { c with p := c.f }) := by show _ = _; rw [List.getElem?_set_self (by rw [mapTo_len]; exact hi)]
      clear hc hc1 hok
      cases ho : c.on with
      | false =>
        have HFE : Hid (c.fence = c) := by show _ = _; simp [Cl.fence, ho]
        rw [ho] at hon
        clear ho
        go_wp2
        go_roundg gk
        case measure => omega
        case rel =>
          refine ⟨i + 1, by omega, by go_num, ?_, HT⟩
          rw [← HS.out, HFE.out, set_same HC1.out]
          exact HDr
      | true =>
        have HFE : Hid (c.fence = ({ c with p := c.f } : Cl).stop) := by show _ = _; simp [Cl.fence, ho]
        rw [ho] at hon
        clear ho
        generalize ({ c with p := c.f } : Cl) = c1 at *
        go_wp2_with (first
          | ((with_reducible show wpList _ _ _ (⟨some 29, _, _, _, _, _⟩ :: _) _ _); refine wpList_load_agg (o := ⟨some 29, _, _, _, _, _⟩) rfl 105 (.tmp 28) rfl q (i * 193 + 128) rfl (enc c.f) _ HF.out Try.underlying105 rfl (by rw [enc_len, HX.out]; exact size_content) ?_)
          | ((with_reducible show wpList _ _ _ (⟨none, .store 105 _ _, _, _, _, _⟩ :: _) _ _); refine wpList_store_line (o := ⟨none, .store 105 (.tmp 31) (.tmp 29), _, _, _, _⟩) rfl _ _ _ rfl rfl HDr.out HC1.out (i * 193 + 64) 64 rfl (.agg (enc c.f).toArray) (enc c.f) rfl rfl rfl (by rw [enc_len, HX.out]; exact size_content) (by rw [enc_len, HX.out]; omega) _ HOV.out HOK1.out enc_one ?_; intro w1 HD1 HT1)
          | ((with_reducible show Calls _ 49 _ _ _); refine (stop_ok HD1.out HC2.out).mono ?_; rintro e w2 ⟨rfl, hd2, ht2⟩; have HD2 := Lib.hid hd2; have HT2 := Lib.hid ht2; clear hd2 ht2))
        go_roundg gk
        case measure => omega
        case rel =>
          refine ⟨i + 1, by omega, by go_num, ?_, (HT.out.trans HT1.out).trans HT2.out⟩
          have := HD2.out
          rw [List.set_set] at this
          rw [← HS.out, HFE.out]
          exact this

end Go.Proofs.Ytkcjamjjaallhaa
