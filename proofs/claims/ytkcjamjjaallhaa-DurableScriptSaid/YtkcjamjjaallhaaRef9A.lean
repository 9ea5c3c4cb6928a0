/-
  Proved here: chapter 9's own clock in memory; what its New, Note, Begin, Epoch and Owed answer and leave.
  Conditions: at most 500 notes of a thread.
-/
import Derived.Test.YtkcjamjjaallhaaDurK
import Derived.Test.YtkcjamjjaallhaaSim3
import Derived.Test.YtkcjamjjaallhaaOver3
import Derived.Test.YtkcjamjjaallhaaRef4A
import Derived.Deep.RegionLaw
namespace Go.Proofs.Ytkcjamjjaallhaa
open Go Go.RowKit

/-! ### Chapter 9's own clock in memory -/
def HasInt (w : World) (k : Nat) : Prop := ∃ j kd x, w.cell? ⟨k, j, none⟩ = some (.int kd x)
/-- But for the blocks L, all that holds a number is as it was; below g all is. -/
structure Fr (g : Nat) (L : List Nat) (w w' : World) : Prop where
  bel : Below g w w'
  size : w.heap.size ≤ w'.heap.size
  block : ∀ k, k ∉ L → k < w.heap.size → HasInt w k → w'.heap[k]? = w.heap[k]?
theorem Fr.of_below {g : Nat} {L : List Nat} {w w' : World} (h : Below w.heap.size w w') (hg : g ≤ w.heap.size) : Fr g L w w' := ⟨h.mono hg, h.size, fun k _ hk _ => h.block k hk⟩
theorem Fr.of_keeps {g : Nat} {L : List Nat} {w w' : World} (h : Keeps L w w') (hL : ∀ x ∈ L, g ≤ x) (hg : g ≤ w.heap.size) : Fr g L w w' := ⟨h.below hL hg, h.size, fun k h1 h2 _ => h.block k h1 h2⟩
theorem RowI.int {w : World} {A : Option Addr} {l : List Int} (h : RowI w A l) (hl : 0 < l.length) : ∃ b off, A = some ⟨b, off, none⟩ ∧ b < w.heap.size ∧ HasInt w b := by
  obtain ⟨b, off, e, hlt, hc⟩ := h.2 hl
  exact ⟨b, off, e, hlt, off + 0, .i64, _, hc 0 hl⟩
theorem RowI.fr {g : Nat} {L : List Nat} {w w' : World} {A : Option Addr} {l : List Int} (h : RowI w A l) (f : Fr g L w w') (hA : ∀ x, A = some x → x.block ∉ L) : RowI w' A l :=
  ⟨h.1, fun hl => by
    obtain ⟨b, off, e, hlt, hc⟩ := h.2 hl
    have hb := f.block b (hA _ e) hlt ⟨off + 0, .i64, _, hc 0 hl⟩
    exact ⟨b, off, e, Nat.lt_of_lt_of_le hlt f.size, fun k hk => (World.cell?_of_block (w := w) (a := ⟨b, off + k, none⟩) hb).trans (hc k hk)⟩⟩
theorem Dv.hasp {T D : TypeId} {w : World} {p q : Nat} {st : List Cl} {cs : List Int} (h : Dv T D w p q st cs) : HasInt w p := ⟨_, _, _, (h.count 0 (by decide)).1⟩
theorem Dv.hasq {T D : TypeId} {w : World} {p q : Nat} {st : List Cl} {cs : List Int} (h : Dv T D w p q st cs) (hl : 0 < st.length) : HasInt w q := by
  have hc : st[0]? = some st[0] := List.getElem?_eq_getElem hl
  have hok := oks_at h.oks hc
  have := h.range_v hc 0 _ (enc_at _ 0 (by have := hok.1; omega))
  exact ⟨_, _, _, this⟩
theorem Dv.fr {T D : TypeId} {g : Nat} {L : List Nat} {w w' : World} {p q : Nat} {st : List Cl} {cs : List Int} (h : Dv T D w p q st cs) (f : Fr g L w w') (hl : 0 < st.length) (hp : p ∉ L) (hq : q ∉ L) : Dv T D w' p q st cs :=
  h.same (f.block p hp h.lt_p h.hasp) (f.block q hq h.lt_q (h.hasq hl))
theorem Cr.fr {S L : List Nat} {g : Nat} {w w' : World} {p o now dur : Nat} {owed left : List Int} {noted : List Bool} {fv : Value} (h : Cr S w p o now dur owed noted left fv) (f : Fr g L w w') (h1 : 1 ≤ owed.length) (hp : p ∉ L) (ho : o ∉ L) (hS : ∀ x ∈ L, x ∈ S) : Cr S w' p o now dur owed noted left fv := by
  have hpi : HasInt w p := ⟨_, _, _, h.reads.1⟩
  have hoi : HasInt w o := ⟨_, _, _, h.readO 0 (by omega)⟩
  obtain ⟨A, cap, e, hr, hc, ha, hn⟩ := h.mem
  exact ⟨h.ne, h.n258, h.small, ⟨A, cap, (f.block p hp h.lt_p hpi).trans e, hr.fr f (fun x hx hm => hn x hx (hS _ hm)), hc, ha, hn⟩, (f.block o ho h.lt_o hoi).trans h.row, h.inp, h.ino⟩
theorem Lw.fr {S L : List Nat} {g : Nat} {w0 w w' : World} {p o dp dq : Nat} {c : Ck} {s : St} (h : Lw S g w0 w p o dp dq c s) (f : Fr g L w w') (hl : 0 < s.1.length) (hp : p ∉ L) (ho : o ∉ L) (hd : dp ∉ L) (hq : dq ∉ L) (hS : ∀ x ∈ L, x ∈ S) : Lw S g w0 w' p o dp dq c s :=
  ⟨⟨⟨h.cd.ck.ok, h.cd.ck.raw.fr f h.cd.ck.ok.one hp ho hS⟩, h.cd.dv.fr f hl hd hq, h.cd.inp, h.cd.inq, h.cd.pp, h.cd.pq, h.cd.op, h.cd.oq⟩, h.bel.trans f.bel, h.sz, fun x hx => ⟨(h.all x hx).1, Nat.lt_of_lt_of_le (h.all x hx).2 f.size⟩⟩
def doneN (ph : Nat) : Int := if ph = 3 then 1 else if ph = 4 then 2 else if ph = 5 then 3 else 0
def anyN (N : List (List Int)) (i : Int) : Bool := N.any fun l => l.any (· == i)
/-- Rows of numbers: row t of V reads as N's t-th list. -/
structure Rws (S : List Nat) (w : World) (V : List Value) (N : List (List Int)) : Prop where
  len : V.length = N.length
  at_ : ∀ t, t < N.length → ∃ A cap, V[t]? = some (.slice A (N.getD t []).length cap) ∧ RowI w A (N.getD t []) ∧ (N.getD t []).length ≤ cap ∧ (A = none → cap = 0) ∧ ∀ x, A = some x → x.block ∉ S
def rkL (c : Ck) (n : Nat) (sv : Value) (dn : Int) : List Value := [.int .u64 (c.now : Nat), .int .u64 (c.dur : Nat), .slice (some ⟨n, 0, none⟩) c.owed.length c.owed.length, .bool (!decide (c.ph = 0)), sv, .int .i64 dn]
/-- The chapter's own clock at r: what it says of the clock c, the notes N of at most M lines each. -/
structure Rm (S : List Nat) (g : Nat) (w : World) (r : Nat) (c : Ck) (N : List (List Int)) (M : Nat) : Prop where
  ok : c.ok
  len : N.length = c.owed.length
  owed : ∀ t, t < N.length → c.owed.getD t 0 = ((N.getD t []).length : Nat)
  noted : ∀ i : Nat, i < 258 → c.noted.getD i false = anyN N i
  few : ∀ t, (N.getD t []).length ≤ M
  inr : r ∈ S
  gr : g ≤ r
  mem : ∃ n A cap dn V, w.heap[r]? = some (.cells (rkL c n (.slice A c.left.length cap) dn).toArray 85 (0, 0)) ∧ (c.ph ≠ 0 → dn = doneN c.ph) ∧ RowI w A c.left ∧ c.left.length ≤ cap ∧ (A = none → cap = 0) ∧ (∀ x, A = some x → x.block ∉ S) ∧
    n ∉ S ∧ g ≤ n ∧ w.heap[n]? = some (.cells V.toArray 68 (0, 0)) ∧ Rws S w V N
section
variable {S L : List Nat} {g : Nat} {w w' : World} {r M : Nat} {c : Ck} {N : List (List Int)} {V : List Value}
theorem Rws.move (h : Rws S w V N) (hs : w.heap.size ≤ w'.heap.size) (hb : ∀ k, k < w.heap.size → k ∉ S → HasInt w k → w'.heap[k]? = w.heap[k]?) : Rws S w' V N :=
  ⟨h.len, fun t ht => by
    obtain ⟨A, cap, h1, h2, h3, h4, h5⟩ := h.at_ t ht
    refine ⟨A, cap, h1, ⟨h2.1, fun hl => ?_⟩, h3, h4, h5⟩
    obtain ⟨b, off, e, hlt, hc⟩ := h2.2 hl
    have hbb := hb b hlt (h5 _ e) ⟨off + 0, .i64, _, hc 0 hl⟩
    exact ⟨b, off, e, Nat.lt_of_lt_of_le hlt hs, fun k hk => (World.cell?_of_block (w := w) (a := ⟨b, off + k, none⟩) hbb).trans (hc k hk)⟩⟩
theorem RowI.mv {A : Option Addr} {l : List Int} (h : RowI w A l) (hA : ∀ x, A = some x → x.block ∉ S) (hs : w.heap.size ≤ w'.heap.size) (hb : ∀ k, k < w.heap.size → k ∉ S → HasInt w k → w'.heap[k]? = w.heap[k]?) : RowI w' A l :=
  ⟨h.1, fun hl => by
    obtain ⟨b, off, e, hlt, hc⟩ := h.2 hl
    have hbb := hb b hlt (hA _ e) ⟨off + 0, .i64, _, hc 0 hl⟩
    exact ⟨b, off, e, Nat.lt_of_lt_of_le hlt hs, fun k hk => (World.cell?_of_block (w := w) (a := ⟨b, off + k, none⟩) hbb).trans (hc k hk)⟩⟩
theorem Rm.lt_r (h : Rm S g w r c N M) : r < w.heap.size := by obtain ⟨n, A, cap, dn, V, e, _⟩ := h.mem; exact lt_of_heap e
/-- All but some blocks of S as they were. -/
theorem Rm.keeps (h : Rm S g w r c N M) (k : Keeps L w w') (hr : r ∉ L) (hS : ∀ x ∈ L, x ∈ S) : Rm S g w' r c N M := by
  obtain ⟨n, A, cap, dn, V, e, h1, h2, h3, h4, h5, h6, h7, h8, h9⟩ := h.mem
  have hb : ∀ k, k < w.heap.size → k ∉ S → HasInt w k → w'.heap[k]? = w.heap[k]? := fun i hi hn _ => k.block i (fun hm => hn (hS _ hm)) hi
  exact ⟨h.ok, h.len, h.owed, h.noted, h.few, h.inr, h.gr, n, A, cap, dn, V, (k.block r hr (lt_of_heap e)).trans e, h1, h2.mv h5 k.size hb, h3, h4, h5, h6, h7, (k.block n (fun hm => h6 (hS _ hm)) (lt_of_heap h8)).trans h8, h9.move k.size hb⟩
theorem Rm.below (h : Rm S g w r c N M) (hb : Below w.heap.size w w') : Rm S g w' r c N M := h.keeps (Keeps.of_below hb []) (by simp) (by simp)
end
section
variable {S : List Nat} {g : Nat} {w : World} {r M : Nat} {c : Ck} {N : List (List Int)}
/-- What a walk reads of the chapter's own clock. -/
theorem Rm.reads (h : Rm S g w r c N M) : ∃ n A cap dn, w.cell? ⟨r, 0, none⟩ = some (.int .u64 (c.now : Nat)) ∧ w.cell? ⟨r, 1, none⟩ = some (.int .u64 (c.dur : Nat)) ∧ w.cell? ⟨r, 2, none⟩ = some (.slice (some ⟨n, 0, none⟩) c.owed.length c.owed.length) ∧ w.cell? ⟨r, 3, none⟩ = some (.bool (!decide (c.ph = 0))) ∧
    w.cell? ⟨r, 4, none⟩ = some (.slice A c.left.length cap) ∧ w.cell? ⟨r, 5, none⟩ = some (.int .i64 dn) ∧ (c.ph ≠ 0 → dn = doneN c.ph) ∧ RowI w A c.left ∧ c.left.length ≤ cap ∧ (A = none → cap = 0) ∧ (∀ x, A = some x → x.block ∉ S) ∧ n ∉ S ∧ g ≤ n ∧
    ∀ t, t < c.owed.length → ∃ B cb, w.cell? ⟨n, t, none⟩ = some (.slice B (N.getD t []).length cb) ∧ w.frozen? ⟨n, t, none⟩ = false ∧ RowI w B (N.getD t []) ∧ (B = none → cb = 0) ∧ (N.getD t []).length ≤ cb := by
  obtain ⟨n, A, cap, dn, V, e, h1, h2, h3, h4, h5, h6, h7, h8, h9⟩ := h.mem
  refine ⟨n, A, cap, dn, by rw [cell_in e]; rfl, by rw [cell_in e]; rfl, by rw [cell_in e]; rfl, by rw [cell_in e]; rfl, by rw [cell_in e]; rfl, by rw [cell_in e]; rfl, h1, h2, h3, h4, h5, h6, h7, fun t ht => ?_⟩
  obtain ⟨B, cb, k1, k2, k3, k4, _⟩ := h9.at_ t (by rw [h.len]; exact ht)
  exact ⟨B, cb, by rw [cell_in h8]; exact k1, frozen_in h8 t, k2, k4, k3⟩
theorem Rm.frozen (h : Rm S g w r c N M) (j : Nat) : w.frozen? ⟨r, j, none⟩ = false := by obtain ⟨n, A, cap, dn, V, e, _⟩ := h.mem; exact frozen_in e j
theorem Rm.owedN (h : Rm S g w r c N M) : c.owed = N.map fun l => ((l.length : Nat) : Int) := by
  apply List.ext_getElem
  · rw [List.length_map, h.len]
  · intro i h1 h2
    have := h.owed i (by rw [h.len]; exact h1)
    rw [List.getElem_map]
    simpa [List.getD, List.getElem?_eq_getElem h1, List.getElem?_eq_getElem (show i < N.length by rw [h.len]; exact h1)] using this
end
theorem idle_left {c : Ck} (h : c.ok) (e : c.ph = 0) : c.left = [] := by
  rcases Classical.em (c.left = []) with h1 | h1
  · exact h1
  · have := h.some_.2 h1
    omega
theorem u64_down (x : Nat) (h : x + 1 < 18446744073709551616) : IntKind.u64.wrap (((x + 1 : Nat) : Int) - 1) = ((x : Nat) : Int) := by
  have := u64_wrap x (by omega)
  rw [show ((x + 1 : Nat) : Int) - 1 = (x : Int) by omega]
  exact this
theorem now_busy {c : Ck} (e : c.ph ≠ 0) : c.now = c.dur + 1 + 1 := by unfold Ck.now; rw [if_neg e]
set_option maxHeartbeats 800000 in
theorem r9epoch_idle {S : List Nat} {g r M : Nat} {w : World} {c : Ck} {N : List (List Int)} (h : Rm S g w r c N M) (e : c.ph = 0) : Calls Try.prog 50 #[.pointer (some ⟨r, 0, none⟩)] w fun e w' => e = .returned (.tuple #[.int .u64 0, .bool false]) ∧ w = w' := by
  obtain ⟨n, A, cap, dn, c0, _, _, c3, _⟩ := h.reads
  rw [decide_eq_true e, Bool.not_true] at c3
  clear h e
  go_enter Try.func50, Try.ntmps50
  go_wp2
  go_ret2
  exact ⟨rfl, rfl⟩
set_option maxHeartbeats 800000 in
theorem r9epoch_busy {S : List Nat} {g r M : Nat} {w : World} {c : Ck} {N : List (List Int)} (h : Rm S g w r c N M) (e : c.ph ≠ 0) : Calls Try.prog 50 #[.pointer (some ⟨r, 0, none⟩)] w fun e w' => e = .returned (.tuple #[.int .u64 ((c.dur + 1 : Nat) : Int), .bool true]) ∧ w = w' := by
  obtain ⟨n, A, cap, dn, c0, _, _, c3, _⟩ := h.reads
  have hd := u64_down (c.dur + 1) (by have := h.ok.lt; omega)
  rw [decide_eq_false e, Bool.not_false] at c3
  rw [now_busy e] at c0
  generalize ((c.dur + 1 + 1 : Nat) : Int) = d2 at *
  generalize ((c.dur + 1 : Nat) : Int) = d1 at *
  clear h e
  go_enter Try.func50, Try.ntmps50
  go_wp2
  go_ret2
  exact ⟨rfl, rfl⟩
set_option maxHeartbeats 800000 in
theorem r9left_any {S : List Nat} {g r M : Nat} {w : World} {c : Ck} {N : List (List Int)} (h : Rm S g w r c N M) : Calls Try.prog 53 #[.pointer (some ⟨r, 0, none⟩)] w fun e w' => (∃ A cap, e = .returned (.slice A c.left.length cap) ∧ RowI w A c.left ∧ c.left.length ≤ cap) ∧ w = w' := by
  obtain ⟨n, A, cap, dn, _, _, _, c3, c4, _, _, hr, hcp, _⟩ := h.reads
  have HRR := Lib.hid hr
  have HCP := Lib.hid hcp
  rcases Nat.eq_zero_or_pos c.ph with e | e
  · rw [decide_eq_true e, Bool.not_true] at c3
    have hl := idle_left h.ok e
    clear h e hr c4 HRR HCP hcp
    go_enter Try.func53, Try.ntmps53
    go_wp2
    go_ret
    exact ⟨⟨none, 0, by rw [hl]; rfl, by rw [hl]; exact rowI_nil _ _, by rw [hl]; exact Nat.le_refl _⟩, rfl⟩
  · rw [decide_eq_false (by omega), Bool.not_false] at c3
    clear h e hr hcp
    go_enter Try.func53, Try.ntmps53
    go_wp2
    go_ret
    exact ⟨⟨A, cap, rfl, HRR.out, HCP.out⟩, rfl⟩
theorem take_snoc (l : List Int) (i : Nat) (h : i < l.length) : l.take (i + 1) = l.take i ++ [l.getD i 0] := by
  rw [List.take_succ_eq_append_getElem h]
  simp [List.getD, List.getElem?_eq_getElem h]
set_option maxHeartbeats 800000 in
theorem r9owed_any {S : List Nat} {g r M : Nat} {w : World} {c : Ck} {N : List (List Int)} (h : Rm S g w r c N M) : Calls Try.prog 52 #[.pointer (some ⟨r, 0, none⟩)] w (OwnI w c.owed) := by
  obtain ⟨n, A, cap, dn, _, _, c2, _, _, _, _, _, _, _, _, _, _, hrow⟩ := h.reads
  obtain ⟨G, hG⟩ : ∃ G, w.heap.size = G := ⟨_, rfl⟩
  have HG := Lib.hid hG
  have h4 := h.ok.four
  have HOW := Lib.hid (fun t (ht : t < c.owed.length) => h.owed t (by rw [h.len]; exact ht))
  have hlr := h.lt_r
  have HC2 := Lib.hid (fun w' (hb : Below w.heap.size w w') => (hb.cell (p := ⟨r, 2, none⟩) hlr).trans c2)
  have hln : ∀ t, t < c.owed.length → n < w.heap.size := fun t ht => by
    obtain ⟨B, cb, e, _⟩ := hrow t ht
    rcases Nat.lt_or_ge n w.heap.size with h' | h'
    · exact h'
    · simp [World.cell?, Array.getElem?_eq_none h'] at e
  have HRO := Lib.hid (fun w' (hb : Below w.heap.size w w') t (ht : t < c.owed.length) => (by
    obtain ⟨B, cb, e, _⟩ := hrow t ht
    exact ⟨B, cb, (hb.cell (p := ⟨n, t, none⟩) (hln t ht)).trans e⟩ : ∃ B cb, w'.cell? ⟨n, t, none⟩ = some (.slice B (N.getD t []).length cb)))
  have HFIN : Hid (∀ v w', w'.ownsRow G 3 1 v c.owed.length (encI c.owed) → Below G w w' → OwnI w c.owed (.returned v) w') := fun v w' h1 h2 => ⟨v, rfl, hG ▸ h1, hG ▸ h2⟩
  rw [hG] at HC2 HRO
  generalize OwnI w c.owed = R at *
  generalize c.owed = ow at *
  obtain ⟨k, hk⟩ : ∃ k, ow.length = k := ⟨_, rfl⟩
  rw [hk] at h4 HC2 HRO HOW HFIN
  have HK := Lib.hid hk
  clear h c2 hrow hln hlr hG hk
  go_enter Try.func52, Try.ntmps52
  go_wp2
  go_loopg [3, 4] k (fun gk s3 s4 wx => ∃ (i : Nat) (V : Value), i + gk = k ∧ s4 = .int .i64 i ∧ V = s3 ∧ Hid (wx.ownsRow G 3 1 V (ow.take i).length (encI (ow.take i))) ∧ Hid (Below G w wx))
  case atStart => exact ⟨0, _, by omega, rfl, rfl, World.ownsRow_nil _ _ _ _, Below.refl _ _⟩
  case round =>
    obtain ⟨i, V, hig, rfl, rfl, HO, HW⟩ := hrel
    have c2 := HC2.out wr HW.out
    cases gk with
    | zero =>
      obtain rfl : i = k := by omega
      have hii : ¬ (i : Int) < (i : Int) := by omega
      have HO2 : Hid (wr.ownsRow G 3 1 V i (encI ow)) := by
        have := HO.out
        rw [List.take_of_length_le (Nat.le_of_eq HK.out), HK.out] at this
        exact this
      go_wp2
      exact HFIN.out _ _ HO2.out HW.out
    | succ gk =>
      have hii : (i : Int) < (k : Int) := by omega
      obtain ⟨B, cb, hrw⟩ := HRO.out wr HW.out i (by omega)
      have hlen : (ow.take i).length < 134217728 := by have := List.length_take_le i ow; omega
      have hT := take_snoc ow i (by have := HK.out; omega)
      rw [HOW.out i (by omega)] at hT
      generalize (N.getD i []).length = m at *
      obtain ⟨V', w', hrun, hown, hb'⟩ := run_appI_one wr G V (ow.take i) (m : Int) HO.out hlen (by have := HW.out.size; have := HG.out; omega)
      have HRUN : Hid (Sem.run Try.prog (Builtin.append_ #[68, 68] 68 #[V, .slice (some ⟨wr.heap.size, 0, none⟩) 1 1]) (wr.alloc (.cells #[.int .i64 (m : Int)] 3)) = .ok V' w') := hrun
      have HOW2 := Lib.hid hown
      have HB' := Lib.hid hb'
      have HT := Lib.hid hT
      clear hrun hown hb' hT
      go_wp2_with (at_builtin; refine wpList_app rfl (.tmp 14) (.tmp 23) 68 rfl rfl rfl HRUN.out ?_)
      go_roundg gk
      case measure => omega
      case rel => exact ⟨i + 1, V', by omega, by go_num, rfl, (by rw [HT.out]; simp only [List.length_append, List.length_singleton]; exact HOW2.out), HW.out.trans HB'.out⟩
/-- At a step of a region that draws its order: an append whose run is known. -/
theorem step_app9 {P : Program} {ops : Array Oper} {o : Oper} {a : Act} {K : Act → World → Prop} {Q : Exit → Act → World → Prop} {E : Prop} (hgd : o.guard = none) (s x : Operand) (t : TypeId)
    (ho : o.op = .call { callee := .builtin .append, args := #[s, x], argTypes := #[t, t] }) {w w' : World} {v V v' : Value} (hs : a.eval s = v) (hx : a.eval x = V)
    (hrun : (Builtin.append_ #[t, t] o.type #[v, V]).run P w = .ok v' w') (h : K (a.put o.dst v') w') : if Region.wanted o (yielded ops a.tmps) = true then Oper.wp P o a w K Q else E := by
  have hw : Region.wanted o (yielded ops a.tmps) = true := by simp [Region.wanted, hgd]
  rw [if_pos hw]
  unfold Oper.wp execOp
  simp only [ho, resolve, invoke, builtin, Sem.run_bind, Sem.run_pure, Result.andThen_ok, List.map_toArray, List.map_cons, List.map_nil, hs, hx, hrun]
  exact h
theorem any_snoc {α : Type} (l : List α) (f : α → Bool) (d : α) (i : Nat) (h : i < l.length) : (l.take (i + 1)).any f = ((l.take i).any f || f (l.getD i d)) := by
  rw [List.take_succ_eq_append_getElem h, List.any_append]
  simp [List.getD, List.getElem?_eq_getElem h]
theorem any_yes {α : Type} (l : List α) (f : α → Bool) (d : α) (i : Nat) (h : i < l.length) (hf : f (l.getD i d) = true) : l.any f = true := by
  rw [List.any_eq_true]
  refine ⟨l.getD i d, ?_, hf⟩
  rw [List.getD, List.getElem?_eq_getElem h]
  exact List.getElem_mem h
/-- What a walk of noted reads: k rows at n. -/
def RowsAt (w : World) (n k : Nat) (N : List (List Int)) : Prop := ∀ t, t < k → ∃ B cb, w.cell? ⟨n, t, none⟩ = some (.slice B (N.getD t []).length cb) ∧ RowI w B (N.getD t [])
set_option maxHeartbeats 1600000 in
theorem r9noted_raw {w : World} {r n k : Nat} {N : List (List Int)} (c2 : w.cell? ⟨r, 2, none⟩ = some (.slice (some ⟨n, 0, none⟩) k k)) (hN : N.length = k) (hk : k ≤ 4) (hrow : RowsAt w n k N) (x : Int) :
    Calls Try.prog 42 #[.pointer (some ⟨r, 0, none⟩), .int .i64 x] w fun e w' => e = .returned (.bool (anyN N x)) ∧ w = w' := by
  have HRO := Lib.hid hrow
  have HN := Lib.hid hN
  obtain ⟨R, hR⟩ : ∃ R : Ending → World → Prop, R = fun e w' => e = .returned (.bool (anyN N x)) ∧ w = w' := ⟨_, rfl⟩
  rw [← hR]
  have HFIN : Hid (∀ b, anyN N x = b → R (.returned (.bool b)) w) := fun b hb => by rw [hR]; exact ⟨by rw [hb], rfl⟩
  clear hrow hN hR
  go_enter Try.func42, Try.ntmps42
  go_wp2
  go_loopg [5, 6] k (fun gk s5 s6 wx => ∃ i : Nat, i + gk = k ∧ s5 = .int .i64 i ∧ w = wx ∧ Hid ((N.take i).any (fun l => l.any (· == x)) = false))
  case atStart => exact ⟨0, by omega, rfl, rfl, rfl⟩
  case round =>
    obtain ⟨i, hig, rfl, rfl, HT⟩ := hrel
    cases gk with
    | zero =>
      obtain rfl : i = k := by omega
      have hii : ¬ (i : Int) < (i : Int) := by omega
      have HE := Lib.hid (HFIN.out false (by have := HT.out; rw [List.take_of_length_le (Nat.le_of_eq HN.out)] at this; exact this))
      go_wp2
      exact HE.out
    | succ go =>
      have hii : (i : Int) < (k : Int) := by omega
      obtain ⟨B, cb, hrw, hri⟩ := HRO.out i (by omega)
      have HS := Lib.hid (any_snoc N (fun l => l.any (· == x)) [] i (by have := HN.out; omega))
      have HY := Lib.hid (any_yes N (fun l => l.any (· == x)) [] i (by have := HN.out; omega))
      have HRI := Lib.hid hri
      generalize N.getD i [] = l at *
      obtain ⟨m, hm⟩ : ∃ m, l.length = m := ⟨_, rfl⟩
      rw [hm] at hrw
      have HM := Lib.hid hm
      have hmb : m ≤ 134217728 := by have := HRI.out.1; omega
      clear hri hm
      go_wp2
      go_loopg [6] m (fun gj s6 wx => ∃ j : Nat, j + gj = m ∧ s6 = .int .i64 j ∧ w = wx ∧ Hid ((l.take j).any (· == x) = false))
      case atStart => exact ⟨0, by omega, rfl, rfl, rfl⟩
      case round =>
        obtain ⟨j, hjg, rfl, rfl, HTJ⟩ := hrel
        cases gk with
        | zero =>
          obtain rfl : j = m := by omega
          have hjj : ¬ (j : Int) < (j : Int) := by omega
          have HTN : Hid ((N.take (i + 1)).any (fun l => l.any (· == x)) = false) := by
            have h1 := HTJ.out
            rw [List.take_of_length_le (Nat.le_of_eq HM.out)] at h1
            show _ = _
            rw [HS.out, HT.out, h1]
            rfl
          go_wp2
          go_roundg go
          case measure => omega
          case rel => exact ⟨i + 1, by omega, by go_num, rfl, HTN⟩
        | succ gj =>
          have hjj : (j : Int) < (m : Int) := by omega
          obtain ⟨b, off, rfl, _, hc⟩ := HRI.out.2 (by have := HM.out; omega)
          have hcj := hc j (by have := HM.out; omega)
          have HSJ := Lib.hid (any_snoc l (· == x) 0 j (by have := HM.out; omega))
          have HYJ := Lib.hid (any_yes l (· == x) 0 j (by have := HM.out; omega))
          generalize l.getD j 0 = y at *
          clear hc
          cases hyx : (y == x) with
          | true =>
            have HE := Lib.hid (HFIN.out true (HY.out (HYJ.out hyx)))
            go_wp2
            exact HE.out
          | false =>
            have HTN : Hid ((l.take (j + 1)).any (· == x) = false) := by
              show _ = _
              rw [HSJ.out, HTJ.out, hyx]
              rfl
            go_wp2
            go_roundg gj
            case measure => omega
            case rel => exact ⟨j + 1, by omega, by go_num, rfl, HTN⟩
theorem cell_lt {w : World} {a : Addr} {v : Value} (h : w.cell? a = some v) : a.block < w.heap.size := by
  rcases Nat.lt_or_ge a.block w.heap.size with h' | h'
  · exact h'
  · simp [World.cell?, Array.getElem?_eq_none h'] at h
/-- A row and one number behind it, in memory of its own. -/
def Put9 (w w' : World) (A : Option Addr) (m cap : Nat) (l : List Int) : Prop := w'.ownsRow w.heap.size 3 1 (.slice A m cap) m (encI l) ∧ Below w.heap.size w w'
/-- What both appends of Note leave, the row copied first. -/
theorem put_one (w : World) (B : Option Addr) (m cb : Nat) (l : List Int) (x : Int) (hl : l.length = m) (hm : m ≤ 1000) (hrow : RowI w B l) (hB : B = none → cb = 0) :
    ∃ v1 w1 A cap w2, (Builtin.append_ #[68, 68] 68 #[.slice none 0 0, .slice B m cb]).run Try.prog w.drew = .ok v1 w1 ∧
      (Builtin.append_ #[68, 68] 68 #[v1, .slice (some ⟨w1.heap.size, 0, none⟩) 1 1]).run Try.prog (w1.alloc (.cells #[.int .i64 x] 3)) = .ok (.slice A (m + 1) cap) w2 ∧ Below w.heap.size w w1 ∧ Put9 w w2 A (m + 1) cap (l ++ [x]) := by
  obtain ⟨v1, w1, e1, o1, g1, _⟩ := run_appI w.drew w.heap.size 0 (.slice none 0 0) [] (World.ownsRow_nil _ _ _ _) B m cb l hl (hrow.below (below_drewN (Below.refl _ _) 1)) hB (by omega) (Nat.le_refl _)
  rw [Nat.zero_add, List.nil_append] at o1
  have b1 : Below w.heap.size w w1 := (below_drewN (Below.refl _ _) 1).grown g1 (Nat.le_refl _) (fun k hk => by simp [Value.ownBlock] at hk)
  obtain ⟨v2, w2, e2, o2, b2⟩ := run_appI_one w1 w.heap.size v1 l x (by rw [hl]; exact o1) (by omega) b1.size
  obtain ⟨A, cap, rfl, _⟩ := rowI_of_own o2 (by simp; omega)
  rw [hl] at o2 e2
  exact ⟨v1, w1, A, cap, w2, e1, e2, b1, o2, b1.trans b2⟩
/-- And the number laid first. -/
theorem put_two (w : World) (B : Option Addr) (m cb : Nat) (l : List Int) (x : Int) (hl : l.length = m) (hm : m ≤ 1000) (hrow : RowI w B l) (hB : B = none → cb = 0) :
    ∃ v1 w1 A cap w2, (Builtin.append_ #[68, 68] 68 #[.slice none 0 0, .slice B m cb]).run Try.prog (w.alloc (.cells #[.int .i64 x] 3)).drew = .ok v1 w1 ∧
      (Builtin.append_ #[68, 68] 68 #[v1, .slice (some ⟨w.heap.size, 0, none⟩) 1 1]).run Try.prog w1 = .ok (.slice A (m + 1) cap) w2 ∧ Below w.heap.size w w1 ∧ Put9 w w2 A (m + 1) cap (l ++ [x]) := by
  have ba : Below w.heap.size w (w.alloc (.cells #[.int .i64 x] 3)).drew := below_drewN ((Below.refl _ _).alloc (Nat.le_refl _) _) 1
  have hsz : (w.alloc (.cells #[.int .i64 x] 3)).drew.heap.size = w.heap.size + 1 := by show (w.heap.push _).size = _; simp
  have hge : w.heap.size + 1 ≤ (w.alloc (.cells #[.int .i64 x] 3)).drew.heap.size := Nat.le_of_eq hsz.symm
  obtain ⟨v1, w1, e1, o1, g1, _⟩ := run_appI (w.alloc (.cells #[.int .i64 x] 3)).drew (w.heap.size + 1) 0 (.slice none 0 0) [] (World.ownsRow_nil _ _ _ _) B m cb l hl (hrow.below ba) hB (by omega) hge
  rw [Nat.zero_add, List.nil_append] at o1
  have b1 : Below w.heap.size w w1 := ba.grown g1 (by rw [hsz]; omega) (fun k hk => by simp [Value.ownBlock] at hk)
  have b1' : Below (w.heap.size + 1) (w.alloc (.cells #[.int .i64 x] 3)) w1 := (show Below (w.heap.size + 1) (w.alloc (.cells #[.int .i64 x] 3)) (w.alloc (.cells #[.int .i64 x] 3)).drew from below_drewN (Below.refl _ _) 1).grown g1 hge (fun k hk => by simp [Value.ownBlock] at hk)
  have hx : RowI w1 (some ⟨w.heap.size, 0, none⟩) [x] := (rowI_one w x).below (b1'.mono (by simp))
  obtain ⟨v2, w2, e2, o2, g2, _⟩ := run_appI w1 (w.heap.size + 1) m v1 (encI l) o1 (some ⟨w.heap.size, 0, none⟩) 1 1 [x] rfl hx (by intro h; cases h) (by omega) (Nat.le_trans (Nat.le_of_eq (by simp)) b1'.size)
  rw [encI_append] at o2
  have o3 : w2.ownsRow w.heap.size 3 1 v2 (m + 1) (encI (l ++ [x])) := by
    refine ⟨o2.1, o2.2.imp id fun ⟨g, cap, cur, h1, h2, h3⟩ => ⟨g, cap, cur, h1, by omega, h3⟩⟩
  obtain ⟨A, cap, rfl, _⟩ := rowI_of_own o3 (by simp; omega)
  exact ⟨v1, w1, A, cap, w2, e1, e2, b1, o3, b1.grown g2 b1.size (fun k hk => by have := own_ge o1 k hk; omega)⟩
set_option maxHeartbeats 1600000 in
set_option maxRecDepth 100000 in
theorem r9note_yes {w : World} {r n k m cb : Nat} {B : Option Addr} {l : List Int} (t x : Nat) (c2 : w.cell? ⟨r, 2, none⟩ = some (.slice (some ⟨n, 0, none⟩) k k)) (ht : t < k) (hx : x < 258) (hr : w.cell? ⟨n, t, none⟩ = some (.slice B m cb)) (hz : w.frozen? ⟨n, t, none⟩ = false)
    (hl : l.length = m) (hm : m ≤ 1000) (hrow : RowI w B l) (hB : B = none → cb = 0) :
    Calls Try.prog 16 #[.pointer (some ⟨r, 0, none⟩), .int .i64 t, .int .i64 x] w fun e w' => e = .returned (.int .i64 0) ∧ ∃ A cap w2, Put9 w w2 A (m + 1) cap (l ++ [(x : Int)]) ∧ w' = w2.setCell ⟨n, t, none⟩ (.slice A (m + 1) cap) := by
  have h1 : ¬ (k : Int) ≤ (t : Int) := by omega
  have h2 : (t : Int) < (k : Int) := by omega
  have h3 : ¬ (258 : Int) ≤ (x : Int) := by omega
  obtain ⟨v1, w1, A1, cap1, w2, e1, e2, b1, p1⟩ := put_one w B m cb l (x : Int) hl hm hrow hB
  obtain ⟨u1, z1, A2, cap2, z2, f1, f2, d1, p2⟩ := put_two w B m cb l (x : Int) hl hm hrow hB
  have c21 := (b1.cell (p := ⟨r, 2, none⟩) (cell_lt c2)).trans c2
  have cr1 := (b1.cell (p := ⟨n, t, none⟩) (cell_lt hr)).trans hr
  have cz1 := (b1.frozen (p := ⟨n, t, none⟩) (cell_lt hr)).trans hz
  have c22 := (p1.2.cell (p := ⟨r, 2, none⟩) (cell_lt c2)).trans c2
  have cr2 := (p1.2.cell (p := ⟨n, t, none⟩) (cell_lt hr)).trans hr
  have cz2 := (p1.2.frozen (p := ⟨n, t, none⟩) (cell_lt hr)).trans hz
  have a21 := (d1.cell (p := ⟨r, 2, none⟩) (cell_lt c2)).trans c2
  have ar1 := (d1.cell (p := ⟨n, t, none⟩) (cell_lt hr)).trans hr
  have az1 := (d1.frozen (p := ⟨n, t, none⟩) (cell_lt hr)).trans hz
  have a22 := (p2.2.cell (p := ⟨r, 2, none⟩) (cell_lt c2)).trans c2
  have ar2 := (p2.2.cell (p := ⟨n, t, none⟩) (cell_lt hr)).trans hr
  have az2 := (p2.2.frozen (p := ⟨n, t, none⟩) (cell_lt hr)).trans hz
  have ba : Below w.heap.size w (w.alloc (.cells #[.int .i64 (x : Int)] 3)) := (Below.refl _ _).alloc (Nat.le_refl _) _
  have k2 := (ba.cell (p := ⟨r, 2, none⟩) (cell_lt c2)).trans c2
  have kr := (ba.cell (p := ⟨n, t, none⟩) (cell_lt hr)).trans hr
  have k2' : (w.alloc (.cells #[.int .i64 (x : Int)] 3)).drew.cell? ⟨r, 2, none⟩ = some (.slice (some ⟨n, 0, none⟩) k k) := k2
  have kr' : (w.alloc (.cells #[.int .i64 (x : Int)] 3)).drew.cell? ⟨n, t, none⟩ = some (.slice B m cb) := kr
  have bw : Below w.heap.size w (w1.alloc (.cells #[.int .i64 (x : Int)] 3)) := b1.trans ((Below.refl _ _).alloc b1.size _)
  have k21 := (bw.cell (p := ⟨r, 2, none⟩) (cell_lt c2)).trans c2
  have kr1 := (bw.cell (p := ⟨n, t, none⟩) (cell_lt hr)).trans hr
  have E1 := Lib.hid e1
  have E2 := Lib.hid e2
  have F1 := Lib.hid f1
  have F2 := Lib.hid f2
  have P1 := Lib.hid p1
  have P2 := Lib.hid p2
  clear e1 e2 f1 f2 b1 d1 p1 p2 hrow hl hB ba bw
  go_enter Try.func16, Try.ntmps16
  go_wp2
  go_region_law (first
    | (refine step_app9 rfl (.const (.slice none 0 0)) (.tmp 35) 68 rfl rfl rfl E1.out ?_)
    | (refine step_app9 rfl (.tmp 36) (.tmp 38) 68 rfl rfl rfl E2.out ?_)
    | (refine step_app9 rfl (.const (.slice none 0 0)) (.tmp 35) 68 rfl rfl rfl F1.out ?_)
    | (refine step_app9 rfl (.tmp 36) (.tmp 38) 68 rfl rfl rfl F2.out ?_))
  all_goals
    clear E1 E2 F1 F2
    go_wp2
    go_ret
    first
      | exact ⟨rfl, A1, cap1, w2, P1.out, rfl⟩
      | exact ⟨rfl, A2, cap2, z2, P2.out, rfl⟩
theorem Ck.note_now (c : Ck) (t x : Int) : (c.note t x).now = c.now := by unfold Ck.now; rw [c.note_ph, c.note_dur]
theorem up_small (x : Nat) (h : x < 1000000) : up (x : Int) = ((x + 1 : Nat) : Int) := by
  simp [up, IntKind.wrap, IntKind.signed, IntKind.bits]
  omega
theorem getD_set_row (N : List (List Int)) (t k : Nat) (l : List Int) (ht : t < N.length) : (N.set t l).getD k [] = if t = k then l else N.getD k [] := by
  simp only [List.getD, List.getElem?_set]
  split
  · first | rfl | (rw [if_pos (by omega)]; rfl)
  · rfl
theorem getD_set_int (L : List Int) (t k : Nat) (x : Int) (ht : t < L.length) : (L.set t x).getD k 0 = if t = k then x else L.getD k 0 := by
  simp only [List.getD, List.getElem?_set]
  split
  · first | rfl | (rw [if_pos (by omega)]; rfl)
  · rfl
theorem anyN_set (N : List (List Int)) (t : Nat) (ht : t < N.length) (x i : Int) : anyN (N.set t (N.getD t [] ++ [x])) i = (anyN N i || (x == i)) := by
  unfold anyN
  induction N generalizing t with
  | nil => simp at ht
  | cons a N ih =>
    cases t with
    | zero => simp [Bool.or_assoc, Bool.or_comm]
    | succ t =>
      have := ih t (by simpa using ht)
      simp only [List.set_cons_succ, List.any_cons, List.getD_cons_succ, this, Bool.or_assoc]
section
variable {S : List Nat} {g : Nat} {w w' : World} {r M : Nat} {c : Ck} {N : List (List Int)}
theorem Rws.noint {V : List Value} (h : Rws S w V N) {n : Nat} {T : TypeId} (e : w.heap[n]? = some (.cells V.toArray T (0, 0))) : ¬ HasInt w n := by
  rintro ⟨j, kd, x, hj⟩
  rw [cell_in e] at hj
  have hlt : j < V.length := (List.getElem?_eq_some_iff.1 hj).1
  obtain ⟨A, cap, h1, _⟩ := h.at_ j (by rw [← h.len]; exact hlt)
  rw [h1] at hj
  cases hj
theorem Rm.noteOk (h : Rm S g w r c N M) (hM : M ≤ 500) (t x : Nat) (ht : t < c.owed.length) (hx : x < 258) (hS : ∀ y ∈ S, y < w.heap.size) (hg : g ≤ w.heap.size) :
    Calls Try.prog 16 #[.pointer (some ⟨r, 0, none⟩), .int .i64 t, .int .i64 x] w fun e w' => e = .returned (.int .i64 0) ∧ Rm S g w' r (c.note t x) (N.set t (N.getD t [] ++ [(x : Int)])) (M + 1) ∧ Fr g [] w w' := by
  obtain ⟨n, A, cap, dn, V, e, h1, h2, h3, h4, h5, h6, h7, h8, h9⟩ := h.mem
  obtain ⟨B, cb, k1, k2, k3, k4, k5⟩ := h9.at_ t (by rw [h.len]; exact ht)
  have hni := h9.noint h8
  have hri : HasInt w r := ⟨0, _, _, by rw [cell_in e]; rfl⟩
  have hrn : r ≠ n := fun ee => hni (ee ▸ hri)
  have hnt : n < w.heap.size := lt_of_heap h8
  refine (r9note_yes (w := w) (n := n) (k := c.owed.length) (m := (N.getD t []).length) (cb := cb) (B := B) (l := N.getD t []) t x (by rw [cell_in e]; rfl) ht hx (by rw [cell_in h8]; exact k1) (frozen_in h8 t) rfl (Nat.le_trans (h.few t) (by omega)) k2 k4).mono ?_
  rintro e0 w' ⟨rfl, A2, cap2, w2, ⟨hown, hb⟩, rfl⟩
  have hfr : Fr g [] w (w2.setCell ⟨n, t, none⟩ (.slice A2 ((N.getD t []).length + 1) cap2)) := by
    refine ⟨(hb.mono hg).trans ((Below.refl _ _).setCell h7 _), Nat.le_trans hb.size (size_set _ _ _), fun k _ hk hi => ?_⟩
    rw [heap_other _ _ _ _ _ (fun ee => hni (by rw [← ee]; exact hi))]
    exact hb.block k hk
  refine ⟨rfl, ?_, hfr⟩
  have hin : inT c.owed (t : Int) ∧ inLine (x : Int) := ⟨⟨by omega, by omega⟩, by omega, by omega⟩
  have ec : c.note t x = { c with noted := c.noted.set x true, owed := c.owed.set t (up (c.owed.getD t 0)) } := by unfold Ck.note; rw [if_pos hin]; simp
  have hl : (N.getD t [] ++ [(x : Int)]).length = (N.getD t []).length + 1 := by simp
  obtain ⟨A3, cap3, he3, hrow3, ha3, hb3⟩ := rowI_of_own hown (by rw [hl]; have := h.few t; omega)
  cases he3
  have hrl : rkL (c.note t x) n (.slice A c.left.length cap) dn = rkL c n (.slice A c.left.length cap) dn := by
    unfold rkL
    rw [Ck.note_now, Ck.note_dur, Ck.note_owed, Ck.note_ph]
  have hlN : t < N.length := by rw [h.len]; exact ht
  have hmv : ∀ k, k < w.heap.size → k ∉ S → HasInt w k → (w2.setCell ⟨n, t, none⟩ (.slice A2 ((N.getD t []).length + 1) cap2)).heap[k]? = w.heap[k]? := fun k hk _ hi => hfr.block k (by simp) hk hi
  refine ⟨h.ok.note t x, by rw [List.length_set, Ck.note_owed]; exact h.len, fun k hk => ?_, fun i hi => ?_, fun k => ?_, h.inr, h.gr, n, A, cap, dn, V.set t (.slice A2 ((N.getD t []).length + 1) cap2), ?_, ?_, ?_, ?_, h4, h5, h6, h7, ?_, ?_⟩
  · rw [List.length_set] at hk
    rw [ec]
    simp only
    rw [getD_set_int _ _ _ _ ht, getD_set_row _ _ _ _ hlN]
    split
    · rename_i ee
      subst ee
      rw [h.owed t hlN, up_small _ (by have := h.few t; omega), hl]
    · exact h.owed k hk
  · rw [anyN_set _ _ hlN, ec]
    simp only
    rw [getD_set_true _ _ _ (by rw [h.ok.noted]; exact hx), h.noted i hi]
    split
    · rename_i ee
      subst ee
      simp
    · rename_i ee
      have : ((x : Int) == (i : Int)) = false := by simp; omega
      rw [this, Bool.or_false]
  · rw [getD_set_row _ _ _ _ hlN]
    have := h.few t
    have := h.few k
    split
    · rw [hl]; omega
    · omega
  · rw [Ck.note_left, hrl, heap_other _ _ _ _ _ hrn]
    exact (hb.block r (lt_of_heap e)).trans e
  · rw [Ck.note_ph]; exact h1
  · rw [Ck.note_left]; exact h2.mv h5 hfr.size hmv
  · rw [Ck.note_left]; exact h3
  · rw [heap_setCell_same w2 n t _ _ _ ((hb.block n hnt).trans h8)]
    simp
  · refine ⟨by rw [List.length_set, List.length_set]; exact h9.len, fun k hk => ?_⟩
    rw [List.length_set] at hk
    rw [getD_set_row _ _ _ _ hlN]
    have h9' := h9.move hfr.size hmv
    split
    · rename_i ee
      subst ee
      refine ⟨A2, cap2, by rw [List.getElem?_set_self (by rw [h9.len]; exact hlN), hl], hrow3.move (size_set _ _ _) (fun y hy hlt => heap_other _ _ _ _ _ (fun ee => ?_)), by rw [hl]; exact own_cap hown, ha3, fun y hy hm => ?_⟩
      · have := hb3 y hy
        omega
      · have := hb3 y hy
        have := hS _ hm
        omega
    · rename_i ee
      obtain ⟨A', cap', q1, q2, q3, q4, q5⟩ := h9'.at_ k hk
      exact ⟨A', cap', by rw [List.getElem?_set_ne ee]; exact q1, q2, q3, q4, q5⟩
end
theorem madeS (w : World) (n : Nat) (hn : n ≤ 4) : ∃ w1, (Instr.makeSlice 83 (.int .i64 (n : Int)) (.int .i64 (n : Int))).run Try.prog w = .ok (.slice (some ⟨w.heap.size, 0, none⟩) n n) w1 ∧
    w1.heap[w.heap.size]? = some (.cells (List.replicate n (.slice none 0 0)).toArray 68 (0, 0)) ∧ Below w.heap.size w w1 ∧ w1.heap.size = w.heap.size + 1 := by
  obtain ⟨i, hi, hz, hs, hy⟩ : ∃ i, Try.prog.info? 68 = some i ∧ i.zero = some (.slice none 0 0) ∧ i.size = 1 ∧ i.bytes = 24 := by
    have h : (Try.prog.info? 68).map (fun i => (i.zero, i.size, i.bytes)) = some (some (.slice none 0 0), 1, 24) := by kernel_rfl
    obtain ⟨i, h1, h2⟩ := Option.map_eq_some_iff.1 h
    simp only [Prod.mk.injEq] at h2
    exact ⟨i, h1, h2.1, h2.2.1, h2.2.2⟩
  have hmk := run_make (P := Try.prog) w 83 68 i _ Try.underlying83 hi hz .i64 .i64 (n : Int) (n : Int) (by omega) (by omega) (by rw [hy]; omega) (by omega)
  rw [Int.toNat_natCast, hs, Nat.mul_one] at hmk
  obtain ⟨cur, hcur⟩ : ∃ cur, madeCells (Value.cells (.slice none 0 0)) n = cur := ⟨_, rfl⟩
  have hcl : cur.toList = List.replicate n (.slice none 0 0) := by
    rw [← hcur]
    exact toList_madeCells_one (.slice none 0 0) n
  rw [hcur] at hmk
  refine ⟨_, hmk, ?_, (Below.refl _ _).alloc (Nat.le_refl _) _, by simp⟩
  have e : cur = (List.replicate n (.slice none 0 0)).toArray := by
    apply Array.ext'
    rw [hcl]
  rw [← e]
  show (w.heap.push _)[w.heap.size]? = _
  simp
theorem rws_nil (S : List Nat) (w : World) (n : Nat) : Rws S w (List.replicate n (.slice none 0 0)) (List.replicate n []) := by
  refine ⟨by simp, fun t ht => ⟨none, 0, ?_, ?_, ?_, fun _ => rfl, fun x hx => by cases hx⟩⟩
  · rw [List.length_replicate] at ht
    rw [List.getElem?_replicate, if_pos ht, List.getD, List.getElem?_replicate, if_pos ht]
    rfl
  · rw [List.length_replicate] at ht
    rw [List.getD, List.getElem?_replicate, if_pos ht]
    exact rowI_nil _ _
  · rw [List.length_replicate] at ht
    rw [List.getD, List.getElem?_replicate, if_pos ht]
    exact Nat.le_refl _
theorem anyN_nil (n : Nat) (i : Int) : anyN (List.replicate n []) i = false := by
  unfold anyN
  induction n with
  | zero => rfl
  | succ n ih => rw [List.replicate_succ, List.any_cons, ih]; rfl
theorem getD_nil (n t : Nat) : (List.replicate n ([] : List Int)).getD t [] = [] := by
  rw [List.getD, List.getElem?_replicate]
  split <;> rfl
theorem getD_zero (n t : Nat) : (List.replicate n (0 : Int)).getD t 0 = 0 := by
  rw [List.getD, List.getElem?_replicate]
  split <;> rfl
/-- What New leaves. -/
def Made9 (w : World) (n d : Nat) (e : Ending) (w' : World) : Prop :=
  ∃ r nb, e = .returned (.tuple #[.pointer (some ⟨r, 0, none⟩), .int .i64 0]) ∧ w.heap.size ≤ r ∧ w.heap.size ≤ nb ∧ nb < w'.heap.size ∧ r ≠ nb ∧ (∀ (S : List Nat) (g : Nat), r ∈ S → nb ∉ S → g ≤ w.heap.size → Rm S g w' r (ck0 n d) (List.replicate n []) 0) ∧ Below w.heap.size w w'
set_option maxHeartbeats 400000 in
theorem r9new_bad (x : Int) (d : Int) (hx : x < 1 ∨ 4 < x) (w : World) : Calls Try.prog 10 #[.int .i64 x, .int .u64 d] w fun e w' => e = .returned (.tuple #[.pointer none, .int .i64 2]) ∧ w = w' := by
  rcases Classical.em (x < 1) with h1 | h1
  · clear hx
    go_enter Try.func10, Try.ntmps10
    go_wp2
    go_ret2
    exact ⟨rfl, rfl⟩
  · have h2 : 4 < x := by omega
    clear hx
    go_enter Try.func10, Try.ntmps10
    go_wp2
    go_ret2
    exact ⟨rfl, rfl⟩
set_option maxHeartbeats 400000 in
theorem r9new_end (n : Nat) (d : Int) (h1 : 1 ≤ n) (h4 : n ≤ 4) (hd : 1152921504606846976 < d) (w : World) : Calls Try.prog 10 #[.int .i64 n, .int .u64 d] w fun e w' => e = .returned (.tuple #[.pointer none, .int .i64 10]) ∧ w = w' := by
  have h2 : ¬ (n : Int) < 1 := by omega
  have h3 : ¬ (4 : Int) < (n : Int) := by omega
  clear h1 h4
  go_enter Try.func10, Try.ntmps10
  go_wp2
  go_ret2
  exact ⟨rfl, rfl⟩
set_option maxHeartbeats 800000 in
set_option maxRecDepth 100000 in
theorem r9new_ok (n d : Nat) (h1 : 1 ≤ n) (h4 : n ≤ 4) (hd : d ≤ 1152921504606846976) (w : World) : Calls Try.prog 10 #[.int .i64 n, .int .u64 d] w (Made9 w n d) := by
  obtain ⟨w1, hmk, hq, hb, hs⟩ := madeS w n h4
  obtain ⟨G, hG⟩ : ∃ G, w.heap.size = G := ⟨_, rfl⟩
  rw [hG] at hmk hq hb hs
  have hw := u64_up d (by omega)
  have HFIN : Hid (Made9 w n d (.returned (.tuple #[.pointer (some ⟨w1.heap.size, 0, none⟩), .int .i64 0])) (w1.alloc (.cells #[.int .u64 ((d + 1 : Nat) : Int), .int .u64 (d : Nat), .slice (some ⟨G, 0, none⟩) n n, .bool false, .slice none 0 0, .int .i64 0] 85))) := by
    have hA := heap_alloc_new w1 (.cells #[.int .u64 ((d + 1 : Nat) : Int), .int .u64 (d : Nat), .slice (some ⟨G, 0, none⟩) n n, .bool false, .slice none 0 0, .int .i64 0] 85)
    have hb2 : Below G w (w1.alloc (.cells #[.int .u64 ((d + 1 : Nat) : Int), .int .u64 (d : Nat), .slice (some ⟨G, 0, none⟩) n n, .bool false, .slice none 0 0, .int .i64 0] 85)) := hb.alloc (by omega) _
    have hGn : (w1.alloc (.cells #[.int .u64 ((d + 1 : Nat) : Int), .int .u64 (d : Nat), .slice (some ⟨G, 0, none⟩) n n, .bool false, .slice none 0 0, .int .i64 0] 85)).heap[G]? = some (.cells (List.replicate n (.slice none 0 0)).toArray 68 (0, 0)) := by
      rw [Below.heap_alloc _ _ _ (by omega)]
      exact hq
    refine ⟨w1.heap.size, G, rfl, by omega, by omega, lt_of_heap hGn, by omega, fun S g hr hn hg => ?_, by rw [hG]; exact hb2⟩
    refine ⟨ck0_ok h1 h4 (by omega), by simp [ck0], fun t ht => ?_, fun i hi => ?_, fun t => by rw [getD_nil]; exact Nat.le_refl _, hr, by omega, G, none, 0, 0, List.replicate n (.slice none 0 0), ?_, fun e => absurd rfl e, rowI_nil _ _, Nat.le_refl _, fun _ => rfl, fun x hx => (by cases hx), hn, by omega, hGn, rws_nil S _ n⟩
    · rw [getD_nil]
      exact getD_zero n t
    · rw [anyN_nil]
      exact noLines_at i
    · rw [hA]
      simp [rkL, ck0, Ck.now]
  have hn1 : ¬ (n : Int) < 1 := by omega
  have hn4 : ¬ (4 : Int) < (n : Int) := by omega
  have hdd : ¬ (1152921504606846976 : Int) < (d : Int) := by omega
  generalize ((d + 1 : Nat) : Int) = d1 at *
  generalize Made9 w n d = R at *
  clear hq hb hG h1 h4 hd hs
  go_enter Try.func10, Try.ntmps10
  go_wp2
  exact HFIN.out
/-- The six cells of the chapter's own clock. -/
def R6 (now dur n k : Nat) (b : Bool) (V : Value) (dn : Int) : List Value := [.int .u64 (now : Nat), .int .u64 (dur : Nat), .slice (some ⟨n, 0, none⟩) k k, .bool b, V, .int .i64 dn]
theorem r6_set {w : World} {r : Nat} {l l' : List Value} {T : TypeId} (h : w.heap[r]? = some (.cells l.toArray T (0, 0))) (j : Nat) (v : Value) (e : l.set j v = l') : (w.setCell ⟨r, j, none⟩ v).heap[r]? = some (.cells l'.toArray T (0, 0)) := by
  rw [heap_setCell_same w r j _ T _ h, ← e]
  simp
theorem r6_store {P : Program} {w : World} {r : Nat} {l l' : List Value} {T : TypeId} (h : w.heap[r]? = some (.cells l.toArray T (0, 0))) (j : Nat) (v : Value) (hj : j < l.length) (hv : v.oneCell' = true) (e : l.set j v = l') :
    ∃ w', (storeCells ⟨r, j, none⟩ [v]).run P w = .ok () w' ∧ w'.heap[r]? = some (.cells l'.toArray T (0, 0)) ∧ Turns r r w w' :=
  ⟨_, store_one w r j v _ (by rw [cell_in h, List.getElem?_eq_getElem hj]) (frozen_in h j) hv, r6_set h j v e, turns_p r r w j v⟩
theorem Turns.other {r : Nat} {w w' : World} (h : Turns r r w w') {k : Nat} (hk : k ≠ r) (hlt : k < w.heap.size) : w'.heap[k]? = w.heap[k]? := h.block k hk hk hlt
theorem RowsAt.turns {w w' : World} {n k r : Nat} {N : List (List Int)} (h : RowsAt w n k N) (ht : Turns r r w w') (hn : n ≠ r) (hb : ∀ t, t < k → ∀ B m cb, w.cell? ⟨n, t, none⟩ = some (.slice B m cb) → ∀ x, B = some x → x.block ≠ r) : RowsAt w' n k N := fun t htk => by
  obtain ⟨B, cb, e, hr⟩ := h t htk
  exact ⟨B, cb, (World.cell?_of_block (w := w) (a := ⟨n, t, none⟩) (ht.other hn (cell_lt e))).trans e, hr.move ht.size (fun x hx hlt => ht.other (hb t htk B _ cb e x hx) hlt)⟩
set_option maxHeartbeats 400000 in
theorem r9begin_busy {S : List Nat} {g r M : Nat} {w : World} {c : Ck} {N : List (List Int)} (h : Rm S g w r c N M) (e : c.ph ≠ 0) : Calls Try.prog 18 #[.pointer (some ⟨r, 0, none⟩)] w fun e w' => e = .returned (.int .i64 7) ∧ w = w' := by
  obtain ⟨n, A, cap, dn, _, _, _, c3, _⟩ := h.reads
  rw [decide_eq_false e, Bool.not_false] at c3
  clear h e
  go_enter Try.func18, Try.ntmps18
  go_wp2
  go_ret
  exact ⟨rfl, rfl⟩
theorem begin9_tail {w : World} {r now dur n k : Nat} {V : Value} {dn : Int} {T : TypeId} (h : w.heap[r]? = some (.cells (R6 now dur n k false V dn).toArray T (0, 0))) (hk : k ≤ 4) (now2 : Nat) :
    ∃ w2 w3 w4 w5 w6, (Instr.makeSlice 83 (.int .i64 (k : Int)) (.int .i64 (k : Int))).run Try.prog w = .ok (.slice (some ⟨w.heap.size, 0, none⟩) k k) w2 ∧ (storeCells ⟨r, 2, none⟩ [.slice (some ⟨w.heap.size, 0, none⟩) k k]).run Try.prog w2 = .ok () w3 ∧
      (storeCells ⟨r, 3, none⟩ [.bool true]).run Try.prog w3 = .ok () w4 ∧ (storeCells ⟨r, 5, none⟩ [.int .i64 0]).run Try.prog w4 = .ok () w5 ∧ w5.cell? ⟨r, 0, none⟩ = some (.int .u64 (now : Nat)) ∧ (storeCells ⟨r, 0, none⟩ [.int .u64 (now2 : Nat)]).run Try.prog w5 = .ok () w6 ∧
      w2.cell? ⟨r, 2, none⟩ = some (.slice (some ⟨n, 0, none⟩) k k) ∧ w6.heap[r]? = some (.cells (R6 now2 dur w.heap.size k true V 0).toArray T (0, 0)) ∧ w6.heap[w.heap.size]? = some (.cells (List.replicate k (.slice none 0 0)).toArray 68 (0, 0)) ∧ Turns r r w w6 := by
  obtain ⟨w2, hmk, hq, hb, hs⟩ := madeS w k hk
  have hr := lt_of_heap h
  have h2 := (hb.block r hr).trans h
  obtain ⟨w3, e3, h3, t3⟩ := r6_store (P := Try.prog) h2 2 (.slice (some ⟨w.heap.size, 0, none⟩) k k) (by simp [R6]) rfl (l' := R6 now dur w.heap.size k false V dn) rfl
  obtain ⟨w4, e4, h4, t4⟩ := r6_store (P := Try.prog) h3 3 (.bool true) (by simp [R6]) rfl (l' := R6 now dur w.heap.size k true V dn) rfl
  obtain ⟨w5, e5, h5, t5⟩ := r6_store (P := Try.prog) h4 5 (.int .i64 0) (by simp [R6]) rfl (l' := R6 now dur w.heap.size k true V 0) rfl
  obtain ⟨w6, e6, h6, t6⟩ := r6_store (P := Try.prog) h5 0 (.int .u64 (now2 : Nat)) (by simp [R6]) rfl (l' := R6 now2 dur w.heap.size k true V 0) rfl
  have tt := ((t3.trans t4).trans t5).trans t6
  exact ⟨w2, w3, w4, w5, w6, hmk, e3, e4, e5, by rw [cell_in h5]; rfl, e6, by rw [cell_in h2]; rfl, h6, (tt.other (by omega) (by omega)).trans hq, (Turns.of_below hb r r).trans tt⟩
theorem size_bool9 : (Try.prog.info? 4).map (·.size) = some 1 := by kernel_rfl
theorem size_u64 : (Try.prog.info? 22).map (·.size) = some 1 := by kernel_rfl
theorem size_rows : (Try.prog.info? 83).map (·.size) = some 1 := by kernel_rfl
/-- What Begin leaves. -/
def Begun9 (w : World) (r dur k now2 : Nat) (l : List Int) (e : Ending) (w' : World) : Prop := e = .returned (.int .i64 0) ∧ ∃ A cap n, w'.heap[r]? = some (.cells (R6 now2 dur n k true (.slice A l.length cap) 0).toArray 85 (0, 0)) ∧ RowI w' A l ∧ l.length ≤ cap ∧ (A = none → cap = 0) ∧ (∀ x, A = some x → w.heap.size ≤ x.block) ∧ w.heap.size ≤ n ∧ w'.heap[n]? = some (.cells (List.replicate k (.slice none 0 0)).toArray 68 (0, 0)) ∧ Turns r r w w'
set_option maxHeartbeats 3200000 in
set_option maxRecDepth 100000 in
theorem r9begin_raw {w : World} {r now dur n k now2 : Nat} {V0 : Value} {dn : Int} {N : List (List Int)} (h : w.heap[r]? = some (.cells (R6 now dur n k false V0 dn).toArray 85 (0, 0))) (hnr : n ≠ r) (hN : N.length = k) (hk : k ≤ 4) (hrow : RowsAt w n k N)
    (hb : ∀ t, t < k → ∀ B m cb, w.cell? ⟨n, t, none⟩ = some (.slice B m cb) → ∀ x, B = some x → x.block ≠ r) (noted : List Bool) (hl : noted.length = 258) (hno : ∀ i : Nat, i < 258 → noted.getD i false = anyN N i) (hn2 : IntKind.u64.wrap ((now : Int) + 1) = ((now2 : Nat) : Int)) :
    Calls Try.prog 18 #[.pointer (some ⟨r, 0, none⟩)] w (Begun9 w r dur k now2 (lin 0 noted)) := by
  obtain ⟨G, hG⟩ : ∃ G, w.heap.size = G := ⟨_, rfl⟩
  have hrG : r < G := hG ▸ lt_of_heap h
  have hc3 : w.cell? ⟨r, 3, none⟩ = some (.bool false) := by rw [cell_in h]; rfl
  obtain ⟨w1, e1, h1, t1⟩ := r6_store (P := Try.prog) h 4 (.slice none 0 0) (by simp [R6]) rfl (l' := R6 now dur n k false (.slice none 0 0) dn) rfl
  have E1 := Lib.hid e1
  have H1 := Lib.hid h1
  have T1 := Lib.hid t1
  have HNO := Lib.hid (fun wx (ht : Turns r r w wx) (hc : wx.cell? ⟨r, 2, none⟩ = some (.slice (some ⟨n, 0, none⟩) k k)) (i : Nat) (hi : i < 258) (b : Bool) (hb' : noted.getD i false = b) => (by
    have := r9noted_raw hc hN hk (hrow.turns ht hnr hb) (i : Int)
    rw [← hno i hi, hb'] at this
    exact this : Calls Try.prog 42 #[.pointer (some ⟨r, 0, none⟩), .int .i64 i] wx fun e w' => e = .returned (.bool b) ∧ wx = w'))
  have HL := Lib.hid hl
  have HK := Lib.hid hk
  have HG := Lib.hid hG
  have HRG := Lib.hid hrG
  have HFIN : Hid (∀ wr V (w' : World) (nn : Nat), Turns r r w wr → wr.ownsRow G 3 1 V (lin 0 noted).length (encI (lin 0 noted)) → wr.heap.size = nn → w'.heap[r]? = some (.cells (R6 now2 dur nn k true V 0).toArray 85 (0, 0)) → w'.heap[nn]? = some (.cells (List.replicate k (.slice none 0 0)).toArray 68 (0, 0)) → Turns r r wr w' → Begun9 w r dur k now2 (lin 0 noted) (.returned (.int .i64 0)) w') := fun wr V w' nn t2 ho hnn h6 hn6 t6 => by
    obtain ⟨A, cap, rfl, q1, q2, q3⟩ := rowI_of_own ho (by have := lin_len noted 0; omega)
    exact ⟨rfl, A, cap, nn, h6, q1.move t6.size (fun x hx hlt => t6.other (by have := q3 x hx; omega) hlt), own_cap ho, q2, fun x hx => by rw [hG]; exact q3 x hx, by rw [← hnn]; exact t2.size, hn6, t2.trans t6⟩
  have HW2 := Lib.hid hn2
  generalize Begun9 w r dur k now2 (lin 0 noted) = R at *
  clear h hrow hb hno e1 h1 t1 hl hG hN hnr hn2
  go_enter Try.func18, Try.ntmps18
  go_wp2_with ((with_reducible show wpList _ _ _ (⟨none, .store 68 _ _, _, _, _, _⟩ :: _) _ _); refine wpList_store_run (o := ⟨none, .store 68 _ _, _, _, _, _⟩) rfl _ _ _ rfl rfl rfl rfl rfl size_ints E1.out ?_)
  clear hc3
  go_loopg [3] 258 (fun gk s3 wx => ∃ (i : Nat) (V : Value), i + gk = 258 ∧ s3 = .int .i64 i ∧ Hid (wx.heap[r]? = some (.cells (R6 now dur n k false V dn).toArray 85 (0, 0))) ∧ Hid (wx.ownsRow G 3 1 V (lin 0 (noted.take i)).length (encI (lin 0 (noted.take i)))) ∧ Hid (Turns r r w wx))
  case atStart => exact ⟨0, _, by omega, rfl, H1, World.ownsRow_nil _ _ _ _, T1⟩
  case round =>
    obtain ⟨i, V, hig, rfl, HH, HO, HT⟩ := hrel
    have c2 : wr.cell? ⟨r, 2, none⟩ = some (.slice (some ⟨n, 0, none⟩) k k) := by rw [cell_in HH.out]; rfl
    have c4 : wr.cell? ⟨r, 4, none⟩ = some V := by rw [cell_in HH.out]; rfl
    cases gk with
    | zero =>
      obtain rfl : i = 258 := by omega
      have HO2 : Hid (wr.ownsRow G 3 1 V (lin 0 noted).length (encI (lin 0 noted))) := by
        have := HO.out
        rw [List.take_of_length_le (Nat.le_of_eq HL.out)] at this
        exact this
      obtain ⟨w2, w3, w4, w5, w6, hmk, e3, e4, e5, c0, e6, c22, h6, hn6, t6⟩ := begin9_tail HH.out HK.out now2
      obtain ⟨nn, hnn⟩ : ∃ nn, wr.heap.size = nn := ⟨_, rfl⟩
      rw [hnn] at hmk e3 h6 hn6
      have E3 := Lib.hid e3
      have E4 := Lib.hid e4
      have E5 := Lib.hid e5
      have E6 := Lib.hid e6
      have HE := Lib.hid (HFIN.out wr V w6 nn HT.out HO2.out hnn h6 hn6 t6)
      have hw2 := HW2.out
      generalize ((now2 : Nat) : Int) = nw at *
      clear e3 e4 e5 e6 h6 hn6 t6 HNO c4 hnn
      go_wp2_with (first
        | ((with_reducible show wpList _ _ _ (⟨none, .store 83 _ _, _, _, _, _⟩ :: _) _ _); refine wpList_store_run (o := ⟨none, .store 83 _ _, _, _, _, _⟩) rfl _ _ _ rfl rfl rfl rfl rfl size_rows E3.out ?_)
        | ((with_reducible show wpList _ _ _ (⟨none, .store 4 _ _, _, _, _, _⟩ :: _) _ _); refine wpList_store_run (o := ⟨none, .store 4 _ _, _, _, _, _⟩) rfl _ _ _ rfl rfl rfl rfl rfl size_bool9 E4.out ?_)
        | ((with_reducible show wpList _ _ _ (⟨none, .store 3 _ _, _, _, _, _⟩ :: _) _ _); refine wpList_store_run (o := ⟨none, .store 3 _ _, _, _, _, _⟩) rfl _ _ _ rfl rfl rfl rfl rfl size_int E5.out ?_)
        | ((with_reducible show wpList _ _ _ (⟨none, .store 22 _ _, _, _, _, _⟩ :: _) _ _); refine wpList_store_run (o := ⟨none, .store 22 _ _, _, _, _, _⟩) rfl _ _ _ rfl rfl rfl rfl rfl size_u64 E6.out ?_))
      exact HE.out
    | succ gk =>
      have hii : (i : Int) < 258 := by omega
      have hi : i < 258 := by omega
      have hlen : (lin 0 (noted.take i)).length < 134217728 := by
        have h1 := lin_len (noted.take i) 0
        have h2 := List.length_take_le i noted
        omega
      cases hf : noted.getD i false with
      | false =>
        have HNC := Lib.hid (HNO.out wr HT.out c2 i hi false hf)
        have HTK := Lib.hid (lin_take_no noted i (by rw [HL.out]; exact hi) hf)
        clear hf c4
        go_wp2_with fail
        refine HNC.out.mono ?_
        rintro e w' ⟨rfl, rfl⟩
        go_wp2
        go_roundg gk
        case measure => omega
        case rel => exact ⟨i + 1, V, by omega, by go_num, HH, (by rw [HTK.out]; exact HO), HT⟩
      | true =>
        have HNC := Lib.hid (HNO.out wr HT.out c2 i hi true hf)
        have HTK := Lib.hid (lin_take_yes noted i (by rw [HL.out]; exact hi) hf)
        obtain ⟨V', w', hrun, hown, hb'⟩ := run_appI_one wr G V (lin 0 (noted.take i)) (i : Int) HO.out hlen (by have := HT.out.size; have := HG.out; omega)
        obtain ⟨A, cap, rfl, _⟩ := rowI_of_own hown (by simp; omega)
        have HRUN : Hid (Sem.run Try.prog (Builtin.append_ #[68, 68] 68 #[V, .slice (some ⟨wr.heap.size, 0, none⟩) 1 1]) (wr.alloc (.cells #[.int .i64 (i : Int)] 3)) = .ok (.slice A ((lin 0 (noted.take i)).length + 1) cap) w') := hrun
        have hh' := (hb'.block r HRG.out).trans HH.out
        obtain ⟨w'', e2, h2, t2⟩ := r6_store (P := Try.prog) hh' 4 (.slice A ((lin 0 (noted.take i)).length + 1) cap) (by simp [R6]) rfl (l' := R6 now dur n k false (.slice A ((lin 0 (noted.take i)).length + 1) cap) dn) rfl
        have hT2 : Turns r r w w'' := (show Turns r r w w' from ⟨hb'.os.trans HT.out.os, hb'.tape.trans HT.out.tape, hb'.output.trans HT.out.output, Nat.le_trans HT.out.size hb'.size, fun q hq _ hlt => (hb'.block q (by have := HG.out; omega)).trans (HT.out.other hq hlt)⟩).trans t2
        have HO2 : Hid (w''.ownsRow G 3 1 (.slice A ((lin 0 (noted.take i)).length + 1) cap) ((lin 0 (noted.take i)).length + 1) (encI (lin 0 (noted.take i) ++ [(i : Int)]))) := own_turns hown t2 HRG.out HRG.out
        have E2 := Lib.hid e2
        have H2 := Lib.hid h2
        have HT2 := Lib.hid hT2
        clear hf hrun hown hb' hh' e2 h2 t2 hT2
        go_wp2_with fail
        refine HNC.out.mono ?_
        rintro e w9 ⟨rfl, rfl⟩
        go_wp2_with (first
          | (at_builtin; refine wpList_app rfl (.tmp 22) (.tmp 24) 68 rfl rfl rfl HRUN.out ?_)
          | ((with_reducible show wpList _ _ _ (⟨none, .store 68 _ _, _, _, _, _⟩ :: _) _ _); refine wpList_store_run (o := ⟨none, .store 68 _ _, _, _, _, _⟩) rfl _ _ _ rfl rfl rfl rfl rfl size_ints E2.out ?_))
        go_roundg gk
        case measure => omega
        case rel => exact ⟨i + 1, _, by omega, by go_num, H2, (by rw [HTK.out]; simp only [List.length_append, List.length_singleton]; exact HO2), HT2⟩
section
variable {S L : List Nat} {g : Nat} {w w' : World} {r M : Nat} {c : Ck} {N : List (List Int)}
theorem Rm.again (h : Rm S g w r c N M) {n : Nat} {V : List Value} (h6 : n ∉ S) (h7 : g ≤ n) (h8 : w.heap[n]? = some (.cells V.toArray 68 (0, 0))) (h9 : Rws S w V N) (c' : Ck) (hok : c'.ok) (ho : c'.owed = c.owed) (hno : c'.noted = c.noted) (k : Keeps L w w') (hL : ∀ x ∈ L, x ∈ S)
    (A : Option Addr) (cap : Nat) (dn : Int) (hdn : c'.ph ≠ 0 → dn = doneN c'.ph) (hrow : RowI w' A c'.left) (hc : c'.left.length ≤ cap) (ha : A = none → cap = 0) (hS : ∀ x, A = some x → x.block ∉ S)
    (e : w'.heap[r]? = some (.cells (rkL c' n (.slice A c'.left.length cap) dn).toArray 85 (0, 0))) : Rm S g w' r c' N M :=
  ⟨hok, by rw [ho]; exact h.len, by rw [ho]; exact h.owed, by rw [hno]; exact h.noted, h.few, h.inr, h.gr, n, A, cap, dn, V, e, hdn, hrow, hc, ha, hS, h6, h7, (k.block n (fun hm => h6 (hL _ hm)) (lt_of_heap h8)).trans h8, h9.move k.size (fun i hi hn _ => k.block i (fun hm => hn (hL _ hm)) hi)⟩
theorem Rm.mono (h : Rm S g w r c N M) {M' : Nat} (hM : M ≤ M') : Rm S g w r c N M' := ⟨h.ok, h.len, h.owed, h.noted, fun t => Nat.le_trans (h.few t) hM, h.inr, h.gr, h.mem⟩
set_option maxHeartbeats 800000 in
theorem Rm.noteNo (h : Rm S g w r c N M) (t x : Int) (hn : ¬ (inT c.owed t ∧ inLine x)) : Calls Try.prog 16 #[.pointer (some ⟨r, 0, none⟩), .int .i64 t, .int .i64 x] w fun e w' => e = .returned (.int .i64 (c.noteE t x)) ∧ w = w' := by
  obtain ⟨n, A, cap, dn, _, _, c2, _⟩ := h.reads
  have h4 := h.ok.four
  rcases Classical.em (inT c.owed t) with ht | ht
  · have hx : ¬ inLine x := fun e => hn ⟨ht, e⟩
    have he : c.noteE t x = 2 := by unfold Ck.noteE; rw [if_pos ht, if_neg hx]
    rw [he]
    have h1 : ¬ t < 0 := by have := ht.1; omega
    have h2 : ¬ (c.owed.length : Int) ≤ t := by have := ht.2; omega
    unfold inLine at hx
    clear h hn he ht
    generalize c.owed.length = k at *
    rcases Classical.em (x < 0) with h3 | h3
    · clear hx
      go_enter Try.func16, Try.ntmps16
      go_wp2
      go_ret
      exact ⟨rfl, rfl⟩
    · have h5 : (258 : Int) ≤ x := by omega
      clear hx
      go_enter Try.func16, Try.ntmps16
      go_wp2
      go_ret
      exact ⟨rfl, rfl⟩
  · have he : c.noteE t x = 1 := by unfold Ck.noteE; rw [if_neg ht]
    rw [he]
    unfold inT at ht
    clear h hn he
    generalize c.owed.length = k at *
    rcases Classical.em (t < 0) with h3 | h3
    · clear ht
      go_enter Try.func16, Try.ntmps16
      go_wp2
      go_ret
      exact ⟨rfl, rfl⟩
    · have h5 : (k : Int) ≤ t := by omega
      clear ht
      go_enter Try.func16, Try.ntmps16
      go_wp2
      go_ret
      exact ⟨rfl, rfl⟩
theorem Rm.note (h : Rm S g w r c N M) (hM : M ≤ 500) (t x : Int) (hS : ∀ y ∈ S, y < w.heap.size) (hg : g ≤ w.heap.size) :
    Calls Try.prog 16 #[.pointer (some ⟨r, 0, none⟩), .int .i64 t, .int .i64 x] w fun e w' => e = .returned (.int .i64 (c.noteE t x)) ∧ (∃ N', Rm S g w' r (c.note t x) N' (M + 1)) ∧ Fr g [] w w' := by
  rcases Classical.em (inT c.owed t ∧ inLine x) with hn | hn
  · obtain ⟨i, rfl⟩ := Int.eq_ofNat_of_zero_le hn.1.1
    obtain ⟨j, rfl⟩ := Int.eq_ofNat_of_zero_le hn.2.1
    have he : c.noteE i j = 0 := by unfold Ck.noteE; rw [if_pos hn.1, if_pos hn.2]
    rw [he]
    exact (h.noteOk hM i j (by have := hn.1.2; omega) (by have := hn.2.2; omega) hS hg).mono fun _ _ ⟨e, h1, h2⟩ => ⟨e, ⟨_, h1⟩, h2⟩
  · have hc : c.note t x = c := by unfold Ck.note; rw [if_neg hn]
    rw [hc]
    refine (h.noteNo t x hn).mono ?_
    rintro e w' ⟨rfl, rfl⟩
    exact ⟨rfl, ⟨N, h.mono (by omega)⟩, Fr.of_below (Below.refl _ _) hg⟩
theorem Rm.begin_ (h : Rm S g w r c N M) (hS : ∀ y ∈ S, y < w.heap.size) (hg : g ≤ w.heap.size) :
    Calls Try.prog 18 #[.pointer (some ⟨r, 0, none⟩)] w fun e w' => e = .returned (.int .i64 c.beginE) ∧ (∃ N', Rm S g w' r c.begin_ N' M) ∧ Fr g [r] w w' := by
  rcases Nat.eq_zero_or_pos c.ph with e | e
  · obtain ⟨b1, _, b3, b4⟩ := begin_yes e
    have ec : c.begin_ = c.begun := by unfold Ck.begin_; rw [if_pos e]
    rw [b1]
    rw [ec] at b3 b4 ⊢
    obtain ⟨n, A, cap, dn, V, e0, h1, h2, h3, h4, h5, h6, h7, h8, h9⟩ := h.mem
    have hnr : n ≠ r := fun ee => h6 (ee ▸ h.inr)
    have hnow : c.now = c.dur + 1 := by unfold Ck.now; rw [if_pos e]
    have hr6 : rkL c n (.slice A c.left.length cap) dn = R6 c.now c.dur n c.owed.length false (.slice A c.left.length cap) dn := by unfold rkL R6; rw [decide_eq_true e, Bool.not_true]
    have hrowN : ∀ t, t < c.owed.length → ∃ B cb, V[t]? = some (.slice B (N.getD t []).length cb) ∧ RowI w B (N.getD t []) ∧ ∀ x, B = some x → x.block ∉ S := fun t ht => by
      obtain ⟨B, cb, q1, q2, _, _, q5⟩ := h9.at_ t (by rw [h.len]; exact ht)
      exact ⟨B, cb, q1, q2, q5⟩
    rw [hr6] at e0
    refine (r9begin_raw (now2 := c.dur + 2) e0 hnr h.len h.ok.four (fun t ht => ?_) (fun t ht B m cb hcell x hx => ?_) c.noted h.ok.noted h.noted ?_).mono ?_
    · obtain ⟨B, cb, q1, q2, _⟩ := hrowN t ht
      exact ⟨B, cb, by rw [cell_in h8]; exact q1, q2⟩
    · obtain ⟨B', cb', q1, _, q3⟩ := hrowN t ht
      rw [cell_in h8, q1] at hcell
      cases hcell
      intro ee
      exact q3 x hx (ee ▸ h.inr)
    · rw [hnow]
      exact u64_up (c.dur + 1) (by have := h.ok.lt; omega)
    · rintro e1 w' ⟨rfl, A', cap', n', q1, q2, q3, q4, q5, q6, q7, q8⟩
      refine ⟨rfl, ⟨List.replicate c.owed.length [], h.ok.begun, by simp [Ck.begun], fun t _ => ?_, fun i hi => ?_, fun t => by rw [getD_nil]; exact Nat.zero_le _, h.inr, h.gr, n', A', cap', 0, List.replicate c.owed.length (.slice none 0 0), ?_, fun _ => ?_, q2, q3, q4, fun x hx hm => ?_, fun hm => ?_, by omega, q7, rws_nil S w' _⟩, Fr.of_keeps (q8.keeps (by simp) (by simp)) (by intro y hy; simp at hy; subst hy; exact h.gr) hg⟩
      · rw [getD_nil]
        exact getD_zero _ t
      · rw [anyN_nil]
        exact noLines_at i
      · have hr7 : rkL c.begun n' (.slice A' c.begun.left.length cap') 0 = R6 (c.dur + 2) c.dur n' c.owed.length true (.slice A' (lin 0 c.noted).length cap') 0 := by
          unfold rkL R6
          rw [b4, decide_eq_false b3, Bool.not_false]
          simp [Ck.begun]
        rw [hr7]
        exact q1
      · have := nx_le (lin 0 c.noted)
        show (0 : Int) = doneN (nx (lin 0 c.noted))
        unfold doneN
        rw [if_neg (by omega), if_neg (by omega), if_neg (by omega)]
      · have := q5 x hx
        have := hS _ hm
        omega
      · have := hS _ hm
        omega
  · obtain ⟨b1, b2⟩ := begin_no (show c.ph ≠ 0 by omega)
    rw [b1, b2]
    refine (r9begin_busy h (by omega)).mono ?_
    rintro e1 w' ⟨rfl, rfl⟩
    exact ⟨rfl, ⟨N, h⟩, Fr.of_below (Below.refl _ _) hg⟩
end

end Go.Proofs.Ytkcjamjjaallhaa
