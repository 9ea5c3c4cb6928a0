/-
  Proved here: what package nvm's linesThat, Loose and Way answer: the numbers of the lines, rising, in memory of their own.
  Conditions: a device of at most 258 lines.
-/
import Derived.Test.YtkcjamjjaallhaaNvmC
import Derived.Test.YtkcjamjjaallhaaInts
namespace Go.Proofs.Ytkcjamjjaallhaa
open Go Go.RowKit

/-- The numbers of the lines of which f is true, from number k on. -/
def idx (f : Cl → Bool) (k : Nat) : List Cl → List Int
  | [] => []
  | c :: st => if f c then (k : Int) :: idx f (k + 1) st else idx f (k + 1) st
theorem idx_snoc (f : Cl → Bool) (st : List Cl) (k : Nat) (c : Cl) : idx f k (st ++ [c]) = idx f k st ++ if f c then [((k + st.length : Nat) : Int)] else [] := by
  induction st generalizing k with
  | nil => simp [idx]
  | cons d st ih =>
    simp only [List.cons_append, idx, ih, List.length_cons, show k + 1 + st.length = k + (st.length + 1) by omega]
    split <;> simp
theorem idx_len (f : Cl → Bool) (st : List Cl) (k : Nat) : (idx f k st).length ≤ st.length := by
  induction st generalizing k with
  | nil => simp [idx]
  | cons d st ih =>
    have := ih (k + 1)
    simp only [idx, List.length_cons]
    split <;> simp <;> omega
theorem idx_take (f : Cl → Bool) (st : List Cl) (i : Nat) (c : Cl) (hc : st[i]? = some c) : idx f 0 (st.take (i + 1)) = idx f 0 (st.take i) ++ if f c then [(i : Int)] else [] := by
  obtain ⟨hi, rfl⟩ := List.getElem?_eq_some_iff.1 hc
  rw [List.take_succ_eq_append_getElem hi, idx_snoc, List.length_take, Nat.zero_add, Nat.min_eq_left (by omega)]

/-- A list of lines that the call made. -/
def Listed (w : World) (l : List Int) (e : Ending) (w' : World) : Prop :=
  ∃ v, e = .returned v ∧ w'.ownsRow w.heap.size 3 1 v l.length (encI l) ∧ Below w.heap.size w w'

set_option maxHeartbeats 400000 in
theorem lines_nil (v : Value) (w : World) : Calls Try.prog 74 #[.pointer none, v] w fun e w' => e = .returned (.slice none 0 0) ∧ w = w' := by
  go_enter Try.func74, Try.ntmps74
  go_wp2
  go_ret
  exact ⟨rfl, rfl⟩

set_option maxHeartbeats 800000 in
theorem lines_ok {w : World} {p q : Nat} {st : List Cl} {cs : List Int} (h : DvP w p q st cs) (F : Nat) (f : Cl → Bool) (hE : ∀ (args : Array Value) (w : World), (callFunc F args).run Try.prog w = .ok (.enter F args) w)
    (hF : ∀ (w' : World) (i : Nat) (c : Cl), DvP w' p q st cs → st[i]? = some c → Calls Try.prog F #[.pointer (some ⟨q, i * 193, none⟩)] w' fun e w'' => e = .returned (.bool (f c)) ∧ ∃ n, w'' = w'.drewN n) :
    Calls Try.prog 74 #[.pointer (some ⟨p, 0, none⟩), .func (.func F) #[] #[]] w (Listed w (idx f 0 st)) := by
  obtain ⟨cap, hsl, hcap⟩ := h.slice
  have HF := Lib.hid hF
  have HD := Lib.hid h
  have hn := h.len
  obtain ⟨n, hn'⟩ : ∃ n, st.length = n := ⟨_, rfl⟩
  have HN := Lib.hid hn'
  rw [hn'] at hsl hn hcap
  obtain ⟨g, hg⟩ : ∃ g, w.heap.size = g := ⟨_, rfl⟩
  have HG := Lib.hid hg
  have HFIN : Hid (∀ v w', w'.ownsRow g 3 1 v (idx f 0 st).length (encI (idx f 0 st)) → Below g w w' → Listed w (idx f 0 st) (.returned v) w') := fun v w' h1 h2 => ⟨v, rfl, hg ▸ h1, hg ▸ h2⟩
  generalize hR : Listed w (idx f 0 st) = R at *
  clear hF hR h hn' hg
  go_enter Try.func74, Try.ntmps74
  go_wp2
  go_loopg [5, 6, 14] n (fun gk s5 s6 s14 wx => ∃ (i : Nat) (V : Value), i + gk = n ∧ s14 = .int .i64 i ∧ V = s5 ∧ Hid (wx.ownsRow g 3 1 V (idx f 0 (st.take i)).length (encI (idx f 0 (st.take i)))) ∧ Hid (Below g w wx))
  case atStart => exact ⟨0, _, by omega, rfl, rfl, World.ownsRow_nil _ _ _ _, Below.refl _ _⟩
  case round =>
    obtain ⟨i, V, hig, rfl, rfl, HO, HW⟩ := hrel
    have hDr : DvP wr p q st cs := HD.out.below (HG.out ▸ HW.out)
    have hslr : wr.cell? ⟨p, 0, none⟩ = some (.slice (some ⟨q, 0, none⟩) n cap) := (HW.out.cell (p := ⟨p, 0, none⟩) (by have := HD.out.lt_p; have := HG.out; show p < g; omega)).trans hsl
    have HDr := Lib.hid hDr
    clear hDr
    cases gk with
    | zero =>
      obtain rfl : i = n := by omega
      have hii : ¬ (i : Int) < (i : Int) := by omega
      have HO2 : Hid (wr.ownsRow g 3 1 V (idx f 0 st).length (encI (idx f 0 st))) := by
        have := HO.out
        rw [List.take_of_length_le (Nat.le_of_eq HN.out)] at this
        exact this
      go_wp2
      exact HFIN.out _ _ HO2.out HW.out
    | succ gk =>
      have hii : (i : Int) < (n : Int) := by omega
      have hi : i < st.length := by have := HN.out; omega
      obtain ⟨c, hc⟩ : ∃ c, st[i]? = some c := ⟨_, List.getElem?_eq_getElem hi⟩
      have HT := Lib.hid (idx_take f st i c hc)
      have HC := Lib.hid (HF.out wr i c HDr.out hc)
      have hlen : (idx f 0 (st.take i)).length < 134217728 := by
        have h1 := idx_len f (st.take i) 0
        have h2 := List.length_take_le i st
        omega
      clear hc hi
      cases hf : f c with
      | false =>
        rw [hf] at HC HT
        clear hf
        go_wp2_with fail
        refine HC.out.mono ?_
        rintro e w' ⟨rfl, k, rfl⟩
        go_wp2
        go_roundg gk
        case measure => omega
        case rel => exact ⟨i + 1, V, by omega, by go_num, rfl, (by rw [HT.out]; simp only [Bool.false_eq_true, if_false, List.append_nil]; exact HO.out), below_drewN HW.out _⟩
      | true =>
        rw [hf] at HC HT
        clear hf
        go_wp2_with fail
        refine HC.out.mono ?_
        rintro e w' ⟨rfl, k, rfl⟩
        obtain ⟨V', w', hrun, hown, hb'⟩ := run_appI_one (wr.drewN k) g V (idx f 0 (st.take i)) (i : Int) HO.out hlen (by have := HW.out.size; have := HG.out; show g ≤ wr.heap.size; omega)
        have HRUN : Hid (Sem.run Try.prog (Builtin.append_ #[68, 68] 68 #[V, .slice (some ⟨wr.heap.size, 0, none⟩) 1 1]) ((wr.alloc (.cells #[.int .i64 (i : Int)] 3)).drewN k) = .ok V' w') := hrun
        have HOW := Lib.hid hown
        have HB' := Lib.hid hb'
        clear hrun hown hb'
        go_wp2_with (at_builtin; refine wpList_app rfl (.tmp 25) (.tmp 27) 68 rfl rfl rfl HRUN.out ?_)
        go_roundg gk
        case measure => omega
        case rel => exact ⟨i + 1, V', by omega, by go_num, rfl, (by rw [HT.out]; simp only [if_true, List.length_append, List.length_singleton]; exact HOW.out), (below_drewN HW.out _).trans HB'.out⟩

theorem enter_loose (args : Array Value) (w : World) : (callFunc 75 args).run Try.prog w = .ok (.enter 75 args) w := by simp [go_sem]
def looseL (st : List Cl) : List Int := idx (fun c => c.v != c.p) 0 st
def wayL (st : List Cl) : List Int := idx (fun c => c.on) 0 st
set_option maxHeartbeats 400000 in
theorem loose_nil (w : World) : Calls Try.prog 61 #[.pointer none] w fun e w' => e = .returned (.slice none 0 0) ∧ w = w' := by
  go_enter Try.func61, Try.ntmps61
  go_wp2_with fail
  refine (lines_nil _ w).mono ?_
  rintro e w' ⟨rfl, rfl⟩
  go_wp2
  go_ret
  exact ⟨rfl, rfl⟩
set_option maxHeartbeats 400000 in
theorem looses_ok {w : World} {p q : Nat} {st : List Cl} {cs : List Int} (h : DvP w p q st cs) : Calls Try.prog 61 #[.pointer (some ⟨p, 0, none⟩)] w (Listed w (looseL st)) := by
  have HL := Lib.hid (lines_ok h 75 (fun c => c.v != c.p) enter_loose (fun w' i c hd hc => loose_ok hd hc))
  clear h
  go_enter Try.func61, Try.ntmps61
  go_wp2_with fail
  refine HL.out.mono ?_
  rintro e w' ⟨V, rfl, ho, hb⟩
  have HO := Lib.hid ho
  have HB := Lib.hid hb
  clear ho hb
  go_wp2
  go_ret
  exact ⟨V, rfl, HO.out, HB.out⟩
end Go.Proofs.Ytkcjamjjaallhaa
