/-
  Proved here: what package durable's New, lines and firstOrFence answer and leave.
  Conditions: none.
-/
import Derived.Test.YtkcjamjjaallhaaDurB
namespace Go.Proofs.Ytkcjamjjaallhaa
open Go Go.RowKit

theorem zero_clock (g n : Nat) : Try.zeroCells81.setIfInBounds 2 (.slice (some ⟨g, 0, none⟩) n n) = (ckL 0 0 g n noLines (.slice none 0 0) .nilFunc).toArray := by kernel_rfl
theorem wpList_boxAs {P : Program} {ops : Array Oper} {rest : List Oper} {o : Oper} {a : Act} {w : World} {Q : Exit → Act → World → Prop} (hg : o.guard = none) (t : TypeId) (x : Operand) (ho : o.op = .box t x)
    (dst : Option Tmp) (hdst : o.dst = dst) (N : Nat) (hN : w.heap.size = N) (cells : Array Value) (hx : (a.eval x).cells = cells) {w1 : World} (hw : w.alloc (.cells cells t) = w1)
    (h : wpList P ops Q rest (a.put dst (.pointer (some ⟨N, 0, none⟩))) w1) : wpList P ops Q (o :: rest) a w := by
  subst hdst hN hx hw
  refine wpList_plain hg fun K hK => ?_
  unfold Oper.wp execOp
  simp only [ho, Sem.run_bind, Instr.box, newVar, newRow, run_newObj_alloc, Sem.run_pure, Result.andThen_ok]
  exact hK _ _ h
theorem madeZ (w : World) (n : Nat) (hn : n ≤ 4) : ∃ w1, (Instr.makeSlice 68 (.int .i64 (n : Int)) (.int .i64 (n : Int))).run Try.prog w = .ok (.slice (some ⟨w.heap.size, 0, none⟩) n n) w1 ∧
    w1.heap[w.heap.size]? = some (.cells (encI (List.replicate n 0)).toArray 3 (0, 0)) ∧ Below w.heap.size w w1 ∧ w1.heap.size = w.heap.size + 1 := by
  obtain ⟨i, hi, hz, hs, hy⟩ := int_info'
  have hmk := run_make (P := Try.prog) w 68 3 i _ Try.underlying68 hi hz .i64 .i64 (n : Int) (n : Int) (by omega) (by omega) (by rw [hy]; omega) (by omega)
  rw [Int.toNat_natCast, hs, Nat.mul_one] at hmk
  obtain ⟨cur, hcur⟩ : ∃ cur, madeCells (Value.cells (.int .i64 0)) n = cur := ⟨_, rfl⟩
  have hcl : cur.toList = List.replicate n (z64 0) := by
    rw [← hcur]
    exact toList_madeCells_one (.int .i64 0) n
  rw [hcur] at hmk
  refine ⟨_, hmk, ?_, (Below.refl _ _).alloc (Nat.le_refl _) _, by simp⟩
  have e : cur = (encI (List.replicate n 0)).toArray := by
    apply Array.ext'
    rw [hcl, encI, List.map_replicate]
    rfl
  rw [← e]
  show (w.heap.push _)[w.heap.size]? = _
  simp
/-- What New leaves. -/
def MadeC (w : World) (n d : Nat) (e : Ending) (w' : World) : Prop :=
  ∃ p o, e = .returned (.tuple #[.pointer (some ⟨p, 0, none⟩), .int .i64 0]) ∧ w.heap.size ≤ p ∧ w.heap.size ≤ o ∧ (∀ S : List Nat, p ∈ S → o ∈ S → Cm S w' p o (ck0 n d)) ∧ Below w.heap.size w w'
set_option maxHeartbeats 400000 in
theorem cknew_bad (x : Int) (d : Int) (hx : x < 1 ∨ 4 < x) (w : World) : Calls Try.prog 9 #[.int .i64 x, .int .u64 d] w fun e w' => e = .returned (.tuple #[.pointer none, .int .i64 2]) ∧ w = w' := by
  rcases Classical.em (x < 1) with h1 | h1
  · clear hx
    go_enter Try.func9, Try.ntmps9
    go_wp2
    go_ret2
    exact ⟨rfl, rfl⟩
  · have h2 : 4 < x := by omega
    clear hx
    go_enter Try.func9, Try.ntmps9
    go_wp2
    go_ret2
    exact ⟨rfl, rfl⟩
set_option maxHeartbeats 400000 in
theorem cknew_end (n : Nat) (d : Int) (h1 : 1 ≤ n) (h4 : n ≤ 4) (hd : 1152921504606846976 < d) (w : World) : Calls Try.prog 9 #[.int .i64 n, .int .u64 d] w fun e w' => e = .returned (.tuple #[.pointer none, .int .i64 10]) ∧ w = w' := by
  have h2 : ¬ (n : Int) < 1 := by omega
  have h3 : ¬ (4 : Int) < (n : Int) := by omega
  clear h1 h4
  go_enter Try.func9, Try.ntmps9
  go_wp2
  go_ret2
  exact ⟨rfl, rfl⟩
set_option maxHeartbeats 800000 in
set_option maxRecDepth 100000 in
theorem cknew_ok (n d : Nat) (h1 : 1 ≤ n) (h4 : n ≤ 4) (hd : d ≤ 1152921504606846976) (w : World) : Calls Try.prog 9 #[.int .i64 n, .int .u64 d] w (MadeC w n d) := by
  obtain ⟨w1, hmk, hq, hb, hs⟩ := madeZ w n h4
  obtain ⟨g, hg⟩ : ∃ g, w.heap.size = g := ⟨_, rfl⟩
  rw [hg] at hmk hq hb hs
  obtain ⟨Z, hZ⟩ : ∃ Z, Try.zeroCells81.setIfInBounds 2 (.slice (some ⟨g, 0, none⟩) n n) = Z := ⟨_, rfl⟩
  have hZL := hZ.symm.trans (zero_clock g n)
  have hA : (w1.alloc (.cells Z 81)).heap[w1.heap.size]? = some (.cells (ckL 0 0 g n noLines (.slice none 0 0) .nilFunc).toArray 81 (0, 0)) := by
    rw [hZL]
    exact heap_alloc_new w1 _
  have hG : (w1.alloc (.cells Z 81)).heap[g]? = some (.cells (encI (List.replicate n 0)).toArray 3 (0, 0)) := by
    rw [Below.heap_alloc _ _ _ (by omega)]
    exact hq
  have hb2 : Below g w (w1.alloc (.cells Z 81)) := hb.alloc (by omega) _
  obtain ⟨w2, hw2⟩ : ∃ w2, w1.alloc (.cells Z 81) = w2 := ⟨_, rfl⟩
  obtain ⟨p, hp⟩ : ∃ p, w1.heap.size = p := ⟨_, rfl⟩
  rw [hp] at hs
  rw [hp, hw2] at hA
  rw [hw2] at hG hb2
  have hraw : ∀ S : List Nat, p ∈ S → g ∈ S → Cr S w2 p g 0 0 (List.replicate n 0) noLines [] .nilFunc := fun S hp ho =>
    ⟨by omega, noLines_len, by rw [List.length_replicate]; exact h4, ⟨none, 0, by rw [hA, List.length_replicate]; rfl, rowI_nil _ _, Nat.le_refl _, fun _ => rfl, fun x hx => by cases hx⟩, hG, hp, ho⟩
  have hr2 := hraw [p, g] (by simp) (by simp)
  have H1 := Lib.hid (ustore p 1 _ (d : Nat) w2 hr2.reads.2.1 (hr2.frozenP 1))
  have hraw3 := fun S hp ho => (hraw S hp ho).setDur d
  have hb3 : Below g w (w2.setCell ⟨p, 1, none⟩ (.int .u64 (d : Nat))) := hb2.setCell (by show g ≤ p; omega) _
  generalize w2.setCell ⟨p, 1, none⟩ (.int .u64 (d : Nat)) = w3 at *
  have hr3 := hraw3 [p, g] (by simp) (by simp)
  have H2 := Lib.hid (ustore p 0 _ (d + 1 : Nat) w3 hr3.reads.1 (hr3.frozenP 0))
  have HR := Lib.hid (fun S hp ho => (hraw3 S hp ho).setNow (d + 1))
  have HB : Hid (Below g w (w3.setCell ⟨p, 0, none⟩ (.int .u64 (d + 1 : Nat)))) := hb3.setCell (by show g ≤ p; omega) _
  have hw := u64_up d (by omega)
  have HFIN : Hid (∀ e w', e = .returned (.tuple #[.pointer (some ⟨p, 0, none⟩), .int .i64 0]) → w3.setCell ⟨p, 0, none⟩ (.int .u64 (d + 1 : Nat)) = w' → MadeC w n d e w') := fun e w' he hw => by
    subst hw
    exact ⟨p, g, he, by omega, by omega, fun S hp ho => ⟨ck0_ok h1 h4 (by omega), HR.out S hp ho⟩, by rw [hg]; exact HB.out⟩
  generalize w3.setCell ⟨p, 0, none⟩ (.int .u64 (d + 1 : Nat)) = w4 at *
  have hn1 : ¬ (n : Int) < 1 := by omega
  have hn4 : ¬ (4 : Int) < (n : Int) := by omega
  have hdd : ¬ (1152921504606846976 : Int) < (d : Int) := by omega
  have HP := Lib.hid hp
  have HW2 := Lib.hid hw2
  have HZ := Lib.hid hZ
  generalize ((d + 1 : Nat) : Int) = d1 at *
  clear hq hb hg hA hG hb2 hZL hr2 hr3 hraw hraw3 hb3 HR HB h1 h4 hd hw2 hs hp hZ
  go_enter Try.func9, Try.ntmps9
  go_wp2_with (first
    | ((with_reducible show Calls _ _ #[.pointer (some ⟨_, 1, none⟩), _] _ _); rw [HZ.out, HP.out, HW2.out]; refine H1.out.mono ?_; rintro e w' ⟨rfl, rfl⟩)
    | ((with_reducible show Calls _ _ #[.pointer (some ⟨_, 0, none⟩), _] _ _); refine H2.out.mono ?_; rintro e w' ⟨rfl, rfl⟩))
  go_ret2
  exact HFIN.out _ _ rfl rfl
set_option maxHeartbeats 800000 in
theorem cklines_any {S : List Nat} {w : World} {p o now dur : Nat} {owed left : List Int} {noted : List Bool} {fv : Value} (h : Cr S w p o now dur owed noted left fv) : Calls Try.prog 40 #[.pointer (some ⟨p, 3, none⟩)] w (OwnI w (lin 0 noted)) := by
  obtain ⟨g, hg⟩ : ∃ g, w.heap.size = g := ⟨_, rfl⟩
  have HN := Lib.hid h.n258
  have HCE := Lib.hid (fun (w' : World) (hb : Below w.heap.size w w') i (hi : i < 258) => (hb.cell (p := ⟨p, 3 + i, none⟩) h.lt_p).trans (h.readN i hi))
  have HFIN : Hid (∀ v w', w'.ownsRow g 3 1 v (lin 0 noted).length (encI (lin 0 noted)) → Below g w w' → OwnI w (lin 0 noted) (.returned v) w') := fun v w' h1 h2 => ⟨v, rfl, hg ▸ h1, hg ▸ h2⟩
  have HG := Lib.hid hg
  rw [hg] at HCE
  generalize hR : OwnI w (lin 0 noted) = R at *
  clear h hR hg
  go_enter Try.func40, Try.ntmps40
  go_wp2
  go_loopg [3, 4, 5, 7] 258 (fun gk s3 s4 s5 s7 wx => ∃ (i : Nat) (V : Value), i + gk = 258 ∧ s7 = .int .i64 i ∧ V = s3 ∧ Hid (wx.ownsRow g 3 1 V (lin 0 (noted.take i)).length (encI (lin 0 (noted.take i)))) ∧ Hid (Below g w wx))
  case atStart => exact ⟨0, _, by omega, rfl, rfl, World.ownsRow_nil _ _ _ _, Below.refl _ _⟩
  case round =>
    obtain ⟨i, V, hig, rfl, rfl, HO, HW⟩ := hrel
    cases gk with
    | zero =>
      obtain rfl : i = 258 := by omega
      have HO2 : Hid (wr.ownsRow g 3 1 V (lin 0 noted).length (encI (lin 0 noted))) := by
        have := HO.out
        rw [List.take_of_length_le (Nat.le_of_eq HN.out)] at this
        exact this
      go_wp2
      exact HFIN.out _ _ HO2.out HW.out
    | succ gk =>
      have hii : (i : Int) < 258 := by omega
      have hi : i < 258 := by omega
      have hcell := HCE.out wr HW.out i hi
      have hlen : (lin 0 (noted.take i)).length < 134217728 := by
        have h1 := lin_len (noted.take i) 0
        have h2 := List.length_take_le i noted
        omega
      cases hf : noted.getD i false with
      | false =>
        have HT := Lib.hid (lin_take_no noted i (by rw [HN.out]; exact hi) hf)
        rw [hf] at hcell
        clear hf
        go_wp2
        go_quiet (fail)
        go_wp2
        go_roundg gk
        case measure => omega
        case rel => exact ⟨i + 1, V, by omega, by go_num, rfl, (by rw [HT.out]; exact HO.out), below_drewN HW.out _⟩
      | true =>
        have HT := Lib.hid (lin_take_yes noted i (by rw [HN.out]; exact hi) hf)
        rw [hf] at hcell
        clear hf
        have HAP := Lib.hid (fun k => run_appI_one (wr.drewN k) g V (lin 0 (noted.take i)) (i : Int) HO.out hlen (by have := HW.out.size; have := HG.out; show g ≤ wr.heap.size; omega))
        go_wp2
        go_quiet (fail)
        obtain ⟨V', w', hrun, hown, hb'⟩ := HAP.out nq
        have HRUN : Hid (Sem.run Try.prog (Builtin.append_ #[68, 68] 68 #[V, .slice (some ⟨wr.heap.size, 0, none⟩) 1 1]) ((wr.alloc (.cells #[.int .i64 (i : Int)] 3)).drewN nq) = .ok V' w') := hrun
        have HOW := Lib.hid hown
        have HB' := Lib.hid hb'
        clear hrun hown hb' HAP
        go_wp2_with (at_builtin; refine wpList_app rfl (.tmp 14) (.tmp 16) 68 rfl rfl rfl HRUN.out ?_)
        go_roundg gk
        case measure => omega
        case rel => exact ⟨i + 1, V', by omega, by go_num, rfl, (by rw [HT.out]; simp only [List.length_append, List.length_singleton]; exact HOW.out), (below_drewN HW.out _).trans HB'.out⟩
set_option maxHeartbeats 800000 in
set_option maxRecDepth 100000 in
theorem ckfirst_any {S : List Nat} {w : World} {p o now dur : Nat} {owed left : List Int} {noted : List Bool} {fv : Value} (h : Cr S w p o now dur owed noted left fv) : Calls Try.prog 41 #[.pointer (some ⟨p, 0, none⟩)] w fun e w' => e = .returned (fnv (nx left) p) ∧ w = w' := by
  obtain ⟨A, cap, hs, _⟩ := h.readL
  clear h
  unfold nx
  generalize left.length = n at *
  have hmf : ∀ (fn : Fn) (first cap : Array Value) (w : World), (Instr.makeFunc fn first cap).run Try.prog w = .ok (.func fn first cap) w := fun _ _ _ _ => rfl
  rcases Nat.eq_zero_or_pos n with rfl | h0
  · rw [if_pos rfl]
    go_enter Try.func41, Try.ntmps41
    go_wp2
    go_ret
    exact ⟨rfl, rfl⟩
  · have h1 : (0 : Int) < (n : Int) := by omega
    have h2 : 0 < n := h0
    rw [if_neg (by omega)]
    go_enter Try.func41, Try.ntmps41
    go_wp2
    go_ret
    exact ⟨rfl, rfl⟩

end Go.Proofs.Ytkcjamjjaallhaa
