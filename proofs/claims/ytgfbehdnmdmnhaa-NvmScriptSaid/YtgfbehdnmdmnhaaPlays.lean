/-
  Proved here: what the statements' own large, play and some answer and leave, of acts that came in.
  Conditions: lists of at most 100 bytes and numbers each, where they are played.
-/
import Derived.Test.YtgfbehdnmdmnhaaActs
import Derived.Deep.QuietTactic
import Derived.BigQuiet
import Derived.IntWalk
import Derived.WalkSmall
namespace Go.Proofs.Ytgfbehdnmdmnhaa
open Go Go.RowKit

def ActV.big (x : ActV) : Bool := decide (100 < x.n) || decide (100 < x.m)
def largeB (len : Nat) (xs : List ActV) : Bool := decide (80 < len) || xs.any ActV.big
theorem IsActs.at_ {w : World} {a : Option Addr} {len : Nat} {xs : List ActV} (h : IsActs w a len xs) {i : Nat} (hi : i < len) : ∃ x b off, xs[i]? = some x ∧ a = some ⟨b, off, none⟩ ∧ b < w.heap.size ∧ x.ok w ∧ ∀ j v, x.cells[j]? = some v → w.cell? ⟨b, off + i * 5 + j, none⟩ = some v := by
  obtain ⟨b, off, e, hb, hc⟩ := h.2.2.1 (by omega)
  have hi' : i < xs.length := by rw [h.1]; exact hi
  exact ⟨xs[i], b, off, List.getElem?_eq_getElem hi', e, hb, h.2.2.2 _ (List.getElem_mem _), fun j v hv => by rw [Nat.add_assoc]; exact hc i _ (List.getElem?_eq_getElem hi') j v hv⟩
set_option maxHeartbeats 400000 in
theorem large_any {w : World} {a : Option Addr} {len cap : Nat} {xs : List ActV} (h : IsActs w a len xs) :
    Calls Try.prog 10 #[.slice a len cap] w fun e w' => e = .returned (.bool (largeB len xs)) ∧ ∃ k, w' = w.drewN k := by
  have hlen := h.2.1
  unfold maxLen at hlen
  rcases Nat.lt_or_ge 80 len with h0 | h0
  · have h1 : (80 : Int) < (len : Int) := by omega
    have e : largeB len xs = true := by simp [largeB, h0]
    rw [e]
    clear h h0 e
    go_enter Try.func10, Try.ntmps10
    go_wp2
    go_ret
    exact ⟨rfl, 0, rfl⟩
  · have h1 : ¬ (80 : Int) < (len : Int) := by omega
    have HA := Lib.hid h
    obtain ⟨R, hR⟩ : ∃ R : Ending → World → Prop, R = fun (e : Ending) (w' : World) => e = .returned (.bool (largeB len xs)) ∧ ∃ k, w' = w.drewN k := ⟨_, rfl⟩
    rw [← hR]
    have HFIN : Hid (∀ b k, xs.any ActV.big = b → R (.returned (.bool b)) (w.drewN k)) := fun b k hb => by
      rw [hR]
      refine ⟨?_, k, rfl⟩
      rw [largeB, decide_eq_false (by omega), Bool.false_or, hb]
    clear h hR hlen
    go_enter Try.func10, Try.ntmps10
    go_wp2
    go_loopg [3] len (fun gk s3 wx => ∃ i k : Nat, i + gk = len ∧ s3 = .int .i64 i ∧ wx = w.drewN k ∧ Hid ((xs.take i).any ActV.big = false))
    case atStart => exact ⟨0, 0, by omega, rfl, rfl, rfl⟩
    case round =>
      obtain ⟨i, k, hig, rfl, rfl, HT⟩ := hrel
      cases gk with
      | zero =>
        obtain rfl : i = len := by omega
        have hii : ¬ (i : Int) < (i : Int) := by omega
        go_wp2
        exact HFIN.out false k (by have := HT.out; rw [List.take_of_length_le (by have := HA.out.1; omega)] at this; exact this)
      | succ gk =>
        have hii : (i : Int) < (len : Int) := by omega
        obtain ⟨x, b, off, hx, rfl, hb, hok, hc⟩ := HA.out.at_ (i := i) (by omega)
        have c3 := hc 3 _ rfl
        have c4 := hc 4 _ rfl
        have HX := Lib.hid hx
        have hn := hok.n_le
        have hm := hok.m_le
        unfold maxLen at hn hm
        clear hc hx hb hok
        rcases Classical.em (100 < x.n) with h2 | h2
        · have h3 : (100 : Int) < (x.n : Int) := by omega
          have HB : Hid (xs.any ActV.big = true) := by
            show _ = _
            rw [List.any_eq_true]
            exact ⟨x, List.mem_of_getElem? HX.out, by simp [ActV.big, h2]⟩
          clear h2
          go_wp2
          exact HFIN.out true k HB.out
        · have h3 : ¬ (100 : Int) < (x.n : Int) := by omega
          rcases Classical.em (100 < x.m) with h4 | h4
          · have h5 : (100 : Int) < (x.m : Int) := by omega
            have HB : Hid (xs.any ActV.big = true) := by
              show _ = _
              rw [List.any_eq_true]
              exact ⟨x, List.mem_of_getElem? HX.out, by simp [ActV.big, h4]⟩
            clear h2 h4
            go_wp2
            exact HFIN.out true k HB.out
          · have h5 : ¬ (100 : Int) < (x.m : Int) := by omega
            have HB : Hid ((xs.take (i + 1)).any ActV.big = false) := by
              show _ = _
              obtain ⟨hl, e⟩ := List.getElem?_eq_some_iff.1 HX.out
              rw [List.take_succ_eq_append_getElem hl, List.any_append, HT.out, e]
              simp [ActV.big, h2, h4]
            clear h2 h4
            go_wp2
            go_roundg gk
            case measure => omega
            case rel => exact ⟨i + 1, k, by omega, by go_num, rfl, HB⟩
theorem cut_any {w : World} {p q : Nat} {s : St} (h : DvS w p q s) (A : Option Addr) (m k : Nat) (keep : List Int) (hk : keep.length = m) (hA : RowI w A keep) (hne : 0 < keep.length → ∀ x, A = some x → x.block ≠ p ∧ x.block ≠ q) :
    Calls Try.prog 26 #[.pointer (some ⟨p, 0, none⟩), .slice A m k] w fun e w' => ∃ v, e = .returned (.tuple #[v, .int .i64 0]) ∧ w'.ownsRow w.heap.size 3 1 v (looseL (keepAll s.1 keep)).length (encI (looseL (keepAll s.1 keep))) ∧ DvS w' p q (s.cut keep) ∧ Turns p q w w' :=
  (cut_ok h A m k keep hk hA hne)
def St.play (s : St) (x : ActV) : St :=
  if x.kd = 0 then s.store x.line x.off x.b else if x.kd = 1 then s.flush x.line else if x.kd = 2 then s.fence else if x.kd = 3 then s.back x.line else if x.kd = 4 then s.cut x.keep else s
def St.playAll (s : St) (xs : List ActV) : St := xs.foldl St.play s
/-- What an act played leaves. -/
def Played (p q : Nat) (s : St) (w : World) (e : Ending) (w' : World) : Prop := e = .returned (.tuple #[]) ∧ DvS w' p q s ∧ Turns p q w w'
set_option maxHeartbeats 800000 in
theorem play_any {w0 w : World} {p q : Nat} {s : St} (h : DvS w p q s) (x : ActV) (hok : x.ok w0) (hn : x.n ≤ 100) (hm : x.m ≤ 100) (hb : Below w0.heap.size w0 w) (hp : w0.heap.size ≤ p) (hq : w0.heap.size ≤ q) :
    Calls Try.prog 23 #[.pointer (some ⟨p, 0, none⟩), .agg x.cells.toArray] w (Played p q (s.play x) w) := by
  obtain ⟨kd, line, off, A, n, c, b, K, m, d, keep⟩ := x
  simp only [ActV.cells] at *
  obtain ⟨hbl, hrow⟩ := hok.row hn
  obtain ⟨hkl, hrowK⟩ := hok.rowK hm
  simp only at hbl hrow hkl hrowK hn hm
  have hA0 := hok.a0
  simp only at hA0
  have hrow1 := hrow.below hb
  have hrowK1 := hrowK.below hb
  have hne : 0 < keep.length → ∀ x, K = some x → x.block ≠ p ∧ x.block ≠ q := by
    intro hl x hx
    obtain ⟨bb, o, e, hlt, _⟩ := hrowK.2 hl
    rw [e] at hx
    cases hx
    constructor <;> show bb ≠ _ <;> omega
  clear hok hrow hrowK hb hp hq
  obtain ⟨W, hW⟩ : ∃ W, w.alloc (.cells #[.int .i64 kd, .int .i64 line, .int .i64 off, .slice A n c, .slice K m d] 36) = W := ⟨_, rfl⟩
  have hba : Below w.heap.size w W := hW ▸ (Below.refl _ _).alloc (Nat.le_refl _) _
  have HDW := Lib.hid (h.below hba)
  have HTW := Lib.hid (Turns.of_below hba p q)
  have HROW := Lib.hid (hrow1.below hba)
  have HROWK := Lib.hid (hrowK1.below hba)
  have HNE := Lib.hid hne
  have HBL := Lib.hid hbl
  have HKL := Lib.hid hkl
  have HA0 := Lib.hid hA0
  have HW := Lib.hid hW
  clear hba hrow1 hrowK1 hne hbl hkl hA0 hW h
  rcases Classical.em (kd = 0) with rfl | h0
  · have HS : Hid (∀ w', DvS w' p q (s.store line off b) → Turns p q W w' → Played p q (St.play s ⟨0, line, off, A, n, c, b, K, m, d, keep⟩) w (.returned (.tuple #[])) w') := fun w' h1 h2 => ⟨rfl, by rw [St.play, if_pos rfl]; exact h1, HTW.out.trans h2⟩
    generalize Played p q _ w = R at *
    go_enter Try.func23, Try.ntmps23
    go_wp2_with fail
    rw [HW.out]
    refine (store_any HDW.out line off A n c b HBL.out HROW.out HA0.out).mono ?_
    rintro e w1 ⟨rfl, hd, ht⟩
    have HD := Lib.hid hd
    have HT := Lib.hid ht
    clear hd ht
    go_wp2
    refine bodyPost_end (results_none rfl _ _ _) rfl ?_
    exact HS.out _ HD.out HT.out
  rcases Classical.em (kd = 1) with rfl | h1
  · have HS : Hid (∀ w', DvS w' p q (s.flush line) → Turns p q W w' → Played p q (St.play s ⟨1, line, off, A, n, c, b, K, m, d, keep⟩) w (.returned (.tuple #[])) w') := fun w' h1 h2 => ⟨rfl, by rw [St.play, if_neg (by simp), if_pos rfl]; exact h1, HTW.out.trans h2⟩
    generalize Played p q _ w = R at *
    go_enter Try.func23, Try.ntmps23
    go_wp2_with fail
    rw [HW.out]
    refine (flush_any HDW.out line).mono ?_
    rintro e w1 ⟨rfl, hd, ht⟩
    have HD := Lib.hid hd
    have HT := Lib.hid ht
    clear hd ht
    go_wp2
    refine bodyPost_end (results_none rfl _ _ _) rfl ?_
    exact HS.out _ HD.out HT.out
  rcases Classical.em (kd = 2) with rfl | h2
  · have HS : Hid (∀ w', DvS w' p q (s.fence) → Turns p q W w' → Played p q (St.play s ⟨2, line, off, A, n, c, b, K, m, d, keep⟩) w (.returned (.tuple #[])) w') := fun w' h1 h2 => ⟨rfl, by rw [St.play, if_neg (by simp), if_neg (by simp), if_pos rfl]; exact h1, HTW.out.trans h2⟩
    generalize Played p q _ w = R at *
    go_enter Try.func23, Try.ntmps23
    go_wp2_with fail
    rw [HW.out]
    refine (fence_any HDW.out).mono ?_
    rintro e w1 ⟨rfl, hd, ht⟩
    have HD := Lib.hid hd
    have HT := Lib.hid ht
    clear hd ht
    go_wp2
    refine bodyPost_end (results_none rfl _ _ _) rfl ?_
    exact HS.out _ HD.out HT.out
  rcases Classical.em (kd = 3) with rfl | h3
  · have HS : Hid (∀ w', DvS w' p q (s.back line) → Turns p q W w' → Played p q (St.play s ⟨3, line, off, A, n, c, b, K, m, d, keep⟩) w (.returned (.tuple #[])) w') := fun w' h1 h2 => ⟨rfl, by rw [St.play, if_neg (by simp), if_neg (by simp), if_neg (by simp), if_pos rfl]; exact h1, HTW.out.trans h2⟩
    generalize Played p q _ w = R at *
    go_enter Try.func23, Try.ntmps23
    go_wp2_with fail
    rw [HW.out]
    refine (back_any HDW.out line).mono ?_
    rintro e w1 ⟨rfl, hd, ht⟩
    have HD := Lib.hid hd
    have HT := Lib.hid ht
    clear hd ht
    go_wp2
    refine bodyPost_end (results_none rfl _ _ _) rfl ?_
    exact HS.out _ HD.out HT.out
  rcases Classical.em (kd = 4) with rfl | h4
  · have HS : Hid (∀ w', DvS w' p q (s.cut keep) → Turns p q W w' → Played p q (St.play s ⟨4, line, off, A, n, c, b, K, m, d, keep⟩) w (.returned (.tuple #[])) w') := fun w' h1 h2 => ⟨rfl, by rw [St.play, if_neg (by simp), if_neg (by simp), if_neg (by simp), if_neg (by simp), if_pos rfl]; exact h1, HTW.out.trans h2⟩
    generalize Played p q _ w = R at *
    go_enter Try.func23, Try.ntmps23
    go_wp2_with fail
    rw [HW.out]
    refine (cut_any HDW.out K m d keep HKL.out HROWK.out HNE.out).mono ?_
    rintro e w1 ⟨V, rfl, _, hd, ht⟩
    have HD := Lib.hid hd
    have HT := Lib.hid ht
    clear hd ht
    go_wp2
    refine bodyPost_end (results_none rfl _ _ _) rfl ?_
    exact HS.out _ HD.out HT.out
  have HS : Hid (Played p q (St.play s ⟨kd, line, off, A, n, c, b, K, m, d, keep⟩) w (.returned (.tuple #[])) W) := ⟨rfl, by rw [St.play, if_neg h0, if_neg h1, if_neg h2, if_neg h3, if_neg h4]; exact HDW.out, HTW.out⟩
  have e0 : (kd == 0) = false := by simpa using h0
  have e1 : (kd == 1) = false := by simpa using h1
  have e2 : (kd == 2) = false := by simpa using h2
  have e3 : (kd == 3) = false := by simpa using h3
  have e4 : (kd == 4) = false := by simpa using h4
  clear h0 h1 h2 h3 h4
  generalize Played p q _ w = R at *
  go_enter Try.func23, Try.ntmps23
  go_wp2
  rw [HW.out]
  refine bodyPost_end (results_none rfl _ _ _) rfl ?_
  exact HS.out
/-- What some leaves. -/
def Somed (w : World) (s : St) (e : Ending) (w' : World) : Prop := ∃ p q, e = .returned (.pointer (some ⟨p, 0, none⟩)) ∧ w.heap.size ≤ p ∧ w.heap.size ≤ q ∧ DvS w' p q s ∧ Below w.heap.size w w'
def s8 : St := (fresh 8, five0)
theorem size_act : (Try.prog.info? 36).map (·.size) = some 5 := by kernel_rfl
theorem largeB_false {len : Nat} {xs : List ActV} (h : largeB len xs = false) : len ≤ 80 ∧ ∀ x ∈ xs, x.n ≤ 100 ∧ x.m ≤ 100 := by
  simp only [largeB, Bool.or_eq_false_iff, decide_eq_false_iff_not, List.any_eq_false, ActV.big, Bool.or_eq_true, decide_eq_true_eq, not_or] at h
  exact ⟨by omega, fun x hx => by have := h.2 x hx; omega⟩
set_option maxHeartbeats 800000 in
theorem some_any {w : World} {a : Option Addr} {len cap : Nat} {xs : List ActV} (h : IsActs w a len xs) (hl : largeB len xs = false) :
    Calls Try.prog 19 #[.slice a len cap] w (Somed w (s8.playAll xs)) := by
  obtain ⟨h80, hbig⟩ := largeB_false hl
  have HN : Hid (Calls Try.prog 12 #[.int .i64 8] w (Made w 8)) := new_ok 8 (by omega) (by omega) w
  have HA := Lib.hid h
  have HBIG := Lib.hid hbig
  have HLEN := Lib.hid h.1
  obtain ⟨R, hR⟩ : ∃ R : Ending → World → Prop, R = Somed w (s8.playAll xs) := ⟨_, rfl⟩
  rw [← hR]
  have HR := Lib.hid hR
  clear h hl hbig hR
  go_enter Try.func19, Try.ntmps19
  go_wp2_with fail
  refine HN.out.mono ?_
  rintro e w1 ⟨p, q, rfl, hp, hq, hd, hb⟩
  have HD := Lib.hid hd
  have HB := Lib.hid hb
  have HP := Lib.hid hp
  have HQ := Lib.hid hq
  clear hd hb hp hq
  go_wp2
  go_loopg [5] len (fun gk s5 wx => ∃ i : Nat, i + gk = len ∧ s5 = .int .i64 i ∧ Hid (DvS wx p q (s8.playAll (xs.take i))) ∧ Hid (Below w.heap.size w wx))
  case atStart => exact ⟨0, by omega, rfl, HD, HB⟩
  case round =>
    obtain ⟨i, hig, rfl, HDr, HBr⟩ := hrel
    cases gk with
    | zero =>
      obtain rfl : i = len := by omega
      have hii : ¬ (i : Int) < (i : Int) := by omega
      have HD2 : Hid (DvS wr p q (s8.playAll xs)) := by
        have := HDr.out
        rw [List.take_of_length_le (Nat.le_of_eq HLEN.out)] at this
        exact this
      go_wp2
      rw [HR.out]
      exact ⟨p, q, rfl, HP.out, HQ.out, HD2.out, HBr.out⟩
    | succ gk =>
      have hii : (i : Int) < (len : Int) := by omega
      obtain ⟨x, b, off, hx, rfl, hb, hok, hc⟩ := HA.out.at_ (i := i) (by omega)
      have hxn := HBIG.out x (List.mem_of_getElem? hx)
      have HPL := Lib.hid (play_any HDr.out x hok hxn.1 hxn.2 HBr.out HP.out HQ.out)
      have HST : Hid (s8.playAll (xs.take (i + 1)) = (s8.playAll (xs.take i)).play x) := by
        show _ = _
        obtain ⟨hl, e⟩ := List.getElem?_eq_some_iff.1 hx
        rw [List.take_succ_eq_append_getElem hl, St.playAll, List.foldl_append, e]
        rfl
      have HRG : Hid (wr.rangeAt b (off + i * 5) x.cells) := fun j v hv => (HBr.out.cell (p := ⟨b, off + i * 5 + j, none⟩) hb).trans (hc j v hv)
      have HLC : Hid (x.cells.length = 5) := rfl
      generalize x.cells = C at *
      clear hc hx hok hxn hb
      go_wp2_with (first
        | ((with_reducible show wpList _ _ _ (⟨some 26, _, _, _, _, _⟩ :: _) _ _); refine wpList_load_agg (o := ⟨some 26, _, _, _, _, _⟩) rfl 36 (.tmp 25) rfl b (off + i * 5) rfl C _ HRG.out Try.underlying36 rfl (by rw [HLC.out]; exact size_act) ?_)
        | ((with_reducible show Calls _ 23 _ _ _); refine HPL.out.mono ?_; rintro e w2 ⟨rfl, hd2, ht2⟩; have HD2 := Lib.hid hd2; have HT2 := Lib.hid ht2; clear hd2 ht2))
      go_roundg gk
      case measure => omega
      case rel => exact ⟨i + 1, by omega, by go_num, (by rw [HST.out]; exact HD2), HBr.out.trans (HT2.out.below HP.out HQ.out HBr.out.size)⟩

end Go.Proofs.Ytgfbehdnmdmnhaa
