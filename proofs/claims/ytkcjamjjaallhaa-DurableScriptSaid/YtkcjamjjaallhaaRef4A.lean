/-
  Proved here: what chapter 4's own whole, Super and Clock make.
  Conditions: none.
-/
import Derived.Test.YtkcjamjjaallhaaGeomD
import Derived.Test.YtkcjamjjaallhaaRef1
import Derived.Test.YtkcjamjjaallhaaRef2N
namespace Go.Proofs.Ytkcjamjjaallhaa
open Go Go.RowKit

theorem padded_snoc {pre : List UInt8} {m : Nat} (h : pre.length ≤ m) (hm : m < 64) : (padded pre).take (m + 1) = (padded pre).take m ++ [0] := by
  rw [List.take_succ_eq_append_getElem (by rw [padded_len (by omega)]; exact hm)]
  congr 2
  simp [padded, List.getElem_append_right h]
/-- A row of bytes of its own. -/
def OwnTo (B : Nat) (w : World) (x : List UInt8) (e : Ending) (w' : World) : Prop :=
  ∃ g cap, e = .returned (.slice (some ⟨g, 0, none⟩) x.length cap) ∧ w'.ownsRow B 5 1 (.slice (some ⟨g, 0, none⟩) x.length cap) x.length (enc x) ∧ Below B w w'

set_option maxHeartbeats 800000 in
theorem rwhole_ok (w : World) (B g cap : Nat) (nine : List UInt8) (h9 : nine.length = 9) (hown : w.ownsRow B 5 1 (.slice (some ⟨g, 0, none⟩) 9 cap) 9 (enc nine)) (hB : B ≤ w.heap.size) :
    Calls Try.prog 67 #[.slice (some ⟨g, 0, none⟩) 9 cap] w (OwnTo B w (sealed nine)) := by
  obtain ⟨C, cp, he, hrow⟩ := row_of_own hown (by omega)
  injection he with he1 he2 he3
  subst he1
  have HS := Lib.hid (rsum_any w (some ⟨g, 0, none⟩) 9 cap nine h9 hrow)
  have hlt := addS_lt (c := 0) (l := nine) (by omega)
  have HLAY := Lib.hid (rlay_any 4 (addS 0 nine) (by omega) (by omega) w)
  have HO := Lib.hid hown
  have h13 : (nine ++ lay 4 (addS 0 nine)).length = 13 := by simp [h9, lay_len]
  have H13 := Lib.hid h13
  have HL := Lib.hid (sealed_len h9)
  have HSE : Hid (sealed nine = padded (nine ++ lay 4 (addS 0 nine))) := rfl
  have HNN := Lib.hid h9
  generalize sealed nine = y at *
  generalize addS 0 nine = s at *
  clear hown hrow he2 he3 h13 h9
  go_enter Try.func67, Try.ntmps67
  go_wp2_with fail
  refine HS.out.mono ?_
  rintro e w1 ⟨rfl, rfl⟩
  go_wp2_with fail
  refine HLAY.out.mono ?_
  rintro e w1 ⟨V, rfl, ho, hb⟩
  obtain ⟨C, cp, rfl, hr⟩ := row_of_own ho (by rw [lay_len]; omega)
  obtain ⟨v', w2, hrun, ho2, hg2, _⟩ := run_app w1 B 9 (.slice (some ⟨g, 0, none⟩) 9 cap) (enc nine) (own_keep HO.out hb) C 4 cp (lay 4 s) (lay_len 4 s) hr (by rintro rfl; obtain ⟨b, off, e, _⟩ := hr.2 (by rw [lay_len]; omega); cases e) (by omega) (Nat.le_trans hB hb.size)
  rw [enc_append] at ho2
  obtain ⟨g2, cap2, rfl, _, _⟩ := ho2.form (by omega)
  have hb2 : Below B w w2 := (hb.mono hB).trans ((Below.refl _ _).grown hg2 (Nat.le_trans hB hb.size) (own_ge HO.out))
  have HRUN := Lib.hid hrun
  have HO2 : Hid (w2.ownsRow B 5 1 (.slice (some ⟨g2, 0, none⟩) 13 cap2) 13 (enc ((padded (nine ++ lay 4 s)).take 13))) := by
    show World.ownsRow _ _ _ _ _ _ _
    have e := padded_take (nine ++ lay 4 s)
    rw [H13.out] at e
    rw [e]
    exact ho2
  have HB2 := Lib.hid hb2
  clear ho hb hr hrun ho2 hg2 hb2
  go_wp2_with (at_builtin; refine wpList_app rfl (.tmp 3) (.tmp 7) 50 rfl rfl rfl HRUN.out ?_)
  clear HRUN HLAY HS HO
  go_loopg [0] 51 (fun gk s0 wx => ∃ m g c : Nat, m + gk = 64 ∧ 13 ≤ m ∧ s0 = .slice (some ⟨g, 0, none⟩) m c ∧ Hid (wx.ownsRow B 5 1 (.slice (some ⟨g, 0, none⟩) m c) m (enc ((padded (nine ++ lay 4 s)).take m))) ∧ Hid (Below B w wx))
  case atStart => exact ⟨13, g2, cap2, by omega, by omega, rfl, HO2, HB2⟩
  case round =>
    obtain ⟨m, g3, c3, hm, h13, rfl, HO, HB⟩ := hrel
    cases gk with
    | zero =>
      obtain rfl : m = 64 := by omega
      go_wp2
      go_ret
      have h := HO.out
      rw [← HSE.out, List.take_of_length_le (by rw [HL.out]; omega)] at h
      refine ⟨g3, c3, ?_, ?_, HB.out⟩
      · rw [HL.out]
        rfl
      · rw [HL.out]
        exact h
    | succ gk =>
      have hlt64 : (m : Int) < 64 := by omega
      have hl : ((padded (nine ++ lay 4 s)).take m).length = m := by rw [List.length_take, ← HSE.out, HL.out]; omega
      obtain ⟨V', w', hrun, ho', hb'⟩ := run_app_one wr B (.slice (some ⟨g3, 0, none⟩) m c3) ((padded (nine ++ lay 4 s)).take m) 0 (by rw [hl]; exact HO.out) (by omega) (Nat.le_trans hB HB.out.size)
      rw [hl, ← padded_snoc (by rw [H13.out]; omega) (by omega)] at ho'
      obtain ⟨g4, c4, rfl, _, _⟩ := ho'.form (by omega)
      have HRUN : Hid (Sem.run Try.prog (Builtin.append_ #[50, 50] 50 #[.slice (some ⟨g3, 0, none⟩) m c3, .slice (some ⟨wr.heap.size, 0, none⟩) 1 1]) (wr.alloc (.cells #[.int .u8 0] 5)) = .ok (.slice (some ⟨g4, 0, none⟩) (m + 1) c4) w') := hrun
      have HO' := Lib.hid ho'
      have HB' := Lib.hid (HB.out.trans hb')
      clear hrun ho' hb' hl
      go_wp2_with (at_builtin; refine wpList_app rfl (.tmp 12) (.tmp 13) 50 rfl rfl rfl HRUN.out ?_)
      go_roundg gk
      case measure => omega
      case rel => exact ⟨m + 1, g4, c4, by omega, by omega, rfl, HO', HB'⟩
/-- The nine bytes that a literal and a number laid behind it make. -/
theorem nine_of (w : World) (l : List UInt8) (k v : Nat) (hl : l.length + k = 9) (hk : 0 < k) (hl0 : 0 < l.length) {w1 : World} {V : Value} (ho : w1.ownsRow (w.alloc (.cells (enc l).toArray 5)).heap.size 5 1 V k (enc (lay k v))) (hb : Below (w.alloc (.cells (enc l).toArray 5)).heap.size (w.alloc (.cells (enc l).toArray 5)) w1) :
    ∃ g cap w2, (Builtin.append_ #[50, 50] 50 #[.slice (some ⟨w.heap.size, 0, none⟩) l.length l.length, V]).run Try.prog w1 = .ok (.slice (some ⟨g, 0, none⟩) 9 cap) w2 ∧ w2.ownsRow w.heap.size 5 1 (.slice (some ⟨g, 0, none⟩) 9 cap) 9 (enc (l ++ lay k v)) ∧ Below w.heap.size w w2 := by
  obtain ⟨C, cp, rfl, hr⟩ := row_of_own ho (by rw [lay_len]; omega)
  have hblk : Blk (w.alloc (.cells (enc l).toArray 5)) w.heap.size (enc l) := heap_alloc_new w _
  have hown := own_keep (blk_own hblk rfl (by omega)) hb
  have hsz : w.heap.size ≤ w1.heap.size := Nat.le_trans (by simp) hb.size
  obtain ⟨v', w2, hrun, ho2, hg2, _⟩ := run_app w1 w.heap.size l.length _ (enc l) hown C k cp (lay k v) (lay_len k v) hr (by rintro rfl; obtain ⟨b, off, e, _⟩ := hr.2 (by rw [lay_len]; omega); cases e) (by omega) hsz
  rw [enc_append, hl] at ho2
  obtain ⟨g2, cap2, rfl, _, _⟩ := ho2.form (by omega)
  refine ⟨g2, cap2, w2, hrun, ho2, ?_⟩
  have hb0 : Below w.heap.size w w1 := ((Below.refl _ _).alloc (Nat.le_refl _) _).trans (hb.mono (by simp))
  exact hb0.trans ((Below.refl _ _).grown hg2 hsz (own_ge hown))

set_option maxHeartbeats 800000 in
theorem rclock_ok (v : Nat) (hv : v < 18446744073709551616) (w : World) : Calls Try.prog 45 #[.int .u64 v] w (OwnTo w.heap.size w (clockL v)) := by
  have HLAY : Hid (Calls Try.prog 68 #[.int .i64 8, .int .u64 v] (w.alloc (.cells #[.int .u8 3] 5)) (LaidTo (w.alloc (.cells #[.int .u8 3] 5)) 8 v)) := rlay_any 8 v (by omega) hv _
  have HN : Hid (∀ (w1 : World) (V : Value), w1.ownsRow (w.alloc (.cells #[.int .u8 3] 5)).heap.size 5 1 V 8 (enc (lay 8 v)) → Below (w.alloc (.cells #[.int .u8 3] 5)).heap.size (w.alloc (.cells #[.int .u8 3] 5)) w1 →
    ∃ g cap w2, (Builtin.append_ #[50, 50] 50 #[.slice (some ⟨w.heap.size, 0, none⟩) 1 1, V]).run Try.prog w1 = .ok (.slice (some ⟨g, 0, none⟩) 9 cap) w2 ∧ w2.ownsRow w.heap.size 5 1 (.slice (some ⟨g, 0, none⟩) 9 cap) 9 (enc (clockNine v)) ∧ Below w.heap.size w w2) := fun w1 V ho hb => nine_of w [3] 8 v rfl (by omega) (by decide) ho hb
  have HW := Lib.hid (fun W g cap ho hB => rwhole_ok W w.heap.size g cap (clockNine v) (clockNine_len v) ho hB)
  rw [show sealed (clockNine v) = clockL v from rfl] at HW
  have HL := Lib.hid (clockL_len v)
  generalize clockL v = y at *
  generalize clockNine v = nn at *
  go_enter Try.func45, Try.ntmps45
  go_wp2_with fail
  refine HLAY.out.mono ?_
  rintro e w1 ⟨V, rfl, ho, hb⟩
  obtain ⟨g, cap, w2, hrun, ho2, hb2⟩ := HN.out w1 V ho hb
  have HRUN := Lib.hid hrun
  have HO2 := Lib.hid ho2
  have HB2 := Lib.hid hb2
  clear ho hb hrun ho2 hb2
  go_wp2_with (first | (at_builtin; refine wpList_app rfl (.tmp 3) (.tmp 5) 50 rfl rfl rfl HRUN.out ?_) | fail)
  refine (HW.out w2 g cap HO2.out HB2.out.size).mono ?_
  rintro e w3 ⟨g3, cap3, rfl, ho, hb⟩
  have HO3 := Lib.hid ho
  have HB3 := Lib.hid (HB2.out.trans hb)
  clear ho hb
  rw [HL.out] at HO3 ⊢
  go_wp2
  go_ret
  exact ⟨g3, cap3, by rw [HL.out]; rfl, by rw [HL.out]; exact HO3.out, HB3.out⟩

/-- What the chapter's own Super leaves. -/
def OwnTo2 (B : Nat) (w : World) (x : List UInt8) (e : Ending) (w' : World) : Prop :=
  ∃ g cap, e = .returned (.tuple #[.slice (some ⟨g, 0, none⟩) x.length cap, .int .i64 0]) ∧ w'.ownsRow B 5 1 (.slice (some ⟨g, 0, none⟩) x.length cap) x.length (enc x) ∧ Below B w w'
end Go.Proofs.Ytkcjamjjaallhaa
