/-
  Proved here: what chapter 2's own Number and Lay give.
  Conditions: rows of at most 2^30 bytes.
-/
import Derived.Test.YtkcjamjjaallhaaCode
namespace Go.Proofs.Ytkcjamjjaallhaa
open Go.RowKit

theorem num_step (d x : Nat) (hd : d * 256 + x < 18446744073709551616) : IntKind.u64.wrap (IntKind.u64.wrap ((d : Int) * 256) + (x : Int)) = ((d * 256 + x : Nat) : Int) := by
  show ((((d : Int) * 256) % (18446744073709551616 : Int) + (x : Int)) % (18446744073709551616 : Int)) = _
  omega

/-- What Lay makes: a row of its own that holds the lowest n bytes of v. -/
def LaidTo (w : World) (n v : Nat) (e : Ending) (w' : World) : Prop :=
  ∃ V, e = .returned V ∧ w'.ownsRow w.heap.size 5 1 V n (enc (lay n v)) ∧ Below w.heap.size w w'

set_option maxHeartbeats 800000 in
theorem rlay_any (n v : Nat) (hn : n ≤ 8) (hv : v < 18446744073709551616) (w : World) :
    Calls Try.prog 68 #[.int .i64 n, .int .u64 v] w (LaidTo w n v) := by
  obtain ⟨B, hB⟩ : ∃ B, w.heap.size = B := ⟨_, rfl⟩
  have HB := Lib.hid hB
  clear hB
  go_enter Try.func68, Try.ntmps68
  go_wp2
  go_loopg [1, 5, 6] n (fun gk s1 s5 s6 wx => ∃ (i u : Nat) (V : Value), i + gk = n ∧ s6 = .int .i64 i ∧ s1 = .int .u64 u ∧ V = s5 ∧ u < 18446744073709551616 ∧ Hid (u = v / 256 ^ i) ∧ Hid (wx.ownsRow B 5 1 V i (enc (lay i v))) ∧ Hid (Below B w wx))
  case atStart => exact ⟨0, v, _, by omega, rfl, rfl, rfl, hv, (by show v = v / 256 ^ 0; simp), World.ownsRow_nil _ _ _ _, Below.refl _ _⟩
  case round =>
    obtain ⟨i, u, V, hin, rfl, rfl, rfl, hu, HU, HO, HW⟩ := hrel
    cases gk with
    | zero =>
      obtain rfl : i = n := by omega
      have hii : ¬ (i : Int) < (i : Int) := by omega
      go_wp2
      go_ret
      exact ⟨_, rfl, by rw [HB.out]; exact HO.out, by rw [HB.out]; exact HW.out⟩
    | succ gk =>
      have hii : (i : Int) < (n : Int) := by omega
      have hll := lay_len i v
      have hown2 : wr.ownsRow B 5 1 V (lay i v).length (enc (lay i v)) := by
        rw [hll]
        exact HO.out
      obtain ⟨V', w', hrun, ho', hb'⟩ := run_app_one wr B V (lay i v) (UInt8.ofNat u) hown2 (by omega) (by rw [← HB.out]; have := HW.out.size; rw [HB.out] at this ⊢; omega)
      rw [hll] at ho'
      have HU2 : Hid (u / 256 = v / 256 ^ (i + 1)) := by
        show _ = _
        rw [HU.out, Nat.div_div_eq_div_mul, Nat.pow_succ]
      have HO2 : Hid (w'.ownsRow B 5 1 V' (i + 1) (enc (lay (i + 1) v))) := by
        show World.ownsRow _ _ _ _ _ _ _
        rw [lay_snoc, ← HU.out]
        exact ho'
      have HW2 : Hid (Below B w w') := HW.out.trans hb'
      have hby : IntKind.u8.wrap (u : Int) = ((UInt8.ofNat u).toNat : Nat) := by
        rw [UInt8.toNat_ofNat']
        rfl
      have hux := UInt8.toNat_lt (UInt8.ofNat u)
      obtain ⟨x, hx⟩ : ∃ x, (UInt8.ofNat u).toNat = x := ⟨_, rfl⟩
      rw [hx] at hby hrun hux
      have HRUN := Lib.hid hrun
      clear hrun hown2 hll ho' hb' hx
      go_wp2_with (at_builtin; refine wpList_app rfl (.tmp 12) (.tmp 15) 50 rfl rfl rfl HRUN.out ?_)
      go_roundg gk
      case measure => omega
      case rel => exact ⟨i + 1, u / 256, V', by omega, by go_num, by go_num, rfl, by omega, HU2, HO2, HW2⟩

end Go.Proofs.Ytkcjamjjaallhaa
