/-
  Proved here: what slices.Delete leaves of a row of texts whose first one goes.
  Conditions: none.
-/
import Derived.Test.YtpmgnhijiodbaaaIns15
namespace Go.Proofs.Ytpmgnhijiodbaaa
open Go Go.RowKit
set_option maxRecDepth 100000

set_option maxHeartbeats 1600000 in
set_option maxRecDepth 100000 in
theorem dels_some {w : World} {g n cap B : Nat} {l : List ByteArray} (hn : l.length = n) (hown : w.ownsRow B RS.tE RS.k (.slice (some ⟨g, 0, none⟩) n cap) n (RS.enc l)) (hi : 0 < n) :
    Calls Try.prog 43 #[.slice (some ⟨g, 0, none⟩) n cap, .int .i64 0, .int .i64 1] w (RowTo15 RS B (l.drop 1) (.slice (some ⟨g, 0, none⟩) n cap) w) := by
  obtain ⟨cur, hb1, hb2, hb3, hb4, hb5, hB⟩ := Rec.own_block hown
  obtain ⟨m, rfl⟩ : ∃ m, n = m + 1 := ⟨n - 1, by omega⟩
  have hmx : cap ≤ 9223372036854775807 := hb3
  have hnc : ((m + 1 : Nat) : Int) ≤ (cap : Int) := by omega
  have hcm : ¬ cap = m := by omega
  have hc1 : (1 : Int) ≤ (cap : Int) := by omega
  have hn1 : (1 : Int) ≤ ((m + 1 : Nat) : Int) := by omega
  have hmn : (m : Int) ≤ ((m + 1 : Nat) : Int) := by omega
  have hmn2 : (m : Int) ≤ (m : Int) + 1 := by omega
  have hmc : (m : Int) + 1 ≤ (cap : Int) := by omega
  have hm1 : (1 : Int) ≤ (m : Int) + 1 := by omega
  have hFIN : ∀ W2, W2.ownsRow B RS.tE RS.k (.slice (some ⟨g, 0, none⟩) (m + 1 - 1) cap) (m + 1 - 1) (RS.enc (l.take 0 ++ l.drop (0 + 1))) → w.grownBy W2 (some g) → RowTo15 RS B (l.drop 1) (.slice (some ⟨g, 0, none⟩) (m + 1) cap) w (.returned (.slice (some ⟨g, 0, none⟩) m cap)) W2 := fun W2 h1 h2 =>
    ⟨_, rfl, by rw [show (l.drop 1).length = m by rw [List.length_drop, hn]; rfl]; exact h1, h2, fun k hk => .inl hk⟩
  obtain ⟨R, hR⟩ : ∃ R, RowTo15 RS B (l.drop 1) (.slice (some ⟨g, 0, none⟩) (m + 1) cap) w = R := ⟨_, rfl⟩
  rw [hR] at hFIN ⊢
  by_cases hcap : cap = 1
  · subst hcap
    obtain rfl : m = 0 := by omega
    obtain ⟨W1, W2, e1, e2, e3, e4⟩ := Rec.del_one hn hown 0 hi RS.zero RS.zones 0 0 (fun h => by omega) 0 1
    have E1 : Hid ((Builtin.append_ #[23, 23] 23 #[.slice (some ⟨g, 0, none⟩) 0 1, .slice (some ⟨g, 0, none⟩) 0 0]).run Try.prog w.drew = .ok (.slice (some ⟨g, 0, none⟩) 0 1) W1) := e1
    have EC : Hid ((Builtin.clear_ #[23] 0 #[.slice (some ⟨g, 0, none⟩) 1 1]).run Try.prog W1 = .ok (.tuple #[]) W2) := e2
    have HFIN := Lib.hid (hFIN W2 e3 e4)
    clear e1 e2 e3 e4 hFIN hR hown hb1 hb2 hb3 hb4 hb5 hB hn
    go_enter Try.func43, Try.ntmps43
    go_wp2
    go_region_law (refine step_app9 rfl (.tmp 22) (.tmp 25) 23 rfl (by simp [Act.eval, Act.put]) (by simp [Act.eval, Act.put]) E1.out ?_)
    go_wp2
    rw [EC.out]
    simp only [Result.andThen]
    rw [Oper.upon_value]
    go_wp2
    exact HFIN.out
  · obtain ⟨W1, W2, e1, e2, e3, e4⟩ := Rec.del_one hn hown 0 hi RS.zero RS.zones 1 (cap - 1) (fun _ => rfl) 0 (cap - m)
    have E1 : Hid ((Builtin.append_ #[23, 23] 23 #[.slice (some ⟨g, 0, none⟩) 0 cap, .slice (some ⟨g, 1, none⟩) m (cap - 1)]).run Try.prog w.drew = .ok (.slice (some ⟨g, 0, none⟩) m cap) W1) := e1
    have EC : Hid ((Builtin.clear_ #[23] 0 #[.slice (some ⟨g, m, none⟩) 1 (cap - m)]).run Try.prog W1 = .ok (.tuple #[]) W2) := by
      have : (m + 1 - 1) * RS.k = m := by show (m + 1 - 1) * 1 = m; omega
      rw [this] at e2
      exact e2
    have HFIN := Lib.hid (hFIN W2 e3 e4)
    clear e1 e2 e3 e4 hFIN hR hown hb1 hb2 hb3 hb4 hb5 hB hn
    go_enter Try.func43, Try.ntmps43
    go_wp2
    go_region_law (refine step_app9 rfl (.tmp 22) (.tmp 25) 23 rfl (by simp [Act.eval, Act.put]) (by simp [Act.eval, Act.put]) E1.out ?_)
    go_wp2
    rw [EC.out]
    simp only [Result.andThen]
    rw [Oper.upon_value]
    go_wp2
    exact HFIN.out

end Go.Proofs.Ytpmgnhijiodbaaa
