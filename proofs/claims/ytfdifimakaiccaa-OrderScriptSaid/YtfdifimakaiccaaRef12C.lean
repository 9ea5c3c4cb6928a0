/-
  Proved here: what chapter 12's own without and Next answer.
  Conditions: rows of fewer than 2^20 links.
-/
import Derived.Test.YtfdifimakaiccaaRef12A
namespace Go.Proofs.Ytfdifimakaiccaa
open Go Go.RowKit
set_option maxRecDepth 100000

theorem take_snoc {α : Type} {L : List α} {i : Nat} {x : α} (h : L[i]? = some x) : L.take (i + 1) = L.take i ++ [x] := by
  rw [List.take_add_one, h]
  rfl
theorem dropT_snoc (L : List Ln) (x : Ln) (k : Ky) : dropT (L ++ [x]) k = if (x.k == k) = true then dropT L k else dropT L k ++ [x] := by
  unfold dropT
  rw [List.filter_append]
  cases h : x.k == k with
  | true => simp [h]
  | false => simp [h]
/-- What without leaves. -/
def WoTo (L : List Ln) (k : Ky) (w : World) (e : Ending) (w' : World) : Prop := ∃ v, e = .returned v ∧ w'.ownsRow w.heap.size 33 5 v (dropT L k).length (encL (dropT L k)) ∧ Below w.heap.size w w'
set_option maxHeartbeats 1600000 in
set_option maxRecDepth 100000 in
theorem without_any {w : World} {A : Option Addr} {L : List Ln} (n cap : Nat) (hn : L.length = n) (hr : RowL w A L) (hl : n < 1048576) (s : ByteArray) :
    Calls Try.prog 26 #[.slice A n cap, .string s] w (WoTo L s.data.toList w) := by
  obtain ⟨R, hR⟩ : ∃ R, WoTo L s.data.toList w = R := ⟨_, rfl⟩
  obtain ⟨g, hg⟩ : ∃ g, w.heap.size = g := ⟨_, rfl⟩
  have HG := Lib.hid hg
  have HEND : Hid (∀ v w', w'.ownsRow g 33 5 v (dropT (L.take n) s.data.toList).length (encL (dropT (L.take n) s.data.toList)) → Below g w w' → R (.returned v) w') := fun v w' h1 h2 => by
    rw [← hR]
    rw [← hn, List.take_length] at h1
    exact ⟨v, rfl, hg.symm ▸ h1, hg.symm ▸ h2⟩
  have HR := Lib.hid hr
  have HN := Lib.hid hn
  rw [hR]
  clear hR hr hn hg
  go_enter Try.func26, Try.ntmps26
  go_wp2
  go_loopg [5, 6] n (fun gk s5 s6 wx => ∃ i : Nat, i + gk = n ∧ s6 = .int .i64 i ∧ Hid (wx.ownsRow g 33 5 s5 (dropT (L.take i) s.data.toList).length (encL (dropT (L.take i) s.data.toList))) ∧ Hid (Below g w wx))
  case atStart => exact ⟨0, by omega, rfl, World.ownsRow_nil _ _ _ _, Below.refl _ _⟩
  case round =>
    obtain ⟨i, hig, rfl, HO, HB⟩ := hrel
    cases gk with
    | zero =>
      obtain rfl : i = n := by omega
      have hii : ¬ (i : Int) < (i : Int) := by omega
      go_wp2
      exact HEND.out _ _ HO.out HB.out
    | succ gk =>
      have hii : (i : Int) < (n : Int) := by omega
      have hgi := List.getElem?_eq_getElem (show i < L.length by have := HN.out; omega)
      generalize L[i]'(by have := HN.out; omega) = x at *
      obtain ⟨b, off, rfl, -, c0, c1, c2, c3, c4⟩ := (HR.out.below (HG.out.symm ▸ HB.out)).at_ hgi
      have heq := str_eq12 x.str s
      have hxk : x.str.data.toList = x.k := rfl
      rw [hxk] at heq
      have hds := dropT_snoc (L.take i) x s.data.toList
      rw [← take_snoc hgi] at hds
      have hlen : (dropT (L.take i) s.data.toList).length ≤ i := by
        have h1 : (dropT (L.take i) s.data.toList).length ≤ (L.take i).length := List.length_filter_le _ _
        have h2 := List.length_take_le i L
        omega
      cases hz : x.k == s.data.toList with
      | true =>
        rw [hz] at heq hds
        rw [if_pos rfl] at hds
        have HDS := Lib.hid hds
        clear hxk hgi hz hds hlen
        generalize x.str = x0 at *
        generalize (x.id : Int) = x1 at *
        generalize (x.ver : Int) = x2 at *
        generalize x.line = x3 at *
        generalize x.cl = x4 at *
        go_wp2
        go_roundg gk
        case measure => omega
        case rel => exact ⟨i + 1, by omega, by go_num, by rw [HDS.out]; exact HO, HB⟩
      | false =>
        rw [hz] at heq hds
        rw [if_neg (by simp)] at hds
        have HDS := Lib.hid hds
        have hgw : g ≤ wr.heap.size := by have := HB.out.size; have := HG.out; omega
        obtain ⟨v', w', e1, e2, e3, -⟩ := run_appL_one wr g u5 (dropT (L.take i) s.data.toList) x HO.out (by omega) hgw
        rw [← hds] at e2
        have E1 := Lib.hid e1
        have E2 := Lib.hid e2
        have E3 : Hid (Below g w w') := HB.out.grown e3 hgw (fun j hj => own_ge HO.out j hj)
        clear hxk hgi hz hds hlen e1 e2 e3 hgw
        generalize x.str = x0 at *
        generalize (x.id : Int) = x1 at *
        generalize (x.ver : Int) = x2 at *
        generalize x.line = x3 at *
        generalize x.cl = x4 at *
        go_wp2_with (first
          | (at_builtin; refine wpList_app rfl (.tmp 20) (.tmp 25) 28 rfl rfl rfl E1.out ?_))
        go_roundg gk
        case measure => omega
        case rel => exact ⟨i + 1, by omega, by go_num, E2, E3⟩
end Go.Proofs.Ytfdifimakaiccaa
