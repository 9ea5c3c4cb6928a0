/-
  Proved here: what chapter 12's own Get answers.
  Conditions: none.
-/
import Derived.Test.YtfdifimakaiccaaRef12A
namespace Go.Proofs.Ytfdifimakaiccaa
open Go Go.RowKit
set_option maxRecDepth 100000

set_option maxHeartbeats 1600000 in
set_option maxRecDepth 100000 in
theorem r12get_any {w : World} {p lo q : Nat} {L : List Ln} (h : Rt w p lo q L) (s : ByteArray) :
    Calls Try.prog 25 #[.pointer (some ⟨p, 0, none⟩), .string s] w fun e w' => e = .returned (.tuple #[(linkT L s.data.toList).agg, .bool (hasT L s.data.toList)]) ∧ Below w.heap.size w w' := by
  obtain ⟨R, hR⟩ : ∃ R : Ending → World → Prop, (fun e w' => e = .returned (.tuple #[(linkT L s.data.toList).agg, .bool (hasT L s.data.toList)]) ∧ Below w.heap.size w w') = R := ⟨_, rfl⟩
  obtain ⟨g, hg⟩ : ∃ g, w.heap.size = g := ⟨_, rfl⟩
  have HG := Lib.hid hg
  have hmost := h.most
  obtain ⟨A, cap, -, -, hrd⟩ := h.reads
  have HYES : Hid (∀ (w' : World) (i : Nat) (x : Ln), (∀ j, j < i → ∃ a, L[j]? = some a ∧ (a.k == s.data.toList) = false) → L[i]? = some x → (x.k == s.data.toList) = true → Below g w w' → R (.returned (.tuple #[x.agg, .bool true])) w') := fun w' i x h1 h2 h3 h4 => by
    rw [← hR]
    have e : getT L s.data.toList = some x := find_at _ L i x h1 h2 h3
    unfold linkT hasT
    rw [e]
    exact ⟨rfl, hg.symm ▸ h4⟩
  have HNO : Hid (∀ (w' : World), (∀ j, j < L.length → ∃ a, L[j]? = some a ∧ (a.k == s.data.toList) = false) → Below g w w' → R (.returned (.tuple #[Ln.zero.agg, .bool false])) w') := fun w' h1 h4 => by
    rw [← hR]
    have e : getT L s.data.toList = none := find_no _ L h1
    unfold linkT hasT
    rw [e]
    exact ⟨rfl, hg.symm ▸ h4⟩
  have HZ := Lib.hid zero_link
  have HEB : Hid (∀ (x : Ln) (w' : World) (g : Nat), w'.heap[g]? = some (.cells #[.string x.str, .int .u64 (x.id : Nat), .int .u64 (x.ver : Nat), .int .i64 x.line, .int .i64 x.cl] 33 (0, 0)) → LBox w' g x) := fun x w' g h => h
  have HEZ : Hid (∀ (w' : World) (g : Nat), w'.heap[g]? = some (.cells #[.string ⟨#[]⟩, .int .u64 0, .int .u64 0, .int .i64 0, .int .i64 0] 33 (0, 0)) → LBox w' g Ln.zero) := fun w' g h => h
  rw [hR]
  obtain ⟨n, hn⟩ : ∃ n, L.length = n := ⟨_, rfl⟩
  have HN := Lib.hid hn
  rw [hn] at hrd hmost
  have HRD := Lib.hid hrd
  clear h hR hn hrd
  go_enter Try.func25, Try.ntmps25
  go_wp2_with (first
    | ((with_reducible show wpList _ _ _ (⟨some 4, .alloc _, _, _, _, _⟩ :: _) _ _); refine wpList_alloc_var (o := ⟨some 4, _, _, _, _, _⟩) rfl 33 rfl g HG.out _ HZ.out ?_; intro w1 H1 B1)
    | fail)
  obtain ⟨hc, hrw⟩ := HRD.out w1 (hg.symm ▸ B1.out)
  have HRW := Lib.hid hrw
  clear hrw hg
  go_loopg [6] n (fun gk s6 wx => ∃ i : Nat, i + gk = n ∧ s6 = .int .i64 i ∧ w1 = wx ∧ Hid (∀ j, j < i → ∃ a, L[j]? = some a ∧ (a.k == s.data.toList) = false))
  case atStart => exact ⟨0, by omega, rfl, rfl, fun j hj => by omega⟩
  case round =>
    obtain ⟨i, hig, rfl, rfl, HT⟩ := hrel
    cases gk with
    | zero =>
      obtain rfl : i = n := by omega
      have hii : ¬ (i : Int) < (i : Int) := by omega
      go_wp2_with (first
        | ((with_reducible show wpList _ _ _ (⟨none, .store _ (.tmp 4) _, _, _, _, _⟩ :: _) _ _); refine wpList_store_whole (o := ⟨none, .store 33 (.tmp 4) (.tmp 33), _, _, _, _⟩) rfl _ _ _ rfl rfl g #[.string ⟨#[]⟩, .int .u64 0, .int .u64 0, .int .i64 0, .int .i64 0] rfl rfl 33 _ H1.out size_link rfl (onesL _ _ _ _ _) ?_; intro w5 H5 B5)
        | fail)
      refine bodyPost_ret (results_l2 rfl rfl rfl (HEZ.out _ _ H5.out)) rfl ?_
      exact HNO.out _ (HN.out.symm ▸ HT.out) (B1.out.trans B5.out)
    | succ gk =>
      have hii : (i : Int) < (n : Int) := by omega
      have hgi := List.getElem?_eq_getElem (show i < L.length by have := HN.out; omega)
      generalize L[i]'(by have := HN.out; omega) = x at *
      obtain ⟨b, off, rfl, -, c0, c1, c2, c3, c4⟩ := HRW.out.at_ hgi
      have heq := str_eq12 x.str s
      have hxk : x.str.data.toList = x.k := rfl
      rw [hxk] at heq
      cases hz : x.k == s.data.toList with
      | true =>
        rw [hz] at heq
        have HY : Hid (∀ w', Below g w w' → R (.returned (.tuple #[x.agg, .bool true])) w') := fun w' hb => HYES.out w' i x HT.out hgi hz hb
        have HEX := Lib.hid (HEB.out x)
        obtain ⟨V, hV⟩ : ∃ V, V = x.agg := ⟨_, rfl⟩
        have HV := Lib.hid hV
        rw [← hV] at HY
        clear hxk hV hgi hz
        generalize x.str = x0 at *
        generalize (x.id : Int) = x1 at *
        generalize (x.ver : Int) = x2 at *
        generalize x.line = x3 at *
        generalize x.cl = x4 at *
        go_wp2_with (first
          | ((with_reducible show wpList _ _ _ (⟨none, .store _ (.tmp 4) _, _, _, _, _⟩ :: _) _ _); refine wpList_store_whole (o := ⟨none, .store 33 (.tmp 4) (.tmp 32), _, _, _, _⟩) rfl _ _ _ rfl rfl g #[.string x0, .int .u64 x1, .int .u64 x2, .int .i64 x3, .int .i64 x4] rfl rfl 33 _ H1.out size_link rfl (onesL _ _ _ _ _) ?_; intro w5 H5 B5)
          | fail)
        refine bodyPost_ret (results_l2 rfl rfl rfl (HEX.out _ _ H5.out)) rfl ?_
        rw [← HV.out]
        exact HY.out _ (B1.out.trans B5.out)
      | false =>
        rw [hz] at heq
        have HT2 : Hid (∀ j, j < i + 1 → ∃ a, L[j]? = some a ∧ (a.k == s.data.toList) = false) := fun j hj => by
          rcases Nat.lt_or_ge j i with h | h
          · exact HT.out j h
          · obtain rfl : j = i := by omega
            exact ⟨x, hgi, hz⟩
        have HGI := Lib.hid hgi
        clear hxk hgi hz HT
        generalize x.str = x0 at *
        generalize (x.id : Int) = x1 at *
        generalize (x.ver : Int) = x2 at *
        generalize x.line = x3 at *
        generalize x.cl = x4 at *
        go_wp2
        go_roundg gk
        case measure => omega
        case rel => exact ⟨i + 1, by omega, by go_num, rfl, HT2⟩

end Go.Proofs.Ytfdifimakaiccaa
