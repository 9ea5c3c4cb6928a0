/-
  Proved here: what the Right of chapter 12's own answers.
  Conditions: keys of at most 2^30 bytes.
-/
import Derived.Test.YtfdifimakaiccaaOrdB
import Derived.Test.YtfdifimakaiccaaRef12C
namespace Go.Proofs.Ytfdifimakaiccaa
open Go Go.RowKit
set_option maxRecDepth 100000

/-- Whether a key is on a level. -/
def inL (lv : Int) (k : Ky) : Bool := decide (1 ≤ lv) && decide (lv ≤ (hgt k : Int))
set_option maxHeartbeats 1600000 in
set_option maxRecDepth 100000 in
theorem r12right_any {w : World} {p lo q : Nat} {L : List Ln} (h : Rt w p lo q L) (hk : ∀ x ∈ L, x.k.length ≤ 1073741824) (lv : Int) (s : ByteArray) (past : Bool) :
    Calls Try.prog 16 #[.pointer (some ⟨p, 0, none⟩), .int .i64 lv, .string s, .bool past] w (RightSays (rightT L lv s.data.toList past) w) := by
  obtain ⟨R, hR⟩ : ∃ R, RightSays (rightT L lv s.data.toList past) w = R := ⟨_, rfl⟩
  obtain ⟨g, hg⟩ : ∃ g, w.heap.size = g := ⟨_, rfl⟩
  have HG := Lib.hid hg
  have hmost := h.most
  obtain ⟨A, cap, -, -, hrd⟩ := h.reads
  have HYES : Hid (∀ (w' : World) (i : Nat) (x : Ln), (∀ j, j < i → ∃ a, L[j]? = some a ∧ (inL lv a.k && (!past || Op.bytesLess s.data.toList a.k)) = false) → L[i]? = some x → (inL lv x.k && (!past || Op.bytesLess s.data.toList x.k)) = true → Below g w w' → R (.returned (.tuple #[x.agg, .bool true])) w') := fun w' i x h1 h2 h3 h4 => by
    rw [← hR]
    have e : rightT L lv s.data.toList past = some x := find_at _ L i x h1 h2 h3
    unfold RightSays
    rw [e]
    exact ⟨rfl, hg.symm ▸ h4⟩
  have HNO : Hid (∀ (w' : World), (∀ j, j < L.length → ∃ a, L[j]? = some a ∧ (inL lv a.k && (!past || Op.bytesLess s.data.toList a.k)) = false) → Below g w w' → R (.returned (.tuple #[Ln.zero.agg, .bool false])) w') := fun w' h1 h4 => by
    rw [← hR]
    have e : rightT L lv s.data.toList past = none := find_no _ L h1
    unfold RightSays
    rw [e]
    exact ⟨rfl, hg.symm ▸ h4⟩
  have HZ := Lib.hid zero_link
  have HK := Lib.hid hk
  have HEB : Hid (∀ (x : Ln) (w' : World) (g : Nat), w'.heap[g]? = some (.cells #[.string x.str, .int .u64 (x.id : Nat), .int .u64 (x.ver : Nat), .int .i64 x.line, .int .i64 x.cl] 33 (0, 0)) → LBox w' g x) := fun x w' g h => h
  have HEZ : Hid (∀ (w' : World) (g : Nat), w'.heap[g]? = some (.cells #[.string ⟨#[]⟩, .int .u64 0, .int .u64 0, .int .i64 0, .int .i64 0] 33 (0, 0)) → LBox w' g Ln.zero) := fun w' g h => h
  rw [hR]
  obtain ⟨n, hn⟩ : ∃ n, L.length = n := ⟨_, rfl⟩
  have HN := Lib.hid hn
  rw [hn] at hrd hmost
  have HRD := Lib.hid hrd
  clear h hR hn hrd hk
  go_enter Try.func16, Try.ntmps16
  go_wp2_with (first
    | ((with_reducible show wpList _ _ _ (⟨some 8, .alloc _, _, _, _, _⟩ :: _) _ _); refine wpList_alloc_var (o := ⟨some 8, _, _, _, _, _⟩) rfl 33 rfl g HG.out _ HZ.out ?_; intro w1 H1 B1)
    | fail)
  obtain ⟨hc, hrw⟩ := HRD.out w1 (hg.symm ▸ B1.out)
  have HRW := Lib.hid hrw
  clear hrw hg
  go_loopg [10] n (fun gk s10 wx => ∃ i : Nat, i + gk = n ∧ s10 = .int .i64 i ∧ w1 = wx ∧ Hid (∀ j, j < i → ∃ a, L[j]? = some a ∧ (inL lv a.k && (!past || Op.bytesLess s.data.toList a.k)) = false))
  case atStart => exact ⟨0, by omega, rfl, rfl, fun j hj => by omega⟩
  case round =>
    obtain ⟨i, hig, rfl, rfl, HT⟩ := hrel
    cases gk with
    | zero =>
      obtain rfl : i = n := by omega
      have hii : ¬ (i : Int) < (i : Int) := by omega
      go_wp2_with (first
        | ((with_reducible show wpList _ _ _ (⟨none, .store _ (.tmp 8) _, _, _, _, _⟩ :: _) _ _); refine wpList_store_whole (o := ⟨none, .store 33 (.tmp 8) (.tmp 58), _, _, _, _⟩) rfl _ _ _ rfl rfl g #[.string ⟨#[]⟩, .int .u64 0, .int .u64 0, .int .i64 0, .int .i64 0] rfl rfl 33 _ H1.out size_link rfl (onesL _ _ _ _ _) ?_; intro w5 H5 B5)
        | fail)
      refine bodyPost_ret (results_l2 rfl rfl rfl (HEZ.out _ _ H5.out)) rfl ?_
      exact HNO.out _ (HN.out.symm ▸ HT.out) (B1.out.trans B5.out)
    | succ gk =>
      have hii : (i : Int) < (n : Int) := by omega
      have hgi := List.getElem?_eq_getElem (show i < L.length by have := HN.out; omega)
      generalize L[i]'(by have := HN.out; omega) = x at *
      obtain ⟨b0, off, rfl, -, c0, c1, c2, c3, c4⟩ := HRW.out.at_ hgi
      have hgq := gt_str x.str s
      have hxk : x.str.data.toList = x.k := rfl
      rw [hxk] at hgq
      have hbu := rlevel_any x.str (by show x.k.toArray.size ≤ _; simpa using HK.out x (List.mem_of_getElem? hgi)) w1
      rw [hxk] at hbu
      replace hbu : Calls Try.prog 31 #[.string x.str] w1 fun e w' => e = .returned (.int .i64 (hgt x.k : Nat)) ∧ w1 = w' := hbu
      have HBU := Lib.hid hbu
      have hin : inL lv x.k = (decide (1 ≤ lv) && decide (lv ≤ (hgt x.k : Int))) := rfl
      have HT2 : Hid ((inL lv x.k && (!past || Op.bytesLess s.data.toList x.k)) = false → ∀ j, j < i + 1 → ∃ a, L[j]? = some a ∧ (inL lv a.k && (!past || Op.bytesLess s.data.toList a.k)) = false) := fun hz j hj => by
        rcases Nat.lt_or_ge j i with h | h
        · exact HT.out j h
        · obtain rfl : j = i := by omega
          exact ⟨x, hgi, hz⟩
      have HY : Hid ((inL lv x.k && (!past || Op.bytesLess s.data.toList x.k)) = true → ∀ w', Below g w w' → R (.returned (.tuple #[x.agg, .bool true])) w') := fun hz w' hb => HYES.out w' i x HT.out hgi hz hb
      have HEX := Lib.hid (HEB.out x)
      obtain ⟨V, hV⟩ : ∃ V, V = x.agg := ⟨_, rfl⟩
      have HV := Lib.hid hV
      rw [← hV] at HY
      generalize hgt x.k = bk at *
      obtain ⟨a1, ha1⟩ : ∃ a1, decide (1 ≤ lv) = a1 := ⟨_, rfl⟩
      obtain ⟨a2, ha2⟩ : ∃ a2, decide (lv ≤ (bk : Int)) = a2 := ⟨_, rfl⟩
      rw [ha1, ha2] at hin
      rw [hin] at HT2 HY
      obtain ⟨z2, hz2⟩ : ∃ z2, Op.bytesLess s.data.toList x.k = z2 := ⟨_, rfl⟩
      rw [hz2] at hgq HT2 HY
      clear hxk hV hgi hz2 hbu HT hin
      generalize x.str = x0 at *
      generalize (x.id : Int) = x1 at *
      generalize (x.ver : Int) = x2 at *
      generalize x.line = x3 at *
      generalize x.cl = x4 at *
      cases a1 with
      | false =>
        replace HT2 : Hid (false = false → _) := fun _ => HT2.out (by simp)
        have HT3 := Lib.hid (HT2.out rfl)
        clear HT2 HY
        go_wp2
        go_roundg gk
        case measure => omega
        case rel => exact ⟨i + 1, by omega, by go_num, rfl, HT3⟩
      | true =>
        cases a2 with
        | false =>
          replace HT2 : Hid (false = false → _) := fun _ => HT2.out (by simp)
          have HT3 := Lib.hid (HT2.out rfl)
          clear HT2 HY
          go_wp2_with (go_at_call 31; refine HBU.out.mono ?_; rintro e w' ⟨rfl, rfl⟩)
          go_roundg gk
          case measure => omega
          case rel => exact ⟨i + 1, by omega, by go_num, rfl, HT3⟩
        | true =>
          cases past with
          | false =>
            replace HY : Hid (true = true → _) := fun _ => HY.out (by simp)
            have HY3 := Lib.hid (HY.out rfl)
            clear HT2 HY
            go_wp2_with (first
              | (go_at_call 31; refine HBU.out.mono ?_; rintro e w' ⟨rfl, rfl⟩)
              | ((with_reducible show wpList _ _ _ (⟨none, .store _ (.tmp 8) _, _, _, _, _⟩ :: _) _ _); refine wpList_store_whole (o := ⟨none, .store 33 (.tmp 8) (.tmp 57), _, _, _, _⟩) rfl _ _ _ rfl rfl g #[.string x0, .int .u64 x1, .int .u64 x2, .int .i64 x3, .int .i64 x4] rfl rfl 33 _ H1.out size_link rfl (onesL _ _ _ _ _) ?_; intro w5 H5 B5)
              | fail)
            refine bodyPost_ret (results_l2 rfl rfl rfl (HEX.out _ _ H5.out)) rfl ?_
            rw [← HV.out]
            exact HY3.out _ (B1.out.trans B5.out)
          | true =>
            cases z2 with
            | true =>
              replace HY : Hid (true = true → _) := fun _ => HY.out (by simp)
              have HY3 := Lib.hid (HY.out rfl)
              clear HT2 HY
              go_wp2_with (first
                | (go_at_call 31; refine HBU.out.mono ?_; rintro e w' ⟨rfl, rfl⟩)
                | ((with_reducible show wpList _ _ _ (⟨none, .store _ (.tmp 8) _, _, _, _, _⟩ :: _) _ _); refine wpList_store_whole (o := ⟨none, .store 33 (.tmp 8) (.tmp 57), _, _, _, _⟩) rfl _ _ _ rfl rfl g #[.string x0, .int .u64 x1, .int .u64 x2, .int .i64 x3, .int .i64 x4] rfl rfl 33 _ H1.out size_link rfl (onesL _ _ _ _ _) ?_; intro w5 H5 B5)
                | fail)
              refine bodyPost_ret (results_l2 rfl rfl rfl (HEX.out _ _ H5.out)) rfl ?_
              rw [← HV.out]
              exact HY3.out _ (B1.out.trans B5.out)
            | false =>
              replace HT2 : Hid (false = false → _) := fun _ => HT2.out (by simp)
              have HT3 := Lib.hid (HT2.out rfl)
              clear HT2 HY
              go_wp2_with (go_at_call 31; refine HBU.out.mono ?_; rintro e w' ⟨rfl, rfl⟩)
              go_roundg gk
              case measure => omega
              case rel => exact ⟨i + 1, by omega, by go_num, rfl, HT3⟩

end Go.Proofs.Ytfdifimakaiccaa
