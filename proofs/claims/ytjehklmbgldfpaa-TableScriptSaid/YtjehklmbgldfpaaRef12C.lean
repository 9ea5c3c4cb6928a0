/-
  Proved here: what chapter 12's own without and Next answer.
  Conditions: rows of fewer than 2^20 links.
-/
import Derived.Test.YtjehklmbgldfpaaRef12A
namespace Go.Proofs.Ytjehklmbgldfpaa
open Go Go.RowKit
set_option maxRecDepth 100000

theorem take_snoc {α : Type} {L : List α} {i : Nat} {x : α} (h : L[i]? = some x) : L.take (i + 1) = L.take i ++ [x] := by
  rw [List.take_add_one, h]
  rfl
theorem dropT_snoc (L : List Ln) (x : Ln) (k : Ky) : dropT (L ++ [x]) k = if (x.k == k) = true then dropT L k else dropT L k ++ [x] := by
  unfold dropT
  rw [List.filter_append]
  cases h : x.k == k with
  | true => simp [h]
  | false => simp [h]
/-- What without leaves. -/
def WoTo (L : List Ln) (k : Ky) (w : World) (e : Ending) (w' : World) : Prop := ∃ v, e = .returned v ∧ w'.ownsRow w.heap.size 33 5 v (dropT L k).length (encL (dropT L k)) ∧ Below w.heap.size w w'
set_option maxHeartbeats 1600000 in
set_option maxRecDepth 100000 in
theorem without_any {w : World} {A : Option Addr} {L : List Ln} (n cap : Nat) (hn : L.length = n) (hr : RowL w A L) (hl : n < 1048576) (s : ByteArray) :
    Calls Try.prog 25 #[.slice A n cap, .string s] w (WoTo L s.data.toList w) := by
  obtain ⟨R, hR⟩ : ∃ R, WoTo L s.data.toList w = R := ⟨_, rfl⟩
  obtain ⟨g, hg⟩ : ∃ g, w.heap.size = g := ⟨_, rfl⟩
  have HG := Lib.hid hg
  have HEND : Hid (∀ v w', w'.ownsRow g 33 5 v (dropT (L.take n) s.data.toList).length (encL (dropT (L.take n) s.data.toList)) → Below g w w' → R (.returned v) w') := fun v w' h1 h2 => by
    rw [← hR]
    rw [← hn, List.take_length] at h1
    exact ⟨v, rfl, hg.symm ▸ h1, hg.symm ▸ h2⟩
  have HR := Lib.hid hr
  have HN := Lib.hid hn
  rw [hR]
  clear hR hr hn hg
  go_enter Try.func25, Try.ntmps25
  go_wp2
  go_loopg [5, 6] n (fun gk s5 s6 wx => ∃ i : Nat, i + gk = n ∧ s6 = .int .i64 i ∧ Hid (wx.ownsRow g 33 5 s5 (dropT (L.take i) s.data.toList).length (encL (dropT (L.take i) s.data.toList))) ∧ Hid (Below g w wx))
  case atStart => exact ⟨0, by omega, rfl, World.ownsRow_nil _ _ _ _, Below.refl _ _⟩
  case round =>
    obtain ⟨i, hig, rfl, HO, HB⟩ := hrel
    cases gk with
    | zero =>
      obtain rfl : i = n := by omega
      have hii : ¬ (i : Int) < (i : Int) := by omega
      go_wp2
      exact HEND.out _ _ HO.out HB.out
    | succ gk =>
      have hii : (i : Int) < (n : Int) := by omega
      have hgi := List.getElem?_eq_getElem (show i < L.length by have := HN.out; omega)
      generalize L[i]'(by have := HN.out; omega) = x at *
      obtain ⟨b, off, rfl, -, c0, c1, c2, c3, c4⟩ := (HR.out.below (HG.out.symm ▸ HB.out)).at_ hgi
      have heq := str_eq12 x.str s
      have hxk : x.str.data.toList = x.k := rfl
      rw [hxk] at heq
      have hds := dropT_snoc (L.take i) x s.data.toList
      rw [← take_snoc hgi] at hds
      have hlen : (dropT (L.take i) s.data.toList).length ≤ i := by
        have h1 : (dropT (L.take i) s.data.toList).length ≤ (L.take i).length := List.length_filter_le _ _
        have h2 := List.length_take_le i L
        omega
      cases hz : x.k == s.data.toList with
      | true =>
        rw [hz] at heq hds
        rw [if_pos rfl] at hds
        have HDS := Lib.hid hds
        clear hxk hgi hz hds hlen
        generalize x.str = x0 at *
        generalize (x.id : Int) = x1 at *
        generalize (x.ver : Int) = x2 at *
        generalize x.line = x3 at *
        generalize x.cl = x4 at *
        go_wp2
        go_roundg gk
        case measure => omega
        case rel => exact ⟨i + 1, by omega, by go_num, by rw [HDS.out]; exact HO, HB⟩
      | false =>
        rw [hz] at heq hds
        rw [if_neg (by simp)] at hds
        have HDS := Lib.hid hds
        have hgw : g ≤ wr.heap.size := by have := HB.out.size; have := HG.out; omega
        obtain ⟨v', w', e1, e2, e3, -⟩ := run_appL_one wr g u5 (dropT (L.take i) s.data.toList) x HO.out (by omega) hgw
        rw [← hds] at e2
        have E1 := Lib.hid e1
        have E2 := Lib.hid e2
        have E3 : Hid (Below g w w') := HB.out.grown e3 hgw (fun j hj => own_ge HO.out j hj)
        clear hxk hgi hz hds hlen e1 e2 e3 hgw
        generalize x.str = x0 at *
        generalize (x.id : Int) = x1 at *
        generalize (x.ver : Int) = x2 at *
        generalize x.line = x3 at *
        generalize x.cl = x4 at *
        go_wp2_with (first
          | (at_builtin; refine wpList_app rfl (.tmp 20) (.tmp 25) 28 rfl rfl rfl E1.out ?_))
        go_roundg gk
        case measure => omega
        case rel => exact ⟨i + 1, by omega, by go_num, E2, E3⟩
set_option maxHeartbeats 1600000 in
set_option maxRecDepth 100000 in
theorem r12next_any {w : World} {p lo q : Nat} {L : List Ln} (h : Rt w p lo q L) (hk : ∀ x ∈ L, x.k.length ≤ 1073741824) (b : Int) (s : ByteArray) (past : Bool) :
    Calls Try.prog 18 #[.pointer (some ⟨p, 0, none⟩), .int .i64 b, .string s, .bool past] w (NextSays L b s past w) := by
  obtain ⟨R, hR⟩ : ∃ R, NextSays L b s past w = R := ⟨_, rfl⟩
  obtain ⟨g, hg⟩ : ∃ g, w.heap.size = g := ⟨_, rfl⟩
  have HG := Lib.hid hg
  have hmost := h.most
  obtain ⟨A, cap, -, -, hrd⟩ := h.reads
  have HYES : Hid (∀ (w' : World) (i : Nat) (x : Ln), (∀ j, j < i → ∃ a, L[j]? = some a ∧ (inB b a.k && (!past || Op.bytesLess s.data.toList a.k)) = false) → L[i]? = some x → (inB b x.k && (!past || Op.bytesLess s.data.toList x.k)) = true → Below g w w' → R (.returned (.tuple #[x.agg, .bool true])) w') := fun w' i x h1 h2 h3 h4 => by
    rw [← hR]
    have e : nextB L b s.data.toList past = some x := find_at _ L i x h1 h2 h3
    unfold NextSays
    rw [e]
    exact ⟨rfl, hg.symm ▸ h4⟩
  have HNO : Hid (∀ (w' : World), (∀ j, j < L.length → ∃ a, L[j]? = some a ∧ (inB b a.k && (!past || Op.bytesLess s.data.toList a.k)) = false) → Below g w w' → R (.returned (.tuple #[Ln.zero.agg, .bool false])) w') := fun w' h1 h4 => by
    rw [← hR]
    have e : nextB L b s.data.toList past = none := find_no _ L h1
    unfold NextSays
    rw [e]
    exact ⟨rfl, hg.symm ▸ h4⟩
  have HZ := Lib.hid zero_link
  have HK := Lib.hid hk
  have HEB : Hid (∀ (x : Ln) (w' : World) (g : Nat), w'.heap[g]? = some (.cells #[.string x.str, .int .u64 (x.id : Nat), .int .u64 (x.ver : Nat), .int .i64 x.line, .int .i64 x.cl] 33 (0, 0)) → LBox w' g x) := fun x w' g h => h
  have HEZ : Hid (∀ (w' : World) (g : Nat), w'.heap[g]? = some (.cells #[.string ⟨#[]⟩, .int .u64 0, .int .u64 0, .int .i64 0, .int .i64 0] 33 (0, 0)) → LBox w' g Ln.zero) := fun w' g h => h
  rw [hR]
  obtain ⟨n, hn⟩ : ∃ n, L.length = n := ⟨_, rfl⟩
  have HN := Lib.hid hn
  rw [hn] at hrd hmost
  have HRD := Lib.hid hrd
  clear h hR hn hrd hk
  go_enter Try.func18, Try.ntmps18
  go_wp2_with (first
    | ((with_reducible show wpList _ _ _ (⟨some 8, .alloc _, _, _, _, _⟩ :: _) _ _); refine wpList_alloc_var (o := ⟨some 8, _, _, _, _, _⟩) rfl 33 rfl g HG.out _ HZ.out ?_; intro w1 H1 B1)
    | fail)
  obtain ⟨hc, hrw⟩ := HRD.out w1 (hg.symm ▸ B1.out)
  have HRW := Lib.hid hrw
  clear hrw hg
  go_loopg [10] n (fun gk s10 wx => ∃ i : Nat, i + gk = n ∧ s10 = .int .i64 i ∧ w1 = wx ∧ Hid (∀ j, j < i → ∃ a, L[j]? = some a ∧ (inB b a.k && (!past || Op.bytesLess s.data.toList a.k)) = false))
  case atStart => exact ⟨0, by omega, rfl, rfl, fun j hj => by omega⟩
  case round =>
    obtain ⟨i, hig, rfl, rfl, HT⟩ := hrel
    cases gk with
    | zero =>
      obtain rfl : i = n := by omega
      have hii : ¬ (i : Int) < (i : Int) := by omega
      go_wp2_with (first
        | ((with_reducible show wpList _ _ _ (⟨none, .store _ (.tmp 8) _, _, _, _, _⟩ :: _) _ _); refine wpList_store_whole (o := ⟨none, .store 33 (.tmp 8) (.tmp 54), _, _, _, _⟩) rfl _ _ _ rfl rfl g #[.string ⟨#[]⟩, .int .u64 0, .int .u64 0, .int .i64 0, .int .i64 0] rfl rfl 33 _ H1.out size_link rfl (onesL _ _ _ _ _) ?_; intro w5 H5 B5)
        | fail)
      refine bodyPost_ret (results_l2 rfl rfl rfl (HEZ.out _ _ H5.out)) rfl ?_
      exact HNO.out _ (HN.out.symm ▸ HT.out) (B1.out.trans B5.out)
    | succ gk =>
      have hii : (i : Int) < (n : Int) := by omega
      have hgi := List.getElem?_eq_getElem (show i < L.length by have := HN.out; omega)
      generalize L[i]'(by have := HN.out; omega) = x at *
      obtain ⟨b0, off, rfl, -, c0, c1, c2, c3, c4⟩ := HRW.out.at_ hgi
      have hgt := gt_str x.str s
      have hxk : x.str.data.toList = x.k := rfl
      rw [hxk] at hgt
      have hbu := rbucket_any x.str (by show x.k.toArray.size ≤ _; simpa using HK.out x (List.mem_of_getElem? hgi)) w1
      rw [hxk] at hbu
      replace hbu : Calls Try.prog 28 #[.string x.str] w1 fun e w' => e = .returned (.int .i64 (bkt x.k : Nat)) ∧ w1 = w' := hbu
      have HBU := Lib.hid hbu
      have hin : inB b x.k = (((bkt x.k : Nat) : Int) == b) := rfl
      have HT2 : Hid ((inB b x.k && (!past || Op.bytesLess s.data.toList x.k)) = false → ∀ j, j < i + 1 → ∃ a, L[j]? = some a ∧ (inB b a.k && (!past || Op.bytesLess s.data.toList a.k)) = false) := fun hz j hj => by
        rcases Nat.lt_or_ge j i with h | h
        · exact HT.out j h
        · obtain rfl : j = i := by omega
          exact ⟨x, hgi, hz⟩
      have HY : Hid ((inB b x.k && (!past || Op.bytesLess s.data.toList x.k)) = true → ∀ w', Below g w w' → R (.returned (.tuple #[x.agg, .bool true])) w') := fun hz w' hb => HYES.out w' i x HT.out hgi hz hb
      have HEX := Lib.hid (HEB.out x)
      obtain ⟨V, hV⟩ : ∃ V, V = x.agg := ⟨_, rfl⟩
      have HV := Lib.hid hV
      rw [← hV] at HY
      generalize bkt x.k = bk at *
      obtain ⟨z1, hz1⟩ : ∃ z1, inB b x.k = z1 := ⟨_, rfl⟩
      obtain ⟨z2, hz2⟩ : ∃ z2, Op.bytesLess s.data.toList x.k = z2 := ⟨_, rfl⟩
      rw [hz1] at hin HT2 HY
      rw [hz2] at hgt HT2 HY
      clear hxk hV hgi hz1 hz2 hbu HT
      generalize x.str = x0 at *
      generalize (x.id : Int) = x1 at *
      generalize (x.ver : Int) = x2 at *
      generalize x.line = x3 at *
      generalize x.cl = x4 at *
      replace hin := hin.symm
      cases z1 with
      | false =>
        have HT3 := Lib.hid (HT2.out rfl)
        clear HT2 HY
        go_wp2_with (go_at_call 28; refine HBU.out.mono ?_; rintro e w' ⟨rfl, rfl⟩)
        go_roundg gk
        case measure => omega
        case rel => exact ⟨i + 1, by omega, by go_num, rfl, HT3⟩
      | true =>
        cases past with
        | false =>
          have HY3 := Lib.hid (HY.out rfl)
          clear HT2 HY
          go_wp2_with (first
            | (go_at_call 28; refine HBU.out.mono ?_; rintro e w' ⟨rfl, rfl⟩)
            | ((with_reducible show wpList _ _ _ (⟨none, .store _ (.tmp 8) _, _, _, _, _⟩ :: _) _ _); refine wpList_store_whole (o := ⟨none, .store 33 (.tmp 8) (.tmp 53), _, _, _, _⟩) rfl _ _ _ rfl rfl g #[.string x0, .int .u64 x1, .int .u64 x2, .int .i64 x3, .int .i64 x4] rfl rfl 33 _ H1.out size_link rfl (onesL _ _ _ _ _) ?_; intro w5 H5 B5)
            | fail)
          refine bodyPost_ret (results_l2 rfl rfl rfl (HEX.out _ _ H5.out)) rfl ?_
          rw [← HV.out]
          exact HY3.out _ (B1.out.trans B5.out)
        | true =>
          cases z2 with
          | true =>
            have HY3 := Lib.hid (HY.out rfl)
            clear HT2 HY
            go_wp2_with (first
              | (go_at_call 28; refine HBU.out.mono ?_; rintro e w' ⟨rfl, rfl⟩)
              | ((with_reducible show wpList _ _ _ (⟨none, .store _ (.tmp 8) _, _, _, _, _⟩ :: _) _ _); refine wpList_store_whole (o := ⟨none, .store 33 (.tmp 8) (.tmp 53), _, _, _, _⟩) rfl _ _ _ rfl rfl g #[.string x0, .int .u64 x1, .int .u64 x2, .int .i64 x3, .int .i64 x4] rfl rfl 33 _ H1.out size_link rfl (onesL _ _ _ _ _) ?_; intro w5 H5 B5)
              | fail)
            refine bodyPost_ret (results_l2 rfl rfl rfl (HEX.out _ _ H5.out)) rfl ?_
            rw [← HV.out]
            exact HY3.out _ (B1.out.trans B5.out)
          | false =>
            have HT3 := Lib.hid (HT2.out rfl)
            clear HT2 HY
            go_wp2_with (go_at_call 28; refine HBU.out.mono ?_; rintro e w' ⟨rfl, rfl⟩)
            go_roundg gk
            case measure => omega
            case rel => exact ⟨i + 1, by omega, by go_num, rfl, HT3⟩

end Go.Proofs.Ytjehklmbgldfpaa
