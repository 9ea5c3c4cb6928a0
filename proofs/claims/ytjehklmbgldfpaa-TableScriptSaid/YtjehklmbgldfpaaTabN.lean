/-
  Proved here: what the table's Next answers.
  Conditions: keys of at most 2^30 bytes; at most 2^20 links.
-/
import Derived.Test.YtjehklmbgldfpaaTabB
import Derived.Test.YtjehklmbgldfpaaTabK
namespace Go.Proofs.Ytjehklmbgldfpaa
open Go Go.RowKit
set_option maxRecDepth 100000

theorem find_at {α : Type} (p : α → Bool) (L : List α) (i : Nat) (x : α) (h : ∀ j, j < i → ∃ a, L[j]? = some a ∧ p a = false) (hx : L[i]? = some x) (hp : p x = true) : L.find? p = some x := by
  induction L generalizing i with
  | nil => cases hx
  | cons a L ih =>
    cases i with
    | zero =>
      obtain rfl : a = x := by simpa using hx
      simp [hp]
    | succ i =>
      obtain ⟨b, hb, hbp⟩ := h 0 (by omega)
      obtain rfl : a = b := by simpa using hb
      rw [List.find?_cons, hbp]
      exact ih i (fun j hj => by have := h (j + 1) (by omega); simpa using this) (by simpa using hx)
theorem find_no {α : Type} (p : α → Bool) (L : List α) (h : ∀ j, j < L.length → ∃ a, L[j]? = some a ∧ p a = false) : L.find? p = none := by
  rw [List.find?_eq_none]
  intro x hx
  obtain ⟨j, hj, e⟩ := List.getElem_of_mem hx
  obtain ⟨a, ha, hp⟩ := h j hj
  rw [List.getElem?_eq_getElem hj, e] at ha
  cases ha
  simp [hp]
def inB (b : Int) (k : Ky) : Bool := ((bkt k : Nat) : Int) == b
def nextB (L : List Ln) (b : Int) (pos : Ky) (past : Bool) : Option Ln := nextT (inB b) L pos past
/-- The links of a bucket, of any number. -/
def bktL (L : List Ln) (b : Int) : List Ln := if 0 ≤ b ∧ b < 8 then partT bkt L b.toNat else []
theorem nextB_part {L : List Ln} (h : RisesK L) (b : Int) (pos : Ky) (past : Bool) : nextB L b pos past = nextT (fun _ => true) (bktL L b) pos past := by
  unfold nextB bktL
  split
  · rename_i hb
    rw [← nextT_part h]
    have : inB b = fun k => bkt k == b.toNat := by
      funext k
      unfold inB
      rw [Bool.eq_iff_iff]
      simp
      omega
    rw [this]
  · rename_i hb
    refine (nextT_none.2 fun y _ hh => ?_).trans rfl
    have h1 := bkt_lt y.k
    have h2 : ((bkt y.k : Nat) : Int) = b := by simpa [inB] using hh.1
    omega
theorem Tb.mapB {w : World} {p : Nat} {m : Nat → Option Nat} {L : List Ln} (h : Tb w p m L) (b : Int) : MapO w (mAt m b) (bktL L b) := by
  unfold mAt bktL
  split
  · exact h.mapO (by omega)
  · rfl
theorem risesK_bkt {L : List Ln} (h : RisesK L) (b : Int) : RisesK (bktL L b) := by
  unfold bktL
  split
  · exact risesK_part h _ _
  · exact risesK_nil
theorem bktL_len (L : List Ln) (b : Int) : (bktL L b).length ≤ L.length := by
  unfold bktL
  split
  · exact List.length_filter_le _ _
  · exact Nat.zero_le _
theorem bktL_keys {L : List Ln} (h : ∀ x ∈ L, x.k.length ≤ 1073741824) (b : Int) : ∀ x ∈ bktL L b, x.k.length ≤ 1073741824 := by
  unfold bktL
  split
  · exact fun x hx => h x (mem_partT.1 hx).1
  · exact fun x hx => by cases hx
theorem MapO.below {w w' : World} {mb : Option Nat} {M : List Ln} (h : MapO w mb M) (hb : Below w.heap.size w w') : MapO w' mb M := by
  cases mb with
  | none => exact h
  | some b => exact MapL.stay (h : MapL w b M) (hb.block b (MapL.lt h))
theorem gt_str (x y : ByteArray) : (!(Op.bytesLess x.toList y.toList || x.toList == y.toList)) = Op.bytesLess y.data.toList x.data.toList := by
  rw [gtrK, Lib.toList_data, Lib.toList_data]
/-- What Next answers. -/
def NextSays (L : List Ln) (b : Int) (s : ByteArray) (past : Bool) (w : World) (e : Ending) (w' : World) : Prop :=
  e = .returned (.tuple #[((nextB L b s.data.toList past).getD Ln.zero).agg, .bool (nextB L b s.data.toList past).isSome]) ∧ Below w.heap.size w w'
set_option maxHeartbeats 1600000 in
theorem tbnext_of {w : World} {q : Option Addr} {mb : Option Nat} {M L : List Ln} (b : Int) (hM : MapO w mb M) (hr : RisesK M) (hl : M.length ≤ 1048576) (hk : ∀ x ∈ M, x.k.length ≤ 1073741824) (hLM : ∀ pos past, nextB L b pos past = nextT (fun _ => true) M pos past) (s : ByteArray) (past : Bool)
    (hlk : ∀ w', Below w.heap.size w w' → Calls Try.prog 26 #[.pointer q, .int .i64 b] w' fun e w2 => e = .returned (.map mb) ∧ w' = w2) :
    Calls Try.prog 17 #[.pointer q, .int .i64 b, .string s, .bool past] w (NextSays L b s past w) := by
  obtain ⟨R, hR⟩ : ∃ R, NextSays L b s past w = R := ⟨_, rfl⟩
  obtain ⟨g, hg⟩ : ∃ g, w.heap.size = g := ⟨_, rfl⟩
  have HG := Lib.hid hg
  have HYES : Hid (∀ (w' : World) (i : Nat) (x : Ln), (∀ j, j < i → ∃ a, M[j]? = some a ∧ (!past || Op.bytesLess s.data.toList a.k) = false) → M[i]? = some x → (!past || Op.bytesLess s.data.toList x.k) = true → Below g w w' → R (.returned (.tuple #[x.agg, .bool true])) w') := fun w' i x h1 h2 h3 h4 => by
    rw [← hR]
    have e : nextB L b s.data.toList past = some x := by
      rw [hLM]
      exact find_at _ M i x (fun j hj => by obtain ⟨a, ha, hp⟩ := h1 j hj; exact ⟨a, ha, by rw [Bool.true_and]; exact hp⟩) h2 (by rw [Bool.true_and]; exact h3)
    unfold NextSays
    rw [e]
    exact ⟨rfl, hg.symm ▸ h4⟩
  have HNO : Hid (∀ (w' : World), (∀ j, j < M.length → ∃ a, M[j]? = some a ∧ (!past || Op.bytesLess s.data.toList a.k) = false) → Below g w w' → R (.returned (.tuple #[Ln.zero.agg, .bool false])) w') := fun w' h1 h4 => by
    rw [← hR]
    have e : nextB L b s.data.toList past = none := by
      rw [hLM]
      exact find_no _ M (fun j hj => by obtain ⟨a, ha, hp⟩ := h1 j hj; exact ⟨a, ha, by rw [Bool.true_and]; exact hp⟩)
    unfold NextSays
    rw [e]
    exact ⟨rfl, hg.symm ▸ h4⟩
  have HLK : Hid (∀ w', Below g w w' → Calls Try.prog 26 #[.pointer q, .int .i64 b] w' fun e w2 => e = .returned (.map mb) ∧ w' = w2) := fun w' hb => hlk w' (hg.symm ▸ hb)
  have HKY : Hid (∀ w', Below g w w' → Calls Try.prog 27 #[.map mb] w' fun e w2 => ∃ (g2 cap : Nat), e = .returned (.slice (some ⟨g2, 0, none⟩) M.length cap) ∧
      w2.ownsRow w'.heap.size 9 1 (.slice (some ⟨g2, 0, none⟩) M.length cap) M.length ((M.map Ln.k).map encStr) ∧ Below w'.heap.size w' w2) := fun w' hb => tbkeys_any (hM.below (hg.symm ▸ hb)) hr hl
  have HRL : Hid (∀ w', Below g w w' → ∀ (i : Nat) (x : Ln), M[i]? = some x → (Instr.lookup 48 (.map mb) (.string x.str) false).run Try.prog w' = .ok (.agg #[.string x.str, .int .u64 (x.id : Nat), .int .u64 (x.ver : Nat), .int .i64 x.line, .int .i64 x.cl]) w') := fun w' hb i x hx => by
    have hmem := List.mem_of_getElem? hx
    have h1 := look_run (hM.below (hg.symm ▸ hb)) x.str (hk x hmem) false
    have h2 : getT M x.k = some x := (getT_some hr).2 ⟨hmem, rfl⟩
    have h3 : linkT M x.str.data.toList = x := by show (getT M x.k).getD _ = x; rw [h2]; rfl
    rw [h3] at h1
    exact h1
  have HZ := Lib.hid zero_link
  have HEB : Hid (∀ (x : Ln) (w' : World) (g : Nat), w'.heap[g]? = some (.cells #[.string x.str, .int .u64 (x.id : Nat), .int .u64 (x.ver : Nat), .int .i64 x.line, .int .i64 x.cl] 33 (0, 0)) → LBox w' g x) := fun x w' g h => h
  have HEZ : Hid (∀ (w' : World) (g : Nat), w'.heap[g]? = some (.cells #[.string ⟨#[]⟩, .int .u64 0, .int .u64 0, .int .i64 0, .int .i64 0] 33 (0, 0)) → LBox w' g Ln.zero) := fun w' g h => h
  rw [hR]
  obtain ⟨n, hn⟩ : ∃ n, M.length = n := ⟨_, rfl⟩
  have HN := Lib.hid hn
  rw [hn] at HKY
  have hn2 : n ≤ 1048576 := hn ▸ hl
  clear hM hr hl hk hLM hlk hR hg hn
  go_enter Try.func17, Try.ntmps17
  go_wp2_with (first
    | ((with_reducible show wpList _ _ _ (⟨some 8, .alloc _, _, _, _, _⟩ :: _) _ _); refine wpList_alloc_var (o := ⟨some 8, _, _, _, _, _⟩) rfl 33 rfl g HG.out _ HZ.out ?_; intro w1 H1 B1)
    | fail)
  refine (HLK.out w1 B1.out).mono ?_
  rintro e w1' ⟨rfl, rfl⟩
  go_wp2_with fail
  refine (HKY.out w1 B1.out).mono ?_
  rintro e w2 ⟨g2, cap, rfl, hrow, hb2⟩
  have hlt1 := lt_of_heap H1.out
  have HB2 : Hid (Below g w w2) := B1.out.trans (hb2.mono (by omega))
  have H2 := Lib.hid ((hb2.block g hlt1).trans H1.out)
  have HC2 : Hid (∀ (i : Nat) (x : Ln), M[i]? = some x → w2.cell? ⟨g2, i, none⟩ = some (.string x.str)) := fun i x hx => by
    have := hrow.cells (g := g2) rfl i (.string x.str) (by rw [List.getElem?_map, List.getElem?_map, hx]; rfl)
    rw [add_plain] at this
    simpa using this
  clear hrow hb2 hlt1
  go_wp2
  go_loopg [19] n (fun gk s19 wx => ∃ i : Nat, i + gk = n ∧ s19 = .int .i64 i ∧ w2 = wx ∧ Hid (∀ j, j < i → ∃ a, M[j]? = some a ∧ (!past || Op.bytesLess s.data.toList a.k) = false))
  case atStart => exact ⟨0, by omega, rfl, rfl, fun j hj => by omega⟩
  case round =>
    obtain ⟨i, hig, rfl, rfl, HT⟩ := hrel
    cases gk with
    | zero =>
      obtain rfl : i = n := by omega
      have hii : ¬ (i : Int) < (i : Int) := by omega
      go_wp2_with (first
        | ((with_reducible show wpList _ _ _ (⟨none, .store _ (.tmp 8) _, _, _, _, _⟩ :: _) _ _); refine wpList_store_whole (o := ⟨none, .store 33 (.tmp 8) (.tmp 34), _, _, _, _⟩) rfl _ _ _ rfl rfl g #[.string ⟨#[]⟩, .int .u64 0, .int .u64 0, .int .i64 0, .int .i64 0] rfl rfl 33 _ H2.out size_link rfl (onesL _ _ _ _ _) ?_; intro w5 H5 B5)
        | fail)
      refine bodyPost_ret (results_l2 rfl rfl rfl (HEZ.out _ _ H5.out)) rfl ?_
      exact HNO.out _ (HN.out.symm ▸ HT.out) (HB2.out.trans B5.out)
    | succ gk =>
      have hii : (i : Int) < (n : Int) := by omega
      have hgi := List.getElem?_eq_getElem (show i < M.length by have := HN.out; omega)
      generalize M[i]'(by have := HN.out; omega) = x at *
      have HGI := Lib.hid hgi
      have hcell := HC2.out i x hgi
      have HLU := Lib.hid (HRL.out w2 HB2.out i x hgi)
      have HY := Lib.hid (fun w' => HYES.out w' i x HT.out hgi)
      have HEX := Lib.hid (HEB.out x)
      have hgt := gt_str x.str s
      obtain ⟨V, hV⟩ : ∃ V, V = x.agg := ⟨_, rfl⟩
      have HV := Lib.hid hV
      rw [← hV] at HY
      have hxk : x.str.data.toList = x.k := rfl
      rw [hxk] at hgt
      cases past with
      | false =>
        replace HY : Hid (∀ w', Below g w w' → R (.returned (.tuple #[V, .bool true])) w') := fun w' hb => HY.out w' rfl hb
        clear hgt hxk hV hgi HGI
        generalize x.str = x0 at *
        generalize (x.id : Int) = x1 at *
        generalize (x.ver : Int) = x2 at *
        generalize x.line = x3 at *
        generalize x.cl = x4 at *
        go_wp2_with (first
          | (at_lookup; refine wpList_look rfl (.tmp 30) (.tmp 31) 48 false rfl rfl rfl HLU.out ?_)
          | ((with_reducible show wpList _ _ _ (⟨none, .store _ (.tmp 8) _, _, _, _, _⟩ :: _) _ _); refine wpList_store_whole (o := ⟨none, .store 33 (.tmp 8) (.tmp 32), _, _, _, _⟩) rfl _ _ _ rfl rfl g #[.string x0, .int .u64 x1, .int .u64 x2, .int .i64 x3, .int .i64 x4] rfl rfl 33 _ H2.out size_link rfl (onesL _ _ _ _ _) ?_; intro w5 H5 B5)
          | fail)
        refine bodyPost_ret (results_l2 rfl rfl rfl (HEX.out _ _ H5.out)) rfl ?_
        rw [← HV.out]
        exact HY.out _ (HB2.out.trans B5.out)
      | true =>
        cases hz : Op.bytesLess s.data.toList x.k with
        | true =>
          rw [hz] at hgt
          replace HY : Hid (∀ w', Below g w w' → R (.returned (.tuple #[V, .bool true])) w') := fun w' hb => HY.out w' hz hb
          clear hxk hV hgi HGI hz
          generalize x.str = x0 at *
          generalize (x.id : Int) = x1 at *
          generalize (x.ver : Int) = x2 at *
          generalize x.line = x3 at *
          generalize x.cl = x4 at *
          go_wp2_with (first
            | (at_lookup; refine wpList_look rfl (.tmp 30) (.tmp 31) 48 false rfl rfl rfl HLU.out ?_)
            | ((with_reducible show wpList _ _ _ (⟨none, .store _ (.tmp 8) _, _, _, _, _⟩ :: _) _ _); refine wpList_store_whole (o := ⟨none, .store 33 (.tmp 8) (.tmp 32), _, _, _, _⟩) rfl _ _ _ rfl rfl g #[.string x0, .int .u64 x1, .int .u64 x2, .int .i64 x3, .int .i64 x4] rfl rfl 33 _ H2.out size_link rfl (onesL _ _ _ _ _) ?_; intro w5 H5 B5)
            | fail)
          refine bodyPost_ret (results_l2 rfl rfl rfl (HEX.out _ _ H5.out)) rfl ?_
          rw [← HV.out]
          exact HY.out _ (HB2.out.trans B5.out)
        | false =>
          rw [hz] at hgt
          have HT2 : Hid (∀ j, j < i + 1 → ∃ a, M[j]? = some a ∧ (!true || Op.bytesLess s.data.toList a.k) = false) := fun j hj => by
            rcases Nat.lt_or_ge j i with h | h
            · exact HT.out j h
            · obtain rfl : j = i := by omega
              exact ⟨x, HGI.out, hz⟩
          clear hxk hV hgi HGI hz HT HY HLU HEX
          generalize x.str = x0 at *
          go_wp2
          go_roundg gk
          case measure => omega
          case rel => exact ⟨i + 1, by omega, by go_num, rfl, HT2⟩
theorem tbnext_any {w : World} {p : Nat} {m : Nat → Option Nat} {L : List Ln} (h : Tb w p m L) (hl : L.length ≤ 1048576) (b : Int) (s : ByteArray) (past : Bool) :
    Calls Try.prog 17 #[.pointer (some ⟨p, 0, none⟩), .int .i64 b, .string s, .bool past] w (NextSays L b s past w) :=
  tbnext_of b (h.mapB b) (risesK_bkt h.rises b) (Nat.le_trans (bktL_len L b) hl) (bktL_keys h.keys b) (nextB_part h.rises b) s past fun _ hb => tblinks_any (h.below hb) b
theorem tbnext_nil (w : World) (b : Int) (s : ByteArray) (past : Bool) :
    Calls Try.prog 17 #[.pointer none, .int .i64 b, .string s, .bool past] w (NextSays [] b s past w) :=
  tbnext_of (mb := none) (M := []) b rfl risesK_nil (Nat.zero_le _) (fun _ h => by cases h) (fun _ _ => rfl) s past fun w' _ => tblinks_nil b w'

end Go.Proofs.Ytjehklmbgldfpaa
