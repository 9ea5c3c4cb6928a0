/-
  Proved here: what the table's Len answers.
  Conditions: at most 2^20 links.
-/
import Derived.Test.YtjehklmbgldfpaaTabB
import Derived.Test.YtjehklmbgldfpaaTabK
namespace Go.Proofs.Ytjehklmbgldfpaa
open Go Go.RowKit
set_option maxRecDepth 100000

/-- A builtin of one argument whose run is known. -/
theorem wpList_len1 {P : Program} {ops : Array Oper} {rest : List Oper} {o : Oper} {a : Act} {Q : Exit → Act → World → Prop} (hgd : o.guard = none) (s : Operand) (t : TypeId)
    (ho : o.op = .call { callee := .builtin .len, args := #[s], argTypes := #[t] }) {w w' : World} {v v' : Value} (hs : a.eval s = v)
    (hrun : (Builtin.len_ #[t] o.type #[v]).run P w = .ok v' w') (h : wpList P ops Q rest (a.put o.dst v') w') : wpList P ops Q (o :: rest) a w :=
  wpList_plain hgd fun _ hK => by
    unfold Oper.wp execOp
    simp only [ho, resolve, invoke, builtin, Sem.run_bind, Sem.run_pure, Result.andThen_ok, List.map_toArray, List.map_cons, List.map_nil, hs, hrun]
    exact hK _ _ h
theorem len_run {w : World} {mb : Option Nat} {M : List Ln} (h : MapO w mb M) (ty : TypeId) : (Builtin.len_ #[48] ty #[.map mb]).run Try.prog w = .ok (.int .i64 (M.length : Nat)) w := by
  cases mb with
  | none =>
    obtain rfl : M = [] := h
    exact Maps.len_nil Try.underlying48 ty
  | some b =>
    have := World.ownsMap.len (h : MapL w b M) Try.underlying48 ty
    rw [md_size] at this
    exact this
/-- What the table q says of its buckets, in the world w: nil, or a table. -/
structure Bks (w : World) (q : Option Addr) (mbs : Nat → Option Nat) (L : List Ln) : Prop where
  links : ∀ w' i, Below w.heap.size w w' → i < 8 → Calls Try.prog 26 #[.pointer q, .int .i64 (i : Nat)] w' fun e w2 => e = .returned (.map (mbs i)) ∧ w' = w2
  maps : ∀ w' i, Below w.heap.size w w' → i < 8 → MapO w' (mbs i) (partT bkt L i)
  rises : RisesK L
theorem Tb.bks {w : World} {p : Nat} {m : Nat → Option Nat} {L : List Ln} (h : Tb w p m L) : Bks w (some ⟨p, 0, none⟩) m L :=
  ⟨fun w' i hb hi => by
    have := tblinks_any (h.below hb) (i : Nat)
    have e : mAt m (i : Nat) = m i := by unfold mAt; rw [if_pos (by omega)]; rfl
    rwa [e] at this, fun _ _ hb hi => (h.below hb).mapO hi, h.rises⟩
theorem nil_bks (w : World) : Bks w none (fun _ => none) [] := ⟨fun w' _ _ _ => tblinks_nil _ w', fun _ _ _ _ => rfl, risesK_nil⟩
theorem parts_perm (L : List Ln) : ((List.range 8).flatMap fun i => partT bkt L i).Perm L := by
  have key : ∀ (n j : Nat) (a : Ln) (f : Nat → List Ln), j < n → ((List.range n).flatMap fun i => (if j = i then [a] else []) ++ f i).Perm (a :: (List.range n).flatMap f) := by
    intro n j a f hj
    induction n with
    | zero => omega
    | succ n ih =>
      rw [List.range_succ, List.flatMap_append, List.flatMap_append]
      simp only [List.flatMap_cons, List.flatMap_nil, List.append_nil]
      by_cases h : j = n
      · subst h
        have e : ((List.range j).flatMap fun i => (if j = i then [a] else []) ++ f i) = (List.range j).flatMap f := by
          have : ∀ i ∈ List.range j, ((if j = i then [a] else []) ++ f i) = f i := fun i hi => by
            rw [if_neg (by have := List.mem_range.1 hi; omega)]
            rfl
          unfold List.flatMap
          rw [List.map_congr_left this]
        rw [e, if_pos rfl]
        simp only [List.singleton_append]
        exact List.perm_middle
      · rw [if_neg h]
        simp only [List.nil_append]
        exact (ih (by omega)).append_right _
  induction L with
  | nil => simp [partT]
  | cons a L ih =>
    have e : ((List.range 8).flatMap fun i => partT bkt (a :: L) i) = (List.range 8).flatMap fun i => (if bkt a.k = i then [a] else []) ++ partT bkt L i := by
      have : ∀ i ∈ List.range 8, partT bkt (a :: L) i = (if bkt a.k = i then [a] else []) ++ partT bkt L i := fun i _ => by
        unfold partT
        rw [List.filter_cons]
        by_cases h : bkt a.k = i
        · simp [h]
        · simp [h]
      unfold List.flatMap
      rw [List.map_congr_left this]
    rw [e]
    exact (key 8 _ a _ (bkt_lt a.k)).trans (ih.cons a)
def upB (L : List Ln) (i : Nat) : List Ln := (List.range i).flatMap fun i => partT bkt L i
theorem upB_succ (L : List Ln) (i : Nat) : upB L (i + 1) = upB L i ++ partT bkt L i := by
  unfold upB
  rw [List.range_succ, List.flatMap_append]
  simp
theorem upB_le {L : List Ln} {i j : Nat} (h : i ≤ j) : (upB L i).length ≤ (upB L j).length := by
  induction j with
  | zero => obtain rfl : i = 0 := by omega
            exact Nat.le_refl _
  | succ j ih =>
    rcases Nat.lt_or_ge j i with h1 | h1
    · obtain rfl : i = j + 1 := by omega
      exact Nat.le_refl _
    · rw [upB_succ, List.length_append]
      have := ih h1
      omega
theorem upB_all (L : List Ln) : (upB L 8).length = L.length := (parts_perm L).length_eq
set_option maxHeartbeats 800000 in
theorem tblen_of {w : World} {q : Option Addr} {mbs : Nat → Option Nat} {L : List Ln} (h : Bks w q mbs L) (hl : L.length ≤ 1048576) :
    Calls Try.prog 19 #[.pointer q] w fun e w' => e = .returned (.int .i64 (L.length : Nat)) ∧ w = w' := by
  have HL := Lib.hid (fun i hi => h.links w i (Below.refl _ _) hi)
  have HR : Hid (∀ i, i < 8 → ∀ ty, (Builtin.len_ #[48] ty #[.map (mbs i)]).run Try.prog w = .ok (.int .i64 ((partT bkt L i).length : Nat)) w) := fun i hi ty => len_run (h.maps w i (Below.refl _ _) hi) ty
  have HA := Lib.hid (upB_all L)
  have HS : Hid (∀ i, (upB L (i + 1)).length = (upB L i).length + (partT bkt L i).length) := fun i => by rw [upB_succ, List.length_append]
  have HB : Hid (∀ i, i ≤ 8 → (upB L i).length ≤ 1048576) := fun i hi => by have := upB_le (L := L) hi; rw [upB_all] at this; omega
  clear h hl
  go_enter Try.func19, Try.ntmps19
  go_wp2
  go_loopg [3, 5] 8 (fun gk s3 s5 wx => ∃ i n : Nat, i + gk = 8 ∧ s5 = .int .i64 i ∧ s3 = .int .i64 n ∧ Hid ((upB L i).length = n) ∧ w = wx)
  case atStart => exact ⟨0, 0, rfl, rfl, rfl, rfl, rfl⟩
  case round =>
    obtain ⟨i, n, hig, rfl, rfl, HN, rfl⟩ := hrel
    cases gk with
    | zero =>
      obtain rfl : i = 8 := by omega
      have hii : ¬ ((8 : Nat) : Int) < 8 := by omega
      go_wp2
      go_ret
      rw [← HN.out, HA.out]
      exact ⟨rfl, rfl⟩
    | succ gk =>
      have hii : (i : Int) < 8 := by omega
      have hnx := HS.out i
      rw [HN.out] at hnx
      have hbd := HB.out (i + 1) (by omega)
      have HRI := Lib.hid (HR.out i (by omega))
      obtain ⟨k, hk⟩ : ∃ k, (partT bkt L i).length = k := ⟨_, rfl⟩
      rw [hk] at hnx HRI
      rw [hnx] at hbd
      have HNX := Lib.hid hnx
      have HLI := Lib.hid (HL.out i (by omega))
      clear hnx hk
      go_wp2_with fail
      refine HLI.out.mono ?_
      rintro e w' ⟨rfl, rfl⟩
      go_wp2_with (first
        | (at_len; refine wpList_len1 rfl (.tmp 11) 48 rfl rfl (HRI.out _) ?_))
      go_roundg gk
      case measure => omega
      case rel => exact ⟨i + 1, n + k, by omega, by go_num, by go_num, HNX.out, rfl⟩

end Go.Proofs.Ytjehklmbgldfpaa
