/-
  Proved here, joined: TabL, TabC, TabD
  Conditions: as each part says.
-/
import Derived.Test.YtlghphccmgmomaaGreatJN21
import Derived.Sort.Walk0

/-
  Proved here: what the table's Len answers.
  Conditions: at most 2^20 links.
-/
namespace Go.Proofs.YtlghphccmgmomaaGreat
open Go Go.RowKit
set_option maxRecDepth 100000

/-- A builtin of one argument whose run is known. -/
theorem wpList_len1 {P : Program} {ops : Array Oper} {rest : List Oper} {o : Oper} {a : Act} {Q : Exit → Act → World → Prop} (hgd : o.guard = none) (s : Operand) (t : TypeId)
    (ho : o.op = .call { callee := .builtin .len, args := #[s], argTypes := #[t] }) {w w' : World} {v v' : Value} (hs : a.eval s = v)
    (hrun : (Builtin.len_ #[t] o.type #[v]).run P w = .ok v' w') (h : wpList P ops Q rest (a.put o.dst v') w') : wpList P ops Q (o :: rest) a w :=
  wpList_plain hgd fun _ hK => by
    unfold Oper.wp execOp
    simp only [ho, resolve, invoke, builtin, Sem.run_bind, Sem.run_pure, Result.andThen_ok, List.map_toArray, List.map_cons, List.map_nil, hs, hrun]
    exact hK _ _ h
theorem len_run {w : World} {mb : Option Nat} {M : List Ln} (h : MapO w mb M) (ty : TypeId) : (Builtin.len_ #[161] ty #[.map mb]).run Tryz.prog w = .ok (.int .i64 (M.length : Nat)) w := by
  cases mb with
  | none =>
    obtain rfl : M = [] := h
    exact Maps.len_nil Tryz.underlying161 ty
  | some b =>
    have := World.ownsMap.len (h : MapL w b M) Tryz.underlying161 ty
    rw [md_size] at this
    exact this
/-- What the table q says of its buckets, in the world w: nil, or a table. -/
structure Bks (w : World) (q : Option Addr) (mbs : Nat → Option Nat) (L : List Ln) : Prop where
  links : ∀ w' i, Below w.heap.size w w' → i < 8 → Calls Tryz.prog 74 #[.pointer q, .int .i64 (i : Nat)] w' fun e w2 => e = .returned (.map (mbs i)) ∧ w' = w2
  maps : ∀ w' i, Below w.heap.size w w' → i < 8 → MapO w' (mbs i) (partT bkt L i)
  rises : RisesK L
theorem Tb.bks {w : World} {p : Nat} {m : Nat → Option Nat} {L : List Ln} (h : Tb w p m L) : Bks w (some ⟨p, 0, none⟩) m L :=
  ⟨fun w' i hb hi => by
    have := tblinks_any (h.below hb) (i : Nat)
    have e : mAt m (i : Nat) = m i := by unfold mAt; rw [if_pos (by omega)]; rfl
    rwa [e] at this, fun _ _ hb hi => (h.below hb).mapO hi, h.rises⟩
theorem parts_perm (L : List Ln) : ((List.range 8).flatMap fun i => partT bkt L i).Perm L := by
  have key : ∀ (n j : Nat) (a : Ln) (f : Nat → List Ln), j < n → ((List.range n).flatMap fun i => (if j = i then [a] else []) ++ f i).Perm (a :: (List.range n).flatMap f) := by
    intro n j a f hj
    induction n with
    | zero => omega
    | succ n ih =>
      rw [List.range_succ, List.flatMap_append, List.flatMap_append]
      simp only [List.flatMap_cons, List.flatMap_nil, List.append_nil]
      by_cases h : j = n
      · subst h
        have e : ((List.range j).flatMap fun i => (if j = i then [a] else []) ++ f i) = (List.range j).flatMap f := by
          have : ∀ i ∈ List.range j, ((if j = i then [a] else []) ++ f i) = f i := fun i hi => by
            rw [if_neg (by have := List.mem_range.1 hi; omega)]
            rfl
          unfold List.flatMap
          rw [List.map_congr_left this]
        rw [e, if_pos rfl]
        simp only [List.singleton_append]
        exact List.perm_middle
      · rw [if_neg h]
        simp only [List.nil_append]
        exact (ih (by omega)).append_right _
  induction L with
  | nil => simp [partT]
  | cons a L ih =>
    have e : ((List.range 8).flatMap fun i => partT bkt (a :: L) i) = (List.range 8).flatMap fun i => (if bkt a.k = i then [a] else []) ++ partT bkt L i := by
      have : ∀ i ∈ List.range 8, partT bkt (a :: L) i = (if bkt a.k = i then [a] else []) ++ partT bkt L i := fun i _ => by
        unfold partT
        rw [List.filter_cons]
        by_cases h : bkt a.k = i
        · simp [h]
        · simp [h]
      unfold List.flatMap
      rw [List.map_congr_left this]
    rw [e]
    exact (key 8 _ a _ (bkt_lt a.k)).trans (ih.cons a)
def upB (L : List Ln) (i : Nat) : List Ln := (List.range i).flatMap fun i => partT bkt L i
theorem upB_succ (L : List Ln) (i : Nat) : upB L (i + 1) = upB L i ++ partT bkt L i := by
  unfold upB
  rw [List.range_succ, List.flatMap_append]
  simp
theorem upB_le {L : List Ln} {i j : Nat} (h : i ≤ j) : (upB L i).length ≤ (upB L j).length := by
  induction j with
  | zero => obtain rfl : i = 0 := by omega
            exact Nat.le_refl _
  | succ j ih =>
    rcases Nat.lt_or_ge j i with h1 | h1
    · obtain rfl : i = j + 1 := by omega
      exact Nat.le_refl _
    · rw [upB_succ, List.length_append]
      have := ih h1
      omega
theorem upB_all (L : List Ln) : (upB L 8).length = L.length := (parts_perm L).length_eq
set_option maxHeartbeats 800000 in
theorem tblen_of {w : World} {q : Option Addr} {mbs : Nat → Option Nat} {L : List Ln} (h : Bks w q mbs L) (hl : L.length ≤ 1048576) :
    Calls Tryz.prog 73 #[.pointer q] w fun e w' => e = .returned (.int .i64 (L.length : Nat)) ∧ w = w' := by
  have HL := Lib.hid (fun i hi => h.links w i (Below.refl _ _) hi)
  have HR : Hid (∀ i, i < 8 → ∀ ty, (Builtin.len_ #[161] ty #[.map (mbs i)]).run Tryz.prog w = .ok (.int .i64 ((partT bkt L i).length : Nat)) w) := fun i hi ty => len_run (h.maps w i (Below.refl _ _) hi) ty
  have HA := Lib.hid (upB_all L)
  have HS : Hid (∀ i, (upB L (i + 1)).length = (upB L i).length + (partT bkt L i).length) := fun i => by rw [upB_succ, List.length_append]
  have HB : Hid (∀ i, i ≤ 8 → (upB L i).length ≤ 1048576) := fun i hi => by have := upB_le (L := L) hi; rw [upB_all] at this; omega
  clear h hl
  go_enter Tryz.func73, Tryz.ntmps73
  go_wp2
  go_loopg [3, 5] 8 (fun gk s3 s5 wx => ∃ i n : Nat, i + gk = 8 ∧ s5 = .int .i64 i ∧ s3 = .int .i64 n ∧ Hid ((upB L i).length = n) ∧ w = wx)
  case atStart => exact ⟨0, 0, rfl, rfl, rfl, rfl, rfl⟩
  case round =>
    obtain ⟨i, n, hig, rfl, rfl, HN, rfl⟩ := hrel
    cases gk with
    | zero =>
      obtain rfl : i = 8 := by omega
      have hii : ¬ ((8 : Nat) : Int) < 8 := by omega
      go_wp2
      go_ret
      rw [← HN.out, HA.out]
      exact ⟨rfl, rfl⟩
    | succ gk =>
      have hii : (i : Int) < 8 := by omega
      have hnx := HS.out i
      rw [HN.out] at hnx
      have hbd := HB.out (i + 1) (by omega)
      have HRI := Lib.hid (HR.out i (by omega))
      obtain ⟨k, hk⟩ : ∃ k, (partT bkt L i).length = k := ⟨_, rfl⟩
      rw [hk] at hnx HRI
      rw [hnx] at hbd
      have HNX := Lib.hid hnx
      have HLI := Lib.hid (HL.out i (by omega))
      clear hnx hk
      go_wp2_with fail
      refine HLI.out.mono ?_
      rintro e w' ⟨rfl, rfl⟩
      go_wp2_with (first
        | (at_len; refine wpList_len1 rfl (.tmp 11) 161 rfl rfl (HRI.out _) ?_))
      go_roundg gk
      case measure => omega
      case rel => exact ⟨i + 1, n + k, by omega, by go_num, by go_num, HNX.out, rfl⟩

end Go.Proofs.YtlghphccmgmomaaGreat

/-
  Proved here: what the table's Drop answers and leaves.
  Conditions: keys of at most 2^30 bytes.
-/
namespace Go.Proofs.YtlghphccmgmomaaGreat
open Go Go.RowKit
set_option maxRecDepth 100000

/-- A delete whose run is known. -/
theorem wpList_del {P : Program} {ops : Array Oper} {rest : List Oper} {o : Oper} {a : Act} {Q : Exit → Act → World → Prop} (hgd : o.guard = none) (s x : Operand) (t k : TypeId)
    (ho : o.op = .call { callee := .builtin .delete, args := #[s, x], argTypes := #[t, k] }) {w w' : World} {v V v' : Value} (hs : a.eval s = v) (hx : a.eval x = V)
    (hrun : (Builtin.delete_ #[t, k] o.type #[v, V]).run P w = .ok v' w') (h : wpList P ops Q rest (a.put o.dst v') w') : wpList P ops Q (o :: rest) a w :=
  wpList_plain hgd fun _ hK => by
    unfold Oper.wp execOp
    simp only [ho, resolve, invoke, builtin, Sem.run_bind, Sem.run_pure, Result.andThen_ok, List.map_toArray, List.map_cons, List.map_nil, hs, hx, hrun]
    exact hK _ _ h
theorem Stay.turned {S : Nat → Prop} {w w' : World} {b : Nat} (h : w.mapTurned w' b) (hs : S b) : Stay S w w' := Stay.grown h.grown hs
/-- A bucket's map changed. -/
theorem Tb.changed {w w' : World} {p : Nat} {m : Nat → Option Nat} {L L' : List Ln} (h : Tb w p m L) {i b : Nat} (hi : i < 8) (hb : m i = some b) (hs : Stay (fun k => k = b) w w') (hm : MapL w' b (partT bkt L' i)) (hr : RisesK L') (hk : ∀ x ∈ L', x.k.length ≤ 1073741824)
    (ho : ∀ j, j < 8 → j ≠ i → partT bkt L' j = partT bkt L j) : Tb w' p m L' ∧ Stay (tbOwn p m) w w' := by
  have hpb : p ≠ b := by
    rintro rfl
    obtain ⟨es, clock, h1, _⟩ := h.some_ i p hi hb
    rw [h.mem] at h1
    cases h1
  refine ⟨⟨hr, hk, (hs.block p hpb (lt_of_heap h.mem)).trans h.mem, fun j hj e => ?_, fun j b' hj e => ?_, h.apart⟩, hs.mono fun k _ e => .inr ⟨i, hi, by rw [e]; exact hb⟩⟩
  · have hji : j ≠ i := by rintro rfl; rw [hb] at e; cases e
    rw [ho j hj hji]
    exact h.none_ j hj e
  · by_cases hji : j = i
    · subst hji
      rw [hb] at e
      cases e
      exact hm
    · rw [ho j hj hji]
      have hbb : b' ≠ b := fun e2 => hji (h.apart j i b' hj hi e (by rw [e2]; exact hb))
      exact (h.some_ j b' hj e).stay (hs.block b' hbb (h.some_ j b' hj e).lt)
theorem keys_drop {L : List Ln} (h : ∀ x ∈ L, x.k.length ≤ 1073741824) (k : Ky) : ∀ x ∈ dropT L k, x.k.length ≤ 1073741824 := fun x hx => h x (mem_dropT.1 hx).1
theorem Tb.drops {w : World} {p : Nat} {m : Nat → Option Nat} {L : List Ln} (h : Tb w p m L) (s : ByteArray) (hs : s.size ≤ 1073741824) (ty : TypeId) :
    ∃ w', (Builtin.delete_ #[161, 9] ty #[.map (m (bkt s.data.toList)), .string s]).run Tryz.prog w = .ok (.tuple #[]) w' ∧ Tb w' p m (dropT L s.data.toList) ∧ Stay (tbOwn p m) w w' := by
  have hl : s.data.toList.length ≤ 1073741824 := by rw [Array.length_toList]; exact hs
  have hkey := key_of _ hl
  have hb8 := bkt_lt s.data.toList
  have hpt := partT_drop h.rises bkt s.data.toList
  cases e : m (bkt s.data.toList) with
  | none =>
    refine ⟨w, Maps.drop_nil str_law Tryz.underlying161 hkey ty, ?_, Stay.refl _ _⟩
    have h0 := h.none_ _ hb8 e
    have : dropT L s.data.toList = L := dropT_none fun x hx hxk => by
      have : x ∈ partT bkt L (bkt s.data.toList) := mem_partT.2 ⟨hx, by rw [hxk]⟩
      rw [h0] at this
      cases this
    rw [this]
    exact h
  | some b =>
    have hm : MapL w b (partT bkt L (bkt s.data.toList)) := h.some_ _ b hb8 e
    obtain ⟨w', hrun, h1, h2⟩ := World.ownsMap.drop hm str_law Tryz.underlying161 hkey ty
    rw [md_del] at h1
    have h3 : MapL w' b (dropT (partT bkt L (bkt s.data.toList)) s.data.toList) := own_tight h1
    refine ⟨w', hrun, h.changed hb8 e (Stay.turned h2 rfl) ?_ (risesK_drop h.rises _) (keys_drop h.keys _) fun j hj hji => ?_⟩
    · rw [hpt, if_pos rfl]
      exact h3
    · rw [hpt, if_neg (fun e => hji e.symm)]
theorem Tb.old {w : World} {p : Nat} {m : Nat → Option Nat} {L : List Ln} (h : Tb w p m L) {g : Nat} (hg : w.heap.size = g) {k : Nat} (hk : g ≤ k) : ¬ tbOwn p m k := fun e => by have := h.lt e; omega
theorem tbTo_of {w w5 w6 w7 : World} {p g : Nat} {m : Nat → Option Nat} {L L' : List Ln} (h : Tb w p m L) (hg : w.heap.size = g) (h5 : Below g w w5) (h6 : Tb w6 p m L') (hs : Stay (tbOwn p m) w5 w6) (h7 : Turns g g w6 w7) : TbTo w p m L' w7 := by
  have h7' : Stay (fun k => k = g) w6 w7 := ⟨h7.os, h7.tape, h7.output, h7.size, fun k hk hl => h7.block k hk hk hl⟩
  have ho : ∀ k, tbOwn p m k → k ≠ g := fun k hk e => by have := h.lt hk; omega
  refine ⟨m, h6.stay h7' ho, ?_, fun k hk => .inl hk⟩
  exact Stay.new ((Stay.of_below (hg.symm ▸ h5)).trans hs) h7' (fun i hi => .inr (by rw [hi, hg]; exact Nat.le_refl _))
set_option maxHeartbeats 1600000 in
theorem tbdrop_any {w : World} {p : Nat} {m : Nat → Option Nat} {L : List Ln} (h : Tb w p m L) (s : ByteArray) (hs : s.size ≤ 1073741824) :
    Calls Tryz.prog 109 #[.pointer (some ⟨p, 0, none⟩), .string s] w fun e w' => e = .returned (.tuple #[(linkT L s.data.toList).agg, .bool (hasT L s.data.toList)]) ∧ TbTo w p m (dropT L s.data.toList) w' := by
  obtain ⟨g, hg⟩ : ∃ g, w.heap.size = g := ⟨_, rfl⟩
  have HG := Lib.hid hg
  have HB := Lib.hid (fun w1 => bucket_any s hs w1)
  have HGET : Hid (∀ w1, Below g w w1 → Calls Tryz.prog 52 #[.pointer (some ⟨p, 0, none⟩), .string s] w1 fun e w' => e = .returned (.tuple #[.agg #[.string (linkT L s.data.toList).str, .int .u64 ((linkT L s.data.toList).id : Nat), .int .u64 ((linkT L s.data.toList).ver : Nat), .int .i64 (linkT L s.data.toList).line, .int .i64 (linkT L s.data.toList).cl], .bool (hasT L s.data.toList)]) ∧ Below w1.heap.size w1 w') := fun w1 hb => tbget_any (h.below (hg.symm ▸ hb)) s hs
  have HLK : Hid (∀ w1, Below g w w1 → Calls Tryz.prog 74 #[.pointer (some ⟨p, 0, none⟩), .int .i64 (addS 0 s.data.toList % 8 : Nat)] w1 fun e w' => e = .returned (.map (m (bkt s.data.toList))) ∧ w1 = w') := fun w1 hb => by
    have := tblinks_any (h.below (hg.symm ▸ hb)) ((addS 0 s.data.toList % 8 : Nat) : Int)
    rwa [mAt_bkt] at this
  obtain ⟨R, hR⟩ : ∃ R, TbTo w p m (dropT L s.data.toList) = R := ⟨_, rfl⟩
  have HDEL : Hid (∀ w5, Below g w w5 → ∀ ty, ∃ w6, (Builtin.delete_ #[161, 9] ty #[.map (m (bkt s.data.toList)), .string s]).run Tryz.prog w5 = .ok (.tuple #[]) w6 ∧ (∀ k, g ≤ k → k < w5.heap.size → w6.heap[k]? = w5.heap[k]?) ∧ ∀ w7, Turns g g w6 w7 → R w7) := fun w5 hb ty => by
    have h5 := h.below (hg.symm ▸ hb)
    obtain ⟨w6, h1, h2, h3⟩ := h5.drops s hs ty
    exact ⟨w6, h1, fun k hk hl => h3.block k (h.old hg hk) hl, fun w7 h7 => by rw [← hR]; exact tbTo_of h hg hb h2 h3 h7⟩
  have HZ := Lib.hid zero_link
  obtain ⟨x, hx⟩ : ∃ x, linkT L s.data.toList = x := ⟨_, rfl⟩
  rw [hx] at HGET ⊢
  rw [hR]
  have HEB : Hid (∀ (w' : World) (g : Nat), w'.heap[g]? = some (.cells #[.string x.str, .int .u64 (x.id : Nat), .int .u64 (x.ver : Nat), .int .i64 x.line, .int .i64 x.cl] 29 (0, 0)) → LBox w' g x) := fun w' g h => h
  obtain ⟨V, hV⟩ : ∃ V, V = x.agg := ⟨_, rfl⟩
  have HV := Lib.hid hV
  rw [← hV]
  generalize hasT L s.data.toList = hb at *
  generalize m (bkt s.data.toList) = mb at *
  generalize addS 0 s.data.toList % 8 = bk at *
  generalize x.str = x0 at *
  generalize (x.id : Int) = x1 at *
  generalize (x.ver : Int) = x2 at *
  generalize x.line = x3 at *
  generalize x.cl = x4 at *
  clear h hx hV hg hR
  go_enter Tryz.func109, Tryz.ntmps109
  go_wp2_with (first
    | ((with_reducible show wpList _ _ _ (⟨some 4, .alloc _, _, _, _, _⟩ :: _) _ _); refine wpList_alloc_var (o := ⟨some 4, _, _, _, _, _⟩) rfl 29 rfl g HG.out _ HZ.out ?_; intro w1 H1 B1)
    | fail)
  refine (HGET.out w1 B1.out).mono ?_
  rintro e w2 ⟨rfl, hb2⟩
  have hlt1 := lt_of_heap H1.out
  have HB2 : Hid (Below g w w2) := B1.out.trans (hb2.mono (by omega))
  have H2 := Lib.hid ((hb2.block g hlt1).trans H1.out)
  obtain ⟨g2, hg2⟩ : ∃ g2, w2.heap.size = g2 := ⟨_, rfl⟩
  have HG2 := Lib.hid hg2
  have HL2 : Hid (g < g2) := hg2 ▸ lt_of_heap H2.out
  clear hb2 hlt1 hg2
  go_wp2_with (first
    | ((with_reducible show wpList _ _ _ (⟨some 6, .alloc _, _, _, _, _⟩ :: _) _ _); refine wpList_alloc_var (o := ⟨some 6, _, _, _, _, _⟩) rfl 29 rfl g2 HG2.out _ HZ.out ?_; intro w3 H3 B3)
    | ((with_reducible show wpList _ _ _ (⟨none, .store _ (.tmp 6) _, _, _, _, _⟩ :: _) _ _); refine wpList_store_whole (o := ⟨none, .store 29 (.tmp 6) (.tmp 12), _, _, _, _⟩) rfl _ _ _ rfl rfl g2 #[.string x0, .int .u64 x1, .int .u64 x2, .int .i64 x3, .int .i64 x4] rfl rfl 29 _ H3.out size_link rfl (onesL _ _ _ _ _) ?_; intro w4 H4 B4)
    | fail)
  have HB4 : Hid (Below g w w4) := HB2.out.trans ((B3.out.trans B4.out).mono (Nat.le_of_lt HL2.out))
  have HO4 := Lib.hid ((B4.out.block g HL2.out).trans ((B3.out.block g HL2.out).trans H2.out))
  refine (HB.out w4).mono ?_
  rintro e w5 ⟨rfl, hb5⟩
  have hlt4 := lt_of_heap H4.out
  have hlo4 := lt_of_heap HO4.out
  have HB5 : Hid (Below g w w5) := HB4.out.trans (hb5.mono (by omega))
  have H5 := Lib.hid ((hb5.block g2 hlt4).trans H4.out)
  have HO5 := Lib.hid ((hb5.block g hlo4).trans HO4.out)
  clear hb5 hlt4 hlo4
  go_wp2_with fail
  refine (HLK.out w5 HB5.out).mono ?_
  rintro e w5' ⟨rfl, rfl⟩
  obtain ⟨w6, hrun, hkeep, hfin⟩ := HDEL.out w5 HB5.out 0
  have HR6 := Lib.hid hrun
  have H6 := Lib.hid ((hkeep g2 (Nat.le_of_lt HL2.out) (lt_of_heap H5.out)).trans H5.out)
  have HO6 := Lib.hid ((hkeep g (Nat.le_refl _) (lt_of_heap HO5.out)).trans HO5.out)
  have HF := Lib.hid hfin
  obtain ⟨c0, c1, c2, c3, c4⟩ := cellsL H6.out
  clear hrun hkeep hfin
  go_wp2_with (first
    | (at_delete; refine wpList_del rfl (.tmp 17) (.tmp 18) 161 9 rfl rfl rfl HR6.out ?_)
    | ((with_reducible show wpList _ _ _ (⟨none, .store _ (.tmp 4) _, _, _, _, _⟩ :: _) _ _); refine wpList_store_only (o := ⟨none, .store 29 (.tmp 4) (.tmp 19), _, _, _, _⟩) rfl _ _ _ rfl rfl g #[.string x0, .int .u64 x1, .int .u64 x2, .int .i64 x3, .int .i64 x4] rfl rfl 29 _ HO6.out size_link rfl (onesL _ _ _ _ _) ?_; intro w7 H7 B7)
    | fail)
  exact bodyPost_ret (results_l2 rfl rfl rfl (HEB.out _ _ H7.out)) rfl ⟨by rw [HV.out]; rfl, HF.out _ B7.out⟩

end Go.Proofs.YtlghphccmgmomaaGreat

/-
  Proved here: what a link set in a table's map leaves.
  Conditions: keys of at most 2^30 bytes.
-/
namespace Go.Proofs.YtlghphccmgmomaaGreat
open Go Go.RowKit
set_option maxRecDepth 100000

/-- A link set in a table whose bucket has a map. -/
theorem Tb.sets {w : World} {p b : Nat} {m : Nat → Option Nat} {L : List Ln} (h : Tb w p m L) (x : Ln) (hx : x.k.length ≤ 1073741824) (hb : m (bkt x.k) = some b) (hl : L.length < 1048576) :
    ∃ w', (Instr.mapUpdate 161 (.map (some b)) (.string x.str) x.agg).run Tryz.prog w = .ok () w' ∧ Tb w' p m (setT L x) ∧ Stay (tbOwn p m) w w' := by
  have hkey := key_of _ hx
  have hb8 := bkt_lt x.k
  have hpt := partT_set h.rises bkt x
  have hm : MapL w b (partT bkt L (bkt x.k)) := h.some_ _ b hb8 hb
  have hpl : (partT bkt L (bkt x.k)).length ≤ L.length := List.length_filter_le _ _
  obtain ⟨w', hrun, h1, h2⟩ := World.ownsMap.store hm str_law Tryz.underlying161 (by unfold maxLen; omega) hkey (linkE_mk x)
  rw [md_put] at h1
  have h3 : MapL w' b (setT (partT bkt L (bkt x.k)) x) := own_tight h1
  refine ⟨w', hrun, h.changed hb8 hb (Stay.turned h2 rfl) ?_ (risesK_set h.rises x) ?_ fun j hj hji => ?_⟩
  · rw [hpt, if_pos rfl]
    exact h3
  · intro y hy
    rcases mem_setT.1 hy with rfl | ⟨hy, _⟩
    · exact hx
    · exact h.keys y hy
  · rw [hpt, if_neg (fun e => hji e.symm)]
/-- A bucket's map made. -/
theorem Tb.made {w : World} {p i : Nat} {m : Nat → Option Nat} {L : List Ln} (h : Tb w p m L) (hi : i < 8) (hm : m i = none) :
    Tb ((w.alloc (.map #[] 0)).setCell ⟨p, i, none⟩ (.map (some w.heap.size))) p (fun j => if j = i then some w.heap.size else m j) L := by
  have hp : p < w.heap.size := lt_of_heap h.mem
  have h1 : (w.alloc (.map #[] 0)).heap[p]? = some (.cells (mcells m).toArray 225 (0, 0)) := (Below.heap_alloc _ _ _ hp).trans h.mem
  have hs : Stay (fun k => k = p) w ((w.alloc (.map #[] 0)).setCell ⟨p, i, none⟩ (.map (some w.heap.size))) :=
    (Stay.of_below ((Below.refl _ _).alloc (Nat.le_refl _) _)).trans (Stay.setCell _ _ _ _ rfl)
  refine ⟨h.rises, h.keys, ?_, fun j hj e => ?_, fun j b hj e => ?_, fun j j' b hj hj' e e' => ?_⟩
  · rw [heap_setCell_same _ p i _ 225 _ h1]
    rw [← mcells_set m hi]
    simp
  · by_cases hji : j = i
    · simp [hji] at e
    · simp only [hji, if_false] at e
      exact h.none_ j hj e
  · by_cases hji : j = i
    · subst hji
      simp only [if_true, Option.some.injEq] at e
      subst e
      rw [h.none_ j hj hm]
      refine (mapL_new w).stay ?_
      exact Below.heap_setCell _ _ _ _ (by simp; omega)
    · simp only [hji, if_false] at e
      have hbp : b ≠ p := by
        rintro rfl
        obtain ⟨es, clock, h1, _⟩ := h.some_ j b hj e
        rw [h.mem] at h1
        cases h1
      exact (h.some_ j b hj e).stay (hs.block b hbp (h.some_ j b hj e).lt)
  · by_cases hji : j = i
    · by_cases hji' : j' = i
      · rw [hji, hji']
      · simp only [hji, hji', if_true, if_false, Option.some.injEq] at e e'
        have := (h.some_ j' b hj' e').lt
        omega
    · by_cases hji' : j' = i
      · simp only [hji, hji', if_true, if_false, Option.some.injEq] at e e'
        have := (h.some_ j b hj e).lt
        omega
      · simp only [hji, hji', if_false] at e e'
        exact h.apart j j' b hj hj' e e'
theorem tbset_old {w w2 w5 w7 : World} {p : Nat} {m : Nat → Option Nat} {L L' : List Ln} (h2 : Below w.heap.size w w2) (h5 : Below w2.heap.size w2 w5) (h7 : Tb w7 p m L') (hs : Stay (tbOwn p m) w5 w7) (_ : Tb w p m L) : TbTo w p m L' w7 :=
  ⟨m, h7, ((Stay.of_below h2).trans (Stay.of_below h5)).trans hs, fun _ hk => .inl hk⟩
theorem tbset_new {w w2 w3 w5 w7 : World} {p i b : Nat} {m : Nat → Option Nat} {L L' : List Ln} (h2 : Below w.heap.size w w2) (hb : w2.heap.size = b) (h3 : Stay (fun k => k = p) w2 w3) (h5 : Below w3.heap.size w3 w5) (h7 : Tb w7 p (fun j => if j = i then some b else m j) L')
    (hs : Stay (tbOwn p (fun j => if j = i then some b else m j)) w5 w7) (_ : Tb w p m L) : TbTo w p m L' w7 := by
  have hn : ∀ k, tbOwn p (fun j => if j = i then some b else m j) k → tbOwn p m k ∨ w.heap.size ≤ k := fun k hk => by
    rcases hk with rfl | ⟨j, hj, e⟩
    · exact .inl (.inl rfl)
    · by_cases hji : j = i
      · simp only [hji, if_true, Option.some.injEq] at e
        have := h2.size
        exact .inr (by omega)
      · simp only [hji, if_false] at e
        exact .inl (.inr ⟨j, hj, e⟩)
  have h3' : Stay (tbOwn p m) w2 w3 := h3.mono fun k _ e => .inl e
  exact ⟨_, h7, Stay.new (((Stay.of_below h2).trans h3').trans (Stay.of_below h5)) hs hn, hn⟩

end Go.Proofs.YtlghphccmgmomaaGreat
