/-
  Proved here: what the order's Right answers.
  Conditions: at most 2^20 links.
-/
import Derived.Test.YtfdifimakaiccaaOrdA
namespace Go.Proofs.Ytfdifimakaiccaa
open Go Go.RowKit
set_option maxRecDepth 100000

theorem bySkip_lt (s : ByteArray) (past : Bool) (x : Ln) : decide (bySkip s past x < 0) = skipB s.data.toList past x.k := by
  unfold bySkip
  cases skipB s.data.toList past x.k <;> rfl
/-- What Right answers. -/
def RightSays (res : Option Ln) (w : World) (e : Ending) (w' : World) : Prop := e = .returned (.tuple #[(res.getD Ln.zero).agg, .bool res.isSome]) ∧ Below w.heap.size w w'
set_option maxHeartbeats 1600000 in
set_option maxRecDepth 100000 in
theorem odright_of {w : World} {q A : Option Addr} {cap : Nat} {l : List Ln} (n : Nat) (hn : l.length = n) (hr : RowL w A l) (hri : RisesK l) (lv : Int) (s : ByteArray) (past : Bool) (res : Option Ln) (hres : l[l.countP fun x => skipB s.data.toList past x.k]? = res)
    (hlk : ∀ w', Below w.heap.size w w' → Calls Try.prog 28 #[.pointer q, .int .i64 lv] w' fun e w2 => e = .returned (.slice A n cap) ∧ w' = w2) :
    Calls Try.prog 15 #[.pointer q, .int .i64 lv, .string s, .bool past] w (RightSays res w) := by
  obtain ⟨R, hR⟩ : ∃ R, RightSays res w = R := ⟨_, rfl⟩
  obtain ⟨g, hg⟩ : ∃ g, w.heap.size = g := ⟨_, rfl⟩
  have eg : ∀ args w, (callFunc 30 args).run Try.prog w = .ok (.enter 30 args) w := enters_of Try.func30 (by kernel_rfl) rfl
  have hcnt : (l.countP fun x => decide (bySkip s past x < 0)) = l.countP fun x => skipB s.data.toList past x.k := by
    congr 1
    funext x
    exact bySkip_lt s past x
  have hm : l.Pairwise fun a b => bySkip s past b < 0 → bySkip s past a < 0 := (skip_mono hri s.data.toList past).imp fun {a b} hab hb => by
    have h1 := bySkip_lt s past a
    have h2 := bySkip_lt s past b
    rw [decide_eq_true hb] at h2
    rw [hab h2.symm] at h1
    exact of_decide_eq_true h1
  have hle : (l.countP fun x => skipB s.data.toList past x.k) ≤ n := hn ▸ List.countP_le_length
  obtain ⟨c, hc⟩ : ∃ c, (l.countP fun x => skipB s.data.toList past x.k) = c := ⟨_, rfl⟩
  rw [hc] at hcnt hres hle
  have HS : Hid (∀ w2, Below g w w2 → g < w2.heap.size → w2.cell? ⟨g, 0, none⟩ = some (.bool past) → Calls Try.prog 29 #[.slice A n cap, .string s, .func (.func 30) #[] #[.pointer (some ⟨g, 0, none⟩)]] w2 fun e w' =>
      e = .returned (.tuple #[.int .i64 (c : Nat), .bool (isAt (bySkip s past) l c)]) ∧ Below w2.heap.size w2 w') := fun w2 hb hlt hcl => by
    have h2 := search_any n cap hn (hr.below (hg.symm ▸ hb)) s 30 #[.pointer (some ⟨g, 0, none⟩)] #[] (bySkip s past) rfl eg (fun W hbW x => right1_any x s past g W (Nat.lt_of_lt_of_le hlt hbW.size) ((hbW.cell (p := ⟨g, 0, none⟩) hlt).trans hcl)) hm
    rwa [hcnt] at h2
  have HLK : Hid (∀ w', Below g w w' → Calls Try.prog 28 #[.pointer q, .int .i64 lv] w' fun e w2 => e = .returned (.slice A n cap) ∧ w' = w2) := fun w' hb => hlk w' (hg.symm ▸ hb)
  have HZ := Lib.hid zero_link
  have HEB : Hid (∀ (x : Ln) (w' : World) (g : Nat), w'.heap[g]? = some (.cells #[.string x.str, .int .u64 (x.id : Nat), .int .u64 (x.ver : Nat), .int .i64 x.line, .int .i64 x.cl] 33 (0, 0)) → LBox w' g x) := fun x w' g h => h
  have HEZ : Hid (∀ (w' : World) (g : Nat), w'.heap[g]? = some (.cells #[.string ⟨#[]⟩, .int .u64 0, .int .u64 0, .int .i64 0, .int .i64 0] 33 (0, 0)) → LBox w' g Ln.zero) := fun w' g h => h
  have HYES : Hid (∀ x w', l[c]? = some x → Below g w w' → R (.returned (.tuple #[x.agg, .bool true])) w') := fun x w' hx hb => by
    rw [← hR]
    obtain rfl : res = some x := by rw [← hres, hx]
    exact ⟨rfl, hg.symm ▸ hb⟩
  have HNO : Hid (c = n → ∀ w', Below g w w' → R (.returned (.tuple #[Ln.zero.agg, .bool false])) w') := fun hcn w' hb => by
    rw [← hR]
    obtain rfl : res = none := by rw [← hres, List.getElem?_eq_none (by omega)]
    exact ⟨rfl, hg.symm ▸ hb⟩
  have HR := Lib.hid hr
  have HN := Lib.hid hn
  have HG := Lib.hid hg
  have HMX : Hid (n ≤ 1048576) := hn ▸ hr.1
  obtain ⟨gg, hgg⟩ : ∃ gg, g + 1 = gg := ⟨_, rfl⟩
  have HGG := Lib.hid hgg
  have HG2 : Hid ((w.alloc (.cells #[.bool past] 4)).heap.size = gg) := by show _ = _; simp [hg, ← hgg]
  have HB1 : Hid (Below g w (w.alloc (.cells #[.bool past] 4))) := (Below.refl _ _).alloc (by omega) _
  have HC1 : Hid ((w.alloc (.cells #[.bool past] 4)).cell? ⟨g, 0, none⟩ = some (.bool past)) := by show _ = _; rw [← hg]; simp
  rw [hR]
  clear hR hr hri hm hn hcnt hres hlk hc eg hgg
  go_enter Try.func15, Try.ntmps15
  go_wp2_with (first
    | (((with_reducible show wpList _ _ _ (⟨some 8, .alloc _, _, _, _, _⟩ :: _) _ _); refine wpList_alloc_var (o := ⟨some 8, _, _, _, _, _⟩) rfl 33 rfl gg HG2.out _ HZ.out ?_; intro w2 H2 B2))
    | fail)
  have HB2 : Hid (Below g w w2) := HB1.out.trans (B2.out.mono (by have := HGG.out; omega))
  have HL2 : Hid (g < w2.heap.size) := by have h1 := lt_of_heap H2.out; have h2 := HGG.out; show _ < _; omega
  have HC2 : Hid (w2.cell? ⟨g, 0, none⟩ = some (.bool past)) := (B2.out.cell (p := ⟨g, 0, none⟩) (by have h2 := HGG.out; show g < gg; omega)).trans HC1.out
  refine (HLK.out w2 HB2.out).mono ?_
  rintro e w' ⟨rfl, rfl⟩
  go_wp2_with fail
  refine (HS.out w2 HB2.out HL2.out HC2.out).mono ?_
  rintro e w3 ⟨rfl, hb3⟩
  have hlt2 := lt_of_heap H2.out
  have H3 := Lib.hid ((hb3.block gg hlt2).trans H2.out)
  have HB3 : Hid (Below g w w3) := HB2.out.trans (hb3.mono (Nat.le_of_lt HL2.out))
  have HGL : Hid (g ≤ gg) := by have h2 := HGG.out; show _ ≤ _; omega
  clear hb3 hlt2
  by_cases hcn : c = n
  · subst hcn
    have hce : ((c : Int) == (c : Int)) = true := by simp
    have HNN := Lib.hid (HNO.out rfl)
    clear HNO
    go_wp2_with (first
      | ((with_reducible show wpList _ _ _ (⟨none, .store _ (.tmp 8) _, _, _, _, _⟩ :: _) _ _); refine wpList_store_whole (o := ⟨none, .store 33 (.tmp 8) (.tmp 27), _, _, _, _⟩) rfl _ _ _ rfl rfl gg #[.string ⟨#[]⟩, .int .u64 0, .int .u64 0, .int .i64 0, .int .i64 0] rfl rfl 33 _ H3.out size_link rfl (onesL _ _ _ _ _) ?_; intro w5 H5 B5)
      | fail)
    refine bodyPost_ret (results_l2 rfl rfl rfl (HEZ.out _ _ H5.out)) rfl ?_
    exact HNN.out _ (HB3.out.trans (B5.out.mono HGL.out))
  · have hce : ((c : Int) == (n : Int)) = false := by simp; omega
    have hgi := List.getElem?_eq_getElem (show c < l.length by have := HN.out; omega)
    generalize l[c]'(by have := HN.out; omega) = x at *
    obtain ⟨b0, off, rfl, -, c0, c1, c2, c3, c4⟩ := (HR.out.below (HG.out.symm ▸ HB3.out)).at_ hgi
    have HY := Lib.hid (HYES.out x · hgi)
    have HEX := Lib.hid (HEB.out x)
    obtain ⟨V, hV⟩ : ∃ V, V = x.agg := ⟨_, rfl⟩
    have HV := Lib.hid hV
    rw [← hV] at HY
    have hcl : (c : Int) < (n : Int) := by omega
    have hcl2 : c < n := by omega
    clear hgi hV hcn
    generalize x.str = x0 at *
    generalize (x.id : Int) = x1 at *
    generalize (x.ver : Int) = x2 at *
    generalize x.line = x3 at *
    generalize x.cl = x4 at *
    go_wp2_with (first
      | ((with_reducible show wpList _ _ _ (⟨none, .store _ (.tmp 8) _, _, _, _, _⟩ :: _) _ _); refine wpList_store_whole (o := ⟨none, .store 33 (.tmp 8) (.tmp 31), _, _, _, _⟩) rfl _ _ _ rfl rfl gg #[.string x0, .int .u64 x1, .int .u64 x2, .int .i64 x3, .int .i64 x4] rfl rfl 33 _ H3.out size_link rfl (onesL _ _ _ _ _) ?_; intro w5 H5 B5)
      | fail)
    refine bodyPost_ret (results_l2 rfl rfl rfl (HEX.out _ _ H5.out)) rfl ?_
    rw [← HV.out]
    exact HY.out _ (HB3.out.trans (B5.out.mono HGL.out))
/-- What Right answers of an order. -/
theorem odright_any {w : World} {p : Nat} {v : Nat → Value} {L : List Ln} (h : Od w p v L) (hl : L.length ≤ 1048576) (lv : Int) (s : ByteArray) (past : Bool) :
    Calls Try.prog 15 #[.pointer (some ⟨p, 0, none⟩), .int .i64 lv, .string s, .bool past] w (RightSays (rightT L lv s.data.toList past) w) := by
  obtain ⟨A, cap, e, -, hr⟩ := lv_row h hl lv
  exact odright_of (lvL L lv).length rfl hr (lvL_rises h.rises lv) lv s past _ (lvL_right h.rises lv _ _) fun w' hb => by
    have := odlinks_any (h.below hb).ro lv
    rwa [e] at this
theorem odright_nil (lv : Int) (s : ByteArray) (past : Bool) (w : World) :
    Calls Try.prog 15 #[.pointer none, .int .i64 lv, .string s, .bool past] w (RightSays none w) :=
  odright_of (l := []) (A := none) (cap := 0) 0 rfl (rowL_nil _ _) risesK_nil lv s past _ rfl fun w' _ => odlinks_nil lv w'

end Go.Proofs.Ytfdifimakaiccaa
