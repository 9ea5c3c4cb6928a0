/-
  Proved here, joined: TabAl, KvR15, Once16
  Conditions: as each part says.
-/
import Derived.Test.YtlghphccmgmomaaGreatJN22
import Derived.Test.YtlghphccmgmomaaGreatJN30
import Derived.Test.YtlghphccmgmomaaGreatJN21
import Derived.Test.YtlghphccmgmomaaGreatJN20
import Derived.Laws.ResultCell
import Derived.Test.YtlghphccmgmomaaGreatJN1
import Derived.Defers
import Derived.Laws.LoneSync
import Derived.RegionCalls
import Derived.ChangeAlike
import Derived.Laws.Pointers
import Derived.Tactics2
import Derived.Shelf.Abstract

/-
  Proved here: what the table's All hands back.
  Conditions: at most 2^20 links.
-/
namespace Go.Proofs.YtlghphccmgmomaaGreat
open Go Go.RowKit
set_option maxRecDepth 100000

theorem grown_belowT {w w' : World} {row : Option Nat} (h : Below w.heap.size w w') : w.grownBy w' row := ⟨h.os, h.tape, h.output, h.size, fun k hk _ => h.block k hk⟩
theorem got_all {M : List Ln} (hr : RisesK M) {ss : List Ky} (hp : ss.Perm (M.map Ln.k)) : (ss.map (linkT M)).Perm M := by
  have h1 := hp.map (linkT M)
  have h2 : (M.map Ln.k).map (linkT M) = M := by
    rw [List.map_map]
    have : ∀ x ∈ M, (linkT M ∘ Ln.k) x = x := fun x hx => by
      show (getT M x.k).getD _ = x
      rw [(getT_some hr).2 ⟨hx, rfl⟩]
      rfl
    rw [List.map_congr_left this]
    simp
  rwa [h2] at h1
set_option maxRecDepth 100000 in
set_option maxHeartbeats 3200000 in
theorem tball_of {w : World} {q : Option Addr} {mbs : Nat → Option Nat} {L : List Ln} (h : Bks w q mbs L) (hl : L.length ≤ 1048576) :
    Calls Tryz.prog 36 #[.pointer q] w (AllTo L w) := by
  obtain ⟨R, hR⟩ : ∃ R, AllTo L w = R := ⟨_, rfl⟩
  rw [hR]
  obtain ⟨i0, hi, hz0, hz1, hz2⟩ := link_info'
  obtain ⟨g, hg⟩ : ∃ g, w.heap.size = g := ⟨_, rfl⟩
  have HG := Lib.hid hg
  have HLN := Lib.hid (tblen_of h hl)
  have HLK : Hid (∀ w' i, Below g w w' → i < 8 → Calls Tryz.prog 74 #[.pointer q, .int .i64 (i : Nat)] w' fun e w2 => e = .returned (.map (mbs i)) ∧ w' = w2) := fun w' i hb hi => h.links w' i (hg.symm ▸ hb) hi
  have HMP : Hid (∀ w' i, Below g w w' → i < 8 → MapO w' (mbs i) (partT bkt L i)) := fun w' i hb hi => h.maps w' i (hg.symm ▸ hb) hi
  have HPL : Hid (∀ i, i < 8 → ∀ b, mbs i = some b → b < g) := fun i hi b e => by
    have := h.maps w i (Below.refl _ _) hi
    rw [e] at this
    have := MapL.lt (this : MapL w b _)
    omega
  have HRS := Lib.hid h.rises
  have HUB : Hid (∀ i, i ≤ 8 → (upB L i).length ≤ 1048576) := fun i hi => by have := upB_le (L := L) hi; rw [upB_all] at this; omega
  have HEND : Hid (∀ (w' : World) (v : Value) (A : List Ln), w'.ownsRow g 29 5 v A.length (encL A) → v ≠ .slice none 0 0 → A.Perm (upB L 8) → Below g w w' → ∃ g2 cap n, v = .slice (some ⟨g2, 0, none⟩) n cap ∧
      Calls Tryz.prog 75 #[.slice (some ⟨g2, 0, none⟩) n cap, .func (.func 76) #[] #[]] w' fun e w2 => e = .returned (.tuple #[]) ∧ R (.returned (.slice (some ⟨g2, 0, none⟩) n cap)) w2) := fun w' v A ho hv hp hb => by
    have hpl : A.Perm L := hp.trans (parts_perm L)
    have hal : A.length = L.length := hpl.length_eq
    rcases ho.2 with ⟨e, _⟩ | ⟨g2, cap, cur, e, hge, _⟩
    · exact absurd e hv
    · subst e
      refine ⟨g2, cap, A.length, rfl, ?_⟩
      refine (sortL_own rfl ho (by omega) h.rises hpl).mono ?_
      rintro e w2 ⟨he, h1, h2⟩
      refine ⟨he, ?_⟩
      rw [← hR]
      refine ⟨g2, cap, by rw [hal], ?_, ?_⟩
      · rw [hg, ← hal]; exact h1
      · rw [hg]
        exact hb.grown h2 (by have := hb.size; omega) (fun j hj => by cases hj; exact hge)
  have hlen0 : (L.length : Int) = ((L.length : Nat) : Int) := rfl
  obtain ⟨n0, hn0⟩ : ∃ n0, L.length = n0 := ⟨_, rfl⟩
  rw [hn0] at HLN hl
  have HZ := Lib.hid zero_link
  clear h hR hn0 hlen0
  go_enter Tryz.func36, Tryz.ntmps36
  go_wp2_with fail
  refine HLN.out.mono ?_
  rintro e w' ⟨rfl, rfl⟩
  go_wp2_with (first
    | (at_make; refine wpList_make_own _ rfl _ _ 104 rfl w.heap.size 29 i0 _ 5 Tryz.underlying104 hi hz0 hz1 _ _ _ n0 rfl rfl rfl (by rw [hz2]; omega) (by unfold maxLen; omega) (Nat.le_refl _) ?_; intro w1 hrow1 hg1))
  rw [hg] at hrow1
  have HB1 : Hid (Below g w w1) := (Below.refl _ _).grown hg1 (by omega) (fun j hj => by cases hj)
  have HR1 := Lib.hid hrow1
  clear hrow1 hg1
  go_loopg [3, 10] 8 (fun gk s3 s10 wx => ∃ (i : Nat) (A : List Ln), i + gk = 8 ∧ s10 = .int .i64 i ∧ Hid (wx.ownsRow g 29 5 s3 A.length (encL A)) ∧ Hid (s3 ≠ .slice none 0 0) ∧ Hid (A.Perm (upB L i)) ∧ Hid (Below g w wx))
  case atStart => exact ⟨0, [], rfl, rfl, HR1, (fun h => by cases h), List.Perm.refl _, HB1⟩
  case round =>
    obtain ⟨i, A, hig, rfl, HO, HV, HP, HB⟩ := hrel
    cases gk with
    | zero =>
      obtain rfl : i = 8 := by omega
      have hii : ¬ ((8 : Nat) : Int) < 8 := by omega
      obtain ⟨g2, cap, n, rfl, hc⟩ := HEND.out _ _ _ HO.out HV.out HP.out HB.out
      have HC := Lib.hid hc
      clear hc
      go_wp2_with (go_at_call 75; refine HC.out.mono ?_; rintro e w2 ⟨rfl, hr⟩)
      exact hr
    | succ go =>
      have hii : (i : Int) < 8 := by omega
      have HLI := Lib.hid (HLK.out wr i HB.out (by omega))
      have hmp := HMP.out wr i HB.out (by omega)
      have HPI := Lib.hid (HPL.out i (by omega))
      have hub := HUB.out (i + 1) (by omega)
      have hus := upB_succ L i
      have hpl := HP.out.length_eq
      have hrp := risesK_part HRS.out bkt i
      rw [hus, List.length_append] at hub
      have HUS := Lib.hid hus
      obtain ⟨M, hM⟩ : ∃ M, partT bkt L i = M := ⟨_, rfl⟩
      rw [hM] at hmp hub hrp HUS
      have HRP := Lib.hid hrp
      have hAM : A.length + M.length ≤ 1048576 := by omega
      have HAM := Lib.hid hAM
      clear hub hus hpl hM hrp hAM hg
      cases hmb : mbs i with
      | none =>
        rw [hmb] at hmp HLI
        obtain rfl : M = [] := hmp
        have hrg := run_range_nilMap (P := Tryz.prog) wr 161 9 29 Tryz.underlying161
        have hnx : ∀ ty, (Instr.next (.pointer (some ⟨wr.heap.size, 0, none⟩)) false ty).run Tryz.prog (wr.alloc (.mapIter none 0 #[] 0)) = _ := fun ty => run_next_nilMap _ ty 0 0 #[]
        have HO2 := Lib.hid (own_alloc HO.out (.mapIter none 0 #[] 0))
        have HB2 : Hid (Below g w (wr.alloc (.mapIter none 0 #[] 0))) := HB.out.alloc (by have := HB.out.size; have := HG.out; omega) _
        have HP2 : Hid (A.Perm (upB L (i + 1))) := by rw [HUS.out, List.append_nil]; exact HP.out
        clear hmb
        go_wp2_with fail
        refine HLI.out.mono ?_
        rintro e w' ⟨rfl, rfl⟩
        go_wp2
        go_loopg [3] 0 (fun gk s3 wx => gk = 0 ∧ s3 = u3 ∧ wx = wr.alloc (.mapIter none 0 #[] 0))
        case atStart => exact ⟨rfl, rfl, rfl⟩
        case round =>
          obtain ⟨rfl, rfl, rfl⟩ := hrel
          go_wp2
          go_roundg go
          case measure => omega
          case rel => exact ⟨i + 1, A, by omega, by go_num, HO2, HV, HP2, HB2⟩
      | some b =>
        rw [hmb] at hmp HLI HPI
        have hown : wr.ownsMap Tryz.prog 9 linkE b M.length (Md M) := hmp
        have hbl : b < g := HPI.out b rfl
        have HSZ := Lib.hid (md_size M)
        obtain ⟨S, hS⟩ : ∃ S, Maps.size (Md M) = S := ⟨_, rfl⟩
        have HSE := Lib.hid hS
        obtain ⟨wb, hwb⟩ : ∃ wb, wr.heap.size = wb := ⟨_, rfl⟩
        have HWB := Lib.hid hwb
        have HGB : Hid (g ≤ wb) := by have := HB.out.size; have := HG.out; show g ≤ wb; omega
        clear hmb hS hwb
        go_wp2_with fail
        refine HLI.out.mono ?_
        rintro e w' ⟨rfl, rfl⟩
        go_wp2_with (first
          | (at_range; refine wpList_range_own _ rfl _ 161 rfl 9 29 str_law Tryz.underlying161 linkE b M.length (Md M) rfl hown ?_; intro w0 hrg0 hg0 hs0))
        rw [HWB.out] at hrg0
        have HRG0 := Lib.hid hrg0
        have HG0 := Lib.hid hg0
        clear hrg0 hg0 hs0 hown
        go_frame
        rw [HWB.out]
        have HST : Hid (w0.ownsRow g 29 5 u3 (A ++ ([] : List Ky).map (linkT M)).length (encL (A ++ ([] : List Ky).map (linkT M))) ∧ Below g w w0) := by
          refine ⟨?_, HB.out.grown HG0.out (by have := HB.out.size; have := HG.out; omega) (fun j hj => by cases hj)⟩
          simp only [List.map_nil, List.append_nil]
          exact own_keep HO.out ((Below.refl _ _).grown HG0.out (Nat.le_refl _) (fun j hj => by cases hj))
        clear hmp
        go_loopg [3] (Maps.size (Md M)) (fun gk s3 wx => ∃ (left : Lit → Bool) (ss : List Ky), Hid (wx.ranges Tryz.prog 9 linkE b wb M.length (Md M) left gk) ∧ Hid (ss.length + gk ≤ M.length) ∧ Hid (wx.ownsRow g 29 5 s3 (A ++ ss.map (linkT M)).length (encL (A ++ ss.map (linkT M)))) ∧ Hid (s3 ≠ .slice none 0 0) ∧ Hid (Collected (Md M) left ss) ∧ Hid (Below g w wx))
        case atStart => exact ⟨_, [], HRG0, (by show 0 + _ ≤ _; rw [HSZ.out]; omega), HST.out.1, HV, Collected.start (Md M), HST.out.2⟩
        case round =>
          obtain ⟨left, ss, HRG, HCS, HRO, HNN, HCO, HNX⟩ := hrel
          go_wp2_with (first
            | (at_next; refine wpList_next_ranges _ rfl _ rfl 9 str_law linkE encStr Ln.agg (fun key kl hk => by obtain ⟨x, hx, _⟩ := Maps.keyOf_str Tryz.underlying9 hk; exact ⟨x, hx⟩) (fun v y hv => by obtain ⟨c, rfl, _⟩ := linkE_inv hv; exact ⟨c, rfl⟩) b wb M.length _ _ _ rfl HRG.out ?_ ?_))
          · intro hc0 hl0
            have HP2 : Hid ((A ++ ss.map (linkT M)).Perm (upB L (i + 1))) := by
              have hperm := HCO.out.perm HRG.out.owns str_law Tryz.underlying9 hl0
              rw [md_keys] at hperm
              rw [HUS.out]
              exact HP.out.append (got_all HRP.out hperm)
            clear hc0 hl0
            go_wp2
            go_roundg go
            case measure => omega
            case rel => exact ⟨i + 1, _, by omega, by go_num, HRO, HNN, HP2, HNX⟩
          · intro x c kl yd yp w2 cnt2 hkey hlk hv hat hrg2 hlt hg2 hs2 hen
            obtain ⟨x', ex, rfl, _⟩ := Maps.keyOf_str Tryz.underlying9 hkey
            obtain rfl : x = x' := encStr_inj ex
            obtain ⟨c', ec, ey⟩ := linkE_inv hv
            obtain rfl : c = c' := Ln.agg_inj ec
            have hcx : linkT M x = c := by
              have h1 := hat Ln.zero.dat
              rw [md_at] at h1
              cases ey
              have h2 : (linkT M x).dat = c.dat := by
                refine Eq.trans ?_ h1
                unfold linkT
                cases getT M x <;> rfl
              exact dat_inj h2
            have HCX := Lib.hid hcx
            have HCN := Lib.hid (HCO.out.step hlk hat)
            have HRG2 := Lib.hid hrg2
            have HLT := Lib.hid hlt
            have hne := row_ne_iter HRO.out HRG.out
            have hrow2 := HRO.out.kept hg2 (Or.inr hne.symm)
            have hwl := HNX.out.size
            have hgw := HG.out
            have hb2 : Below g w w2 := HNX.out.grown hg2 (by omega) (fun j hj => by cases hj; exact HGB.out)
            obtain ⟨g2, hgz⟩ : ∃ g2, w2.heap.size = g2 := ⟨_, rfl⟩
            have HG2 := Lib.hid hgz
            have hgg2 : g ≤ w2.heap.size := by have := hb2.size; omega
            have hni := row_ne_iter hrow2 hrg2
            have hnl : some b ≠ u3.ownBlock := row_ne_low hrow2 hbl
            have HAPP : Hid (∀ w4, Below g2 w2 w4 → ∃ v' w5, (Builtin.append_ #[104, 104] 104 #[u3, .slice (some ⟨w4.heap.size, 0, none⟩) 1 1]).run Tryz.prog (w4.alloc (.cells #[.string c.str, .int .u64 (c.id : Nat), .int .u64 (c.ver : Nat), .int .i64 c.line, .int .i64 c.cl] 29)) = .ok v' w5 ∧
                w5.ownsRow g 29 5 v' (A ++ (ss ++ [x]).map (linkT M)).length (encL (A ++ (ss ++ [x]).map (linkT M))) ∧ v' ≠ .slice none 0 0 ∧ w5.ranges Tryz.prog 9 linkE b wb M.length (Md M) (fun z => left z && !z.sameKey (.string x)) cnt2 ∧ Below g w w5) := fun w4 hb4 => by
              have hb4' : Below w2.heap.size w2 w4 := hgz.symm ▸ hb4
              have hrow4 := own_keep hrow2 hb4'
              have hrg4 := hrg2.kept (grown_belowT (row := none) hb4') (by simp) (by simp)
              obtain ⟨v', w5, e1, e2, e3, _⟩ := run_appL_one w4 g u3 (A ++ ss.map (linkT M)) c hrow4 (by have := HAM.out; have := HCS.out; simp; omega) (by have := hb4'.size; omega)
              have el : A ++ (ss ++ [x]).map (linkT M) = A ++ ss.map (linkT M) ++ [c] := by simp [HCX.out]
              refine ⟨v', w5, e1, by rw [el]; exact e2, fun e => ?_, hrg4.kept e3 hnl hni, (hb2.trans (hb4.mono (by omega))).grown e3 (by have := hb4'.size; omega) (fun j hj => own_ge hrow2 j hj)⟩
              obtain ⟨g5, cap5, e5, _⟩ := e2.form (by simp; omega)
              rw [e] at e5
              cases e5
            have HCS2 : Hid ((ss ++ [x]).length + cnt2 ≤ M.length) := by have := HCS.out; show (ss ++ [x]).length + _ ≤ _; simp; omega
            unfold Ln.agg at hen
            clear hs2 hg2 hrow2 hne hni hnl hwl hgw hb2 hgg2 hrg2 hgz hkey hlk hv hat ec ey hcx HNX HRO HRG HCS hlt
            generalize c.str = c0 at *
            generalize (c.id : Int) = c1 at *
            generalize (c.ver : Int) = c2 at *
            generalize c.line = c3 at *
            generalize c.cl = c4 at *
            go_wp2_with (first
              | ((with_reducible show wpList _ _ _ (⟨some 6, .alloc _, _, _, _, _⟩ :: _) _ _); refine wpList_alloc_var (o := ⟨some 6, _, _, _, _, _⟩) rfl 29 rfl g2 HG2.out _ HZ.out ?_; intro w3 H3 B3)
              | (((with_reducible show wpList _ _ _ (⟨none, .store _ (.tmp 6) _, _, _, _, _⟩ :: _) _ _); refine wpList_store_whole (o := ⟨none, .store 29 (.tmp 6) (.tmp 20), _, _, _, _⟩) rfl _ _ _ rfl rfl g2 #[.string c0, .int .u64 c1, .int .u64 c2, .int .i64 c3, .int .i64 c4] rfl rfl 29 _ H3.out size_link rfl (onesL _ _ _ _ _) ?_; intro w4 H4 B4); obtain ⟨c0', c1', c2', c3', c4'⟩ := cellsL H4.out; obtain ⟨v', w5, e1, e2, e3, e4, e5⟩ := HAPP.out w4 (B3.out.trans B4.out); have E1 := Lib.hid e1; have E2 := Lib.hid e2; have E3 := Lib.hid e3; have E4 := Lib.hid e4; have E5 := Lib.hid e5; clear e1 e2 e3 e4 e5)
              | (at_builtin; refine wpList_app rfl (.tmp 21) (.tmp 23) 104 rfl rfl rfl E1.out ?_)
              | fail)
            go_roundg cnt2
            case measure => exact HLT.out
            case rel => exact ⟨_, ss ++ [x], E4, HCS2, E2, E3, HCN, E5⟩
theorem tball_any {w : World} {p : Nat} {m : Nat → Option Nat} {L : List Ln} (h : Tb w p m L) (hl : L.length ≤ 1048576) :
    Calls Tryz.prog 36 #[.pointer (some ⟨p, 0, none⟩)] w (AllTo L w) := tball_of h.bks hl
end Go.Proofs.YtlghphccmgmomaaGreat

/-
  Proved here: pairs and texts in slices; a store's type; a struct in a variable, and as a result.
  Conditions: rows of at most 2^20.
-/
namespace Go.Proofs.YtlghphccmgmomaaGreat
open Go Go.RowKit
set_option maxRecDepth 100000

/-! ### Pairs and texts in slices -/
structure Kv where
  k : ByteArray
  v : ByteArray
def Kv.cells (x : Kv) : List Value := [.string x.k, .string x.v]
theorem pair_info : (Tryz.prog.info? 109).map (fun i => (i.zero, i.size, i.bytes)) = some (some (.agg #[.string ⟨#[]⟩, .string ⟨#[]⟩]), 2, 32) := by kernel_rfl
theorem pair_info' : ∃ i, Tryz.prog.info? 109 = some i ∧ i.zero = some (.agg #[.string ⟨#[]⟩, .string ⟨#[]⟩]) ∧ i.size = 2 ∧ i.bytes = 32 := by
  obtain ⟨i, h1, h2⟩ := Option.map_eq_some_iff.1 pair_info
  simp only [Prod.mk.injEq] at h2
  exact ⟨i, h1, h2.1, h2.2.1, h2.2.2⟩
theorem text_info : (Tryz.prog.info? 9).map (fun i => (i.zero, i.size, i.bytes)) = some (some (.string ⟨#[]⟩), 1, 16) := by kernel_rfl
theorem text_info' : ∃ i, Tryz.prog.info? 9 = some i ∧ i.zero = some (.string ⟨#[]⟩) ∧ i.size = 1 ∧ i.bytes = 16 := by
  obtain ⟨i, h1, h2⟩ := Option.map_eq_some_iff.1 text_info
  simp only [Prod.mk.injEq] at h2
  exact ⟨i, h1, h2.1, h2.2.1, h2.2.2⟩
def RP : Rec Kv where
  tE := 109
  tS := 39
  k := 2
  by_ := 32
  zv := .agg #[.string ⟨#[]⟩, .string ⟨#[]⟩]
  cells := Kv.cells
  hk := by omega
  klen := fun _ => rfl
  one := fun x u hu => by
    simp only [Kv.cells, List.mem_cons, List.not_mem_nil, or_false] at hu
    rcases hu with rfl | rfl <;> rfl
  und := Tryz.underlying39
  info := pair_info'
  zk := by kernel_rfl
  small := by omega
def RS : Rec ByteArray where
  tE := 9
  tS := 40
  k := 1
  by_ := 16
  zv := .string ⟨#[]⟩
  cells := fun s => [.string s]
  hk := by omega
  klen := fun _ => rfl
  one := fun x u hu => by
    simp only [List.mem_cons, List.not_mem_nil, or_false] at hu
    subst hu
    rfl
  und := Tryz.underlying40
  info := text_info'
  zk := by kernel_rfl
  small := by omega
theorem RP.zero (w : World) : (zeroValue RP.tE).run Tryz.prog w = .ok RP.zv w := Tryz.zeroValue109 w
theorem RS.zero (w : World) : (zeroValue RS.tE).run Tryz.prog w = .ok RS.zv w := Tryz.zeroValue9 w
theorem pairAt {w : World} {A : Option Addr} {l : List Kv} (h : RP.Row w A l) {i : Nat} {e : Kv} (hi : l[i]? = some e) : ∃ b off, A = some ⟨b, off, none⟩ ∧ b < w.heap.size ∧ w.cell? ⟨b, off + i * 2, none⟩ = some (.string e.k) ∧ w.cell? ⟨b, off + i * 2 + 1, none⟩ = some (.string e.v) := by
  obtain ⟨b, off, e1, hlt, hc⟩ := h.2 (by have := (List.getElem?_eq_some_iff.1 hi).1; omega)
  exact ⟨b, off, e1, hlt, hc i e hi 0 _ rfl, hc i e hi 1 _ rfl⟩
theorem cells2 {w : World} {g : Nat} {T : TypeId} {a b : Value} (h : w.heap[g]? = some (.cells #[a, b] T (0, 0))) : w.cell? ⟨g, 0, none⟩ = some a ∧ w.cell? ⟨g, 1, none⟩ = some b := by
  refine ⟨?_, ?_⟩ <;> simp [World.cell?, h]
theorem shelf_info : (Tryz.prog.info? 42).map (fun i => (i.zero, i.size, i.bytes)) = some (some (.agg #[.slice none 0 0, .slice none 0 0]), 2, 48) := by kernel_rfl
theorem shelf_info' : ∃ i, Tryz.prog.info? 42 = some i ∧ i.zero = some (.agg #[.slice none 0 0, .slice none 0 0]) ∧ i.size = 2 ∧ i.bytes = 48 := by
  obtain ⟨i, h1, h2⟩ := Option.map_eq_some_iff.1 shelf_info
  simp only [Prod.mk.injEq] at h2
  exact ⟨i, h1, h2.1, h2.2.1, h2.2.2⟩
theorem zero_shelf : (Tryz.prog.info? 42).bind (·.zero) = some (.agg #[.slice none 0 0, .slice none 0 0]) := by
  obtain ⟨i, h1, h2, _⟩ := shelf_info'
  rw [h1]
  exact h2
theorem size_shelf : (Tryz.prog.info? 42).map (·.size) = some 2 := by
  obtain ⟨i, h1, _, h2, _⟩ := shelf_info'
  rw [h1]
  simp [h2]
theorem onesV (p q : Option Addr) (a b c d : Nat) : (#[.slice p a b, .slice q c d] : Array Value).all (·.oneCell') = true := all_oneCell_toArray (cs := [.slice p a b, .slice q c d]) (fun u hu => by
  simp only [List.mem_cons, List.not_mem_nil, or_false] at hu
  rcases hu with rfl | rfl <;> rfl)
theorem own_ltN {w : World} {B size n : Nat} {e : TypeId} {u : Value} {xs : List Value} (h : w.ownsRow B e size u n xs) {k : Nat} (hk : u.ownBlock = some k) : k < w.heap.size := by
  rcases h.2 with ⟨rfl, _⟩ | ⟨g, cap, cur, rfl, _, hh, _⟩
  · cases hk
  · cases hk
    exact lt_of_heap hh
/-- Block g is a variable of the struct type T that holds the cells cs. -/
def VBox (T : TypeId) (w : World) (g : Nat) (cs : List Value) : Prop := w.heap[g]? = some (.cells cs.toArray T (0, 0))
theorem VBox.below {T : TypeId} {w w' : World} {g B : Nat} {cs : List Value} (h : VBox T w g cs) (hb : Below B w w') (hg : g < B) : VBox T w' g cs := (hb.block g hg).trans h
theorem VBox.stay {T : TypeId} {S : Nat → Prop} {w w' : World} {g : Nat} {cs : List Value} (h : VBox T w g cs) (hs : Stay S w w') (hn : ¬ S g) : VBox T w' g cs := (hs.block g hn (lt_of_heap h)).trans h
theorem VBox.lt {T : TypeId} {w : World} {g : Nat} {cs : List Value} (h : VBox T w g cs) : g < w.heap.size := lt_of_heap h
theorem results_v1 {fn : Func} {t : Tmp} {T : TypeId} {fs : Array Field} (hf : fn.results = #[.cell t T]) (hu : Tryz.prog.underlying T = some (.struct fs)) {tmps : Array Value} {g : Nat} (ht : tmps.getD t undef = .pointer (some ⟨g, 0, none⟩)) {w : World} {cs : List Value} (h : VBox T w g cs) (hs : (Tryz.prog.info? T).map (·.size) = some cs.length) :
    (results fn tmps).run Tryz.prog w = .ok (.agg cs.toArray) w := by
  have hl := run_loadVar_row (P := Tryz.prog) w g _ T _ _ _ h hu rfl (by simpa using hs)
  have ht' : tmps[t]?.getD undef = .pointer (some ⟨g, 0, none⟩) := by simpa using ht
  simp [results, hf, ht', hl, asAddr]
theorem results_vt {fn : Func} {t u : Tmp} {T : TypeId} {fs : Array Field} (hf : fn.results = #[.cell t T, .tmp u]) (hu : Tryz.prog.underlying T = some (.struct fs)) {tmps : Array Value} {g : Nat} (ht : tmps.getD t undef = .pointer (some ⟨g, 0, none⟩)) {v : Value} (hv : tmps.getD u undef = v) {w : World} {cs : List Value} (h : VBox T w g cs) (hs : (Tryz.prog.info? T).map (·.size) = some cs.length) :
    (results fn tmps).run Tryz.prog w = .ok (.tuple #[.agg cs.toArray, v]) w := by
  have hl := run_loadVar_row (P := Tryz.prog) w g _ T _ _ _ h hu rfl (by simpa using hs)
  rw [results_cell_tmp hf, ht]
  simp [asAddr, hl, hv, Result.andThen]

end Go.Proofs.YtlghphccmgmomaaGreat

/-
  Proved here: sync.Once, one goroutine, whatever it is handed.
  Conditions: the type number of *internal/sync.Mutex is this seat's (430).
-/
namespace Go.Proofs.YtlghphccmgmomaaGreat
open Go Go.RowKit
set_option maxRecDepth 100000

/-! ### sync.Once, one goroutine, whatever it is handed -/
theorem ondis (w : World) : (callFunc 240 #[]).run Tryz.prog w = .ok (.value (.tuple #[])) w := run_call_mark0 Tryz.func240 (by kernel_rfl) (by kernel_rfl) (by kernel_rfl) .disable (by kernel_rfl) w
theorem onena (w : World) : (callFunc 242 #[]).run Tryz.prog w = .ok (.value (.tuple #[])) w := run_call_mark0 Tryz.func242 (by kernel_rfl) (by kernel_rfl) (by kernel_rfl) .enable (by kernel_rfl) w
theorem onacq (a : Addr) (w : World) : (callFunc 243 #[.pointer (some a)]).run Tryz.prog w = .ok (.value (.tuple #[])) w := run_call_marked Tryz.func243 (by kernel_rfl) (by kernel_rfl) (by kernel_rfl) .acquire (by kernel_rfl) a w
theorem onrel (a : Addr) (w : World) : (callFunc 245 #[.pointer (some a)]).run Tryz.prog w = .ok (.value (.tuple #[])) w := run_call_marked Tryz.func245 (by kernel_rfl) (by kernel_rfl) (by kernel_rfl) .releaseMerge (by kernel_rfl) a w
theorem onstore_d (a : Addr) (x : Value) (u : FrameMode) (w : World) (hc : w.cell? a = some x) (hz : w.frozen? a = false) :
    CallsD Tryz.prog 215 #[.pointer (some a), .bool true] u w fun e u' w' => u' = u ∧ (e = .returned (.tuple #[]) ∧ w' = w.drew.setCell a (.int .u32 1)) := by
  have hc' : w.drew.cell? a = some x := by go_simp
  have hz' : w.drew.frozen? a = false := by go_simp
  have hst := run_call_store (P := Tryz.prog) Tryz.func231 (by kernel_rfl) (by kernel_rfl) (by kernel_rfl) (by kernel_rfl) (k := .u32) (y := 1) hc' hz'
  go_enter_d Tryz.func215, Tryz.ntmps215
  go_wp2
  go_region_calls
  all_goals (go_end0; exact ⟨rfl, rfl⟩)
theorem onunlock_d (a : Addr) (u : FrameMode) (w : World) (hc : w.cell? a = some (.int .i32 1)) (hz : w.frozen? a = false) :
    CallsD Tryz.prog 214 #[.pointer (some a)] u w fun e u' w' => u' = u ∧ (e = .returned (.tuple #[]) ∧ w' = w.setCell a (.int .i32 0)) := by
  have hd := ondis
  have he := onena
  have hr := onrel
  have hadd := run_call_add (P := Tryz.prog) Tryz.func246 (by kernel_rfl) (by kernel_rfl) (by kernel_rfl) .i32 (by kernel_rfl) (y := -1) (s := 0) hc hz (by simp [go_sem]; rfl)
  have hcv := run_convert_to_unsafe (P := Tryz.prog) (src := 326) (dst := 330) Tryz.underlying326 Tryz.underlying330 (by kernel_rfl) hc
  go_enter_d Tryz.func214, Tryz.ntmps214
  go_wp2
  go_end0
  go_wp2
  go_end0
  exact ⟨rfl, rfl⟩
theorem onlock (a : Addr) (w : World) (hc : w.cell? a = some (.int .i32 0)) (hz : w.frozen? a = false) :
    Calls Tryz.prog 213 #[.pointer (some a)] w fun e w' => e = .returned (.tuple #[]) ∧ w' = w.setCell a (.int .i32 1) := by
  have hd := ondis
  have he := onena
  have ha := onacq
  have hcas := run_call_cas_hit (P := Tryz.prog) Tryz.func241 (by kernel_rfl) (by kernel_rfl) (by kernel_rfl) .i32 (by kernel_rfl) (y := 1) hc hz
  have hc' : (w.setCell a (.int .i32 1)).cell? a = some (.int .i32 1) := World.cell?_setCell_same w a _ hc
  have hcv := run_convert_to_unsafe (P := Tryz.prog) (src := 326) (dst := 330) Tryz.underlying326 Tryz.underlying330 (by kernel_rfl) hc'
  go_enter Tryz.func213, Tryz.ntmps213
  go_wp2
  first | go_end0 | (simp only [Exit.inBlock, Exit.then]; refine bodyPost_ret (results_none rfl _ _ _) rfl ?_) | refine bodyPost_ret (results_none rfl _ _ _) rfl ?_
  go_wp2
  go_end0
  exact ⟨rfl, rfl⟩
theorem onload0 (a : Addr) (w : World) (hc : w.cell? a = some (.int .u32 0)) : Calls Tryz.prog 179 #[.pointer (some a)] w fun e w' => e = .returned (.bool false) ∧ w' = w := by
  have hl := run_call_load (P := Tryz.prog) Tryz.func212 (by kernel_rfl) (by kernel_rfl) (by kernel_rfl) .u32 (by kernel_rfl) hc
  go_enter Tryz.func179, Tryz.ntmps179
  go_wp2
  go_ret
  exact ⟨rfl, rfl⟩
/-- What Once.Do leaves: what the function left, the word set, the lock free. -/
def OnceTo (b off : Nat) (R : World → Prop) (e : Ending) (w' : World) : Prop := e = .returned (.tuple #[]) ∧ ∃ w2, R w2 ∧ w' = (w2.drew.setCell ⟨b, off, none⟩ (.int .u32 1)).setCell ⟨b, off + 1, none⟩ (.int .i32 0)
set_option maxHeartbeats 1600000 in
theorem onslow (b off fi : Nat) (caps : Array Value) (R : World → Prop) (w : World)
    (h0 : w.cell? ⟨b, off, none⟩ = some (.int .u32 0)) (h1 : w.cell? ⟨b, off + 1, none⟩ = some (.int .i32 0)) (f1 : w.frozen? ⟨b, off + 1, none⟩ = false)
    (eg : ∀ args w, (callFunc fi args).run Tryz.prog w = .ok (.enter fi args) w)
    (hF : Calls Tryz.prog fi caps (w.setCell ⟨b, off + 1, none⟩ (.int .i32 1)) fun e w2 => e = .returned (.tuple #[]) ∧ R w2)
    (hR : ∀ w2, R w2 → w2.cell? ⟨b, off, none⟩ = some (.int .u32 0) ∧ w2.cell? ⟨b, off + 1, none⟩ = some (.int .i32 1) ∧ w2.frozen? ⟨b, off, none⟩ = false ∧ w2.frozen? ⟨b, off + 1, none⟩ = false) :
    Calls Tryz.prog 180 #[.pointer (some ⟨b, off, none⟩), .func (.func fi) #[] caps] w (OnceTo b off R) := by
  have hl := Lib.hid (onload0 ⟨b, off, none⟩ (w.setCell ⟨b, off + 1, none⟩ (.int .i32 1)) ((World.cell?_setCell_other _ ⟨b, off + 1, none⟩ ⟨b, off, none⟩ _ (by simp)).trans h0))
  have hnot : ∀ (x : Bool) (w : World), (Op.unary .not (.bool x)).run Tryz.prog w = .ok (.bool (!x)) w := fun _ _ => rfl
  have HF := Lib.hid hF
  have HR := Lib.hid hR
  have hL := Lib.hid (onlock ⟨b, off + 1, none⟩ w h1 f1)
  clear hF hR
  go_enter_defers Tryz.func180, Tryz.ntmps180
  go_wp2_with (first
    | (go_at_call 213; refine hL.out.mono ?_; rintro e w' ⟨rfl, rfl⟩)
    | (go_at_call 179; refine hl.out.mono ?_; rintro e w' ⟨rfl, rfl⟩)
    | (go_at_fn fi; refine HF.out.mono ?_; rintro e w2 ⟨rfl, hr⟩; have HR2 := Lib.hid hr; obtain ⟨r0, r1, z0, z1⟩ := HR.out w2 hr; clear hr)
    | fail)
  refine leaves_cons (f := 215) (args := #[.pointer (some ⟨b, off, none⟩), .bool true]) (by simp) (by simp [go_sem]) ?_
  refine (onstore_d ⟨b, off, none⟩ (.int .u32 0) .returning _ r0 z0).mono ?_
  rintro e u' w'' ⟨rfl, rfl, rfl⟩
  refine leaves_cons (f := 214) (args := #[.pointer (some ⟨b, off + 1, none⟩)]) (by simp [settle]) (by simp [go_sem]) ?_
  refine (onunlock_d ⟨b, off + 1, none⟩ _ _ ?_ (by simp [z1])).mono ?_
  · exact (World.cell?_setCell_other _ ⟨b, off, none⟩ ⟨b, off + 1, none⟩ _ (by simp)).trans r1
  rintro e u' w'' ⟨rfl, rfl, rfl⟩
  have HFIN : OnceTo b off R (.returned (.tuple #[])) ((w2.drew.setCell ⟨b, off, none⟩ (.int .u32 1)).setCell ⟨b, off + 1, none⟩ (.int .i32 0)) := ⟨rfl, w2, HR2.out, rfl⟩
  simpa [Leaves, settle, results, Tryz.results180] using HFIN
set_option maxHeartbeats 1600000 in
theorem ondo (b off fi : Nat) (caps : Array Value) (R : World → Prop) (w : World)
    (h0 : w.cell? ⟨b, off, none⟩ = some (.int .u32 0)) (h1 : w.cell? ⟨b, off + 1, none⟩ = some (.int .i32 0)) (f1 : w.frozen? ⟨b, off + 1, none⟩ = false)
    (eg : ∀ args w, (callFunc fi args).run Tryz.prog w = .ok (.enter fi args) w)
    (hF : Calls Tryz.prog fi caps (w.setCell ⟨b, off + 1, none⟩ (.int .i32 1)) fun e w2 => e = .returned (.tuple #[]) ∧ R w2)
    (hR : ∀ w2, R w2 → w2.cell? ⟨b, off, none⟩ = some (.int .u32 0) ∧ w2.cell? ⟨b, off + 1, none⟩ = some (.int .i32 1) ∧ w2.frozen? ⟨b, off, none⟩ = false ∧ w2.frozen? ⟨b, off + 1, none⟩ = false) :
    Calls Tryz.prog 140 #[.pointer (some ⟨b, off, none⟩), .func (.func fi) #[] caps] w (OnceTo b off R) := by
  have hl := Lib.hid (onload0 ⟨b, off, none⟩ w h0)
  have hnot : ∀ (x : Bool) (w : World), (Op.unary .not (.bool x)).run Tryz.prog w = .ok (.bool (!x)) w := fun _ _ => rfl
  have HS := Lib.hid (onslow b off fi caps R w h0 h1 f1 eg hF hR)
  clear hF hR eg h0 h1 f1
  go_enter Tryz.func140, Tryz.ntmps140
  go_wp2_with (first
    | (go_at_call 179; refine hl.out.mono ?_; rintro e w' ⟨rfl, rfl⟩)
    | (go_at_call 180; refine HS.out.mono ?_; rintro e w' ⟨rfl, w2, hr, rfl⟩; have HR2 := Lib.hid hr; clear hr)
    | fail)
  go_end0
  exact ⟨rfl, w2, HR2.out, rfl⟩

end Go.Proofs.YtlghphccmgmomaaGreat
