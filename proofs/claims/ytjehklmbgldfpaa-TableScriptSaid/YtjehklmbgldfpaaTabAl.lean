/-
  Proved here: what the table's All hands back.
  Conditions: at most 2^20 links.
-/
import Derived.Test.YtjehklmbgldfpaaTabL
namespace Go.Proofs.Ytjehklmbgldfpaa
open Go Go.RowKit
set_option maxRecDepth 100000

theorem grown_below {w w' : World} {row : Option Nat} (h : Below w.heap.size w w') : w.grownBy w' row := ⟨h.os, h.tape, h.output, h.size, fun k hk _ => h.block k hk⟩
theorem got_all {M : List Ln} (hr : RisesK M) {ss : List Ky} (hp : ss.Perm (M.map Ln.k)) : (ss.map (linkT M)).Perm M := by
  have h1 := hp.map (linkT M)
  have h2 : (M.map Ln.k).map (linkT M) = M := by
    rw [List.map_map]
    have : ∀ x ∈ M, (linkT M ∘ Ln.k) x = x := fun x hx => by
      show (getT M x.k).getD _ = x
      rw [(getT_some hr).2 ⟨hx, rfl⟩]
      rfl
    rw [List.map_congr_left this]
    simp
  rwa [h2] at h1
/-- What All leaves. -/
def AllTo (L : List Ln) (w : World) (e : Ending) (w' : World) : Prop := ∃ g cap, e = .returned (.slice (some ⟨g, 0, none⟩) L.length cap) ∧ w'.ownsRow w.heap.size 33 5 (.slice (some ⟨g, 0, none⟩) L.length cap) L.length (encL L) ∧ Below w.heap.size w w'
set_option maxRecDepth 100000 in
set_option maxHeartbeats 3200000 in
theorem tball_of {w : World} {q : Option Addr} {mbs : Nat → Option Nat} {L : List Ln} (h : Bks w q mbs L) (hl : L.length ≤ 1048576) :
    Calls Try.prog 20 #[.pointer q] w (AllTo L w) := by
  obtain ⟨R, hR⟩ : ∃ R, AllTo L w = R := ⟨_, rfl⟩
  rw [hR]
  obtain ⟨i0, hi, hz0, hz1, hz2⟩ := link_info'
  obtain ⟨g, hg⟩ : ∃ g, w.heap.size = g := ⟨_, rfl⟩
  have HG := Lib.hid hg
  have HLN := Lib.hid (tblen_of h hl)
  have HLK : Hid (∀ w' i, Below g w w' → i < 8 → Calls Try.prog 26 #[.pointer q, .int .i64 (i : Nat)] w' fun e w2 => e = .returned (.map (mbs i)) ∧ w' = w2) := fun w' i hb hi => h.links w' i (hg.symm ▸ hb) hi
  have HMP : Hid (∀ w' i, Below g w w' → i < 8 → MapO w' (mbs i) (partT bkt L i)) := fun w' i hb hi => h.maps w' i (hg.symm ▸ hb) hi
  have HPL : Hid (∀ i, i < 8 → ∀ b, mbs i = some b → b < g) := fun i hi b e => by
    have := h.maps w i (Below.refl _ _) hi
    rw [e] at this
    have := MapL.lt (this : MapL w b _)
    omega
  have HRS := Lib.hid h.rises
  have HUB : Hid (∀ i, i ≤ 8 → (upB L i).length ≤ 1048576) := fun i hi => by have := upB_le (L := L) hi; rw [upB_all] at this; omega
  have HEND : Hid (∀ (w' : World) (v : Value) (A : List Ln), w'.ownsRow g 33 5 v A.length (encL A) → v ≠ .slice none 0 0 → A.Perm (upB L 8) → Below g w w' → ∃ g2 cap n, v = .slice (some ⟨g2, 0, none⟩) n cap ∧
      Calls Try.prog 29 #[.slice (some ⟨g2, 0, none⟩) n cap, .func (.func 30) #[] #[]] w' fun e w2 => e = .returned (.tuple #[]) ∧ R (.returned (.slice (some ⟨g2, 0, none⟩) n cap)) w2) := fun w' v A ho hv hp hb => by
    have hpl : A.Perm L := hp.trans (parts_perm L)
    have hal : A.length = L.length := hpl.length_eq
    rcases ho.2 with ⟨e, _⟩ | ⟨g2, cap, cur, e, hge, _⟩
    · exact absurd e hv
    · subst e
      refine ⟨g2, cap, A.length, rfl, ?_⟩
      refine (sortL_own rfl ho (by omega) h.rises hpl).mono ?_
      rintro e w2 ⟨he, h1, h2⟩
      refine ⟨he, ?_⟩
      rw [← hR]
      refine ⟨g2, cap, by rw [hal], ?_, ?_⟩
      · rw [hg, ← hal]; exact h1
      · rw [hg]
        exact hb.grown h2 (by have := hb.size; omega) (fun j hj => by cases hj; exact hge)
  have hlen0 : (L.length : Int) = ((L.length : Nat) : Int) := rfl
  obtain ⟨n0, hn0⟩ : ∃ n0, L.length = n0 := ⟨_, rfl⟩
  rw [hn0] at HLN hl
  have HZ := Lib.hid zero_link
  clear h hR hn0 hlen0
  go_enter Try.func20, Try.ntmps20
  go_wp2_with fail
  refine HLN.out.mono ?_
  rintro e w' ⟨rfl, rfl⟩
  go_wp2_with (first
    | (at_make; refine wpList_make_own _ rfl _ _ 28 rfl w.heap.size 33 i0 _ 5 Try.underlying28 hi hz0 hz1 _ _ _ n0 rfl rfl rfl (by rw [hz2]; omega) (by unfold maxLen; omega) (Nat.le_refl _) ?_; intro w1 hrow1 hg1))
  rw [hg] at hrow1
  have HB1 : Hid (Below g w w1) := (Below.refl _ _).grown hg1 (by omega) (fun j hj => by cases hj)
  have HR1 := Lib.hid hrow1
  clear hrow1 hg1
  go_loopg [3, 10] 8 (fun gk s3 s10 wx => ∃ (i : Nat) (A : List Ln), i + gk = 8 ∧ s10 = .int .i64 i ∧ Hid (wx.ownsRow g 33 5 s3 A.length (encL A)) ∧ Hid (s3 ≠ .slice none 0 0) ∧ Hid (A.Perm (upB L i)) ∧ Hid (Below g w wx))
  case atStart => exact ⟨0, [], rfl, rfl, HR1, (fun h => by cases h), List.Perm.refl _, HB1⟩
  case round =>
    obtain ⟨i, A, hig, rfl, HO, HV, HP, HB⟩ := hrel
    cases gk with
    | zero =>
      obtain rfl : i = 8 := by omega
      have hii : ¬ ((8 : Nat) : Int) < 8 := by omega
      obtain ⟨g2, cap, n, rfl, hc⟩ := HEND.out _ _ _ HO.out HV.out HP.out HB.out
      have HC := Lib.hid hc
      clear hc
      go_wp2_with (go_at_call 29; refine HC.out.mono ?_; rintro e w2 ⟨rfl, hr⟩)
      exact hr
    | succ go =>
      have hii : (i : Int) < 8 := by omega
      have HLI := Lib.hid (HLK.out wr i HB.out (by omega))
      have hmp := HMP.out wr i HB.out (by omega)
      have HPI := Lib.hid (HPL.out i (by omega))
      have hub := HUB.out (i + 1) (by omega)
      have hus := upB_succ L i
      have hpl := HP.out.length_eq
      have hrp := risesK_part HRS.out bkt i
      rw [hus, List.length_append] at hub
      have HUS := Lib.hid hus
      obtain ⟨M, hM⟩ : ∃ M, partT bkt L i = M := ⟨_, rfl⟩
      rw [hM] at hmp hub hrp HUS
      have HRP := Lib.hid hrp
      have hAM : A.length + M.length ≤ 1048576 := by omega
      have HAM := Lib.hid hAM
      clear hub hus hpl hM hrp hAM hg
      cases hmb : mbs i with
      | none =>
        rw [hmb] at hmp HLI
        obtain rfl : M = [] := hmp
        have hrg := run_range_nilMap (P := Try.prog) wr 48 9 33 Try.underlying48
        have hnx : ∀ ty, (Instr.next (.pointer (some ⟨wr.heap.size, 0, none⟩)) false ty).run Try.prog (wr.alloc (.mapIter none 0 #[] 0)) = _ := fun ty => run_next_nilMap _ ty 0 0 #[]
        have HO2 := Lib.hid (own_alloc HO.out (.mapIter none 0 #[] 0))
        have HB2 : Hid (Below g w (wr.alloc (.mapIter none 0 #[] 0))) := HB.out.alloc (by have := HB.out.size; have := HG.out; omega) _
        have HP2 : Hid (A.Perm (upB L (i + 1))) := by rw [HUS.out, List.append_nil]; exact HP.out
        clear hmb
        go_wp2_with fail
        refine HLI.out.mono ?_
        rintro e w' ⟨rfl, rfl⟩
        go_wp2
        go_loopg [3] 0 (fun gk s3 wx => gk = 0 ∧ s3 = u3 ∧ wx = wr.alloc (.mapIter none 0 #[] 0))
        case atStart => exact ⟨rfl, rfl, rfl⟩
        case round =>
          obtain ⟨rfl, rfl, rfl⟩ := hrel
          go_wp2
          go_roundg go
          case measure => omega
          case rel => exact ⟨i + 1, A, by omega, by go_num, HO2, HV, HP2, HB2⟩
      | some b =>
        rw [hmb] at hmp HLI HPI
        have hown : wr.ownsMap Try.prog 9 linkE b M.length (Md M) := hmp
        have hbl : b < g := HPI.out b rfl
        have HSZ := Lib.hid (md_size M)
        obtain ⟨S, hS⟩ : ∃ S, Maps.size (Md M) = S := ⟨_, rfl⟩
        have HSE := Lib.hid hS
        obtain ⟨wb, hwb⟩ : ∃ wb, wr.heap.size = wb := ⟨_, rfl⟩
        have HWB := Lib.hid hwb
        have HGB : Hid (g ≤ wb) := by have := HB.out.size; have := HG.out; show g ≤ wb; omega
        clear hmb hS hwb
        go_wp2_with fail
        refine HLI.out.mono ?_
        rintro e w' ⟨rfl, rfl⟩
        go_wp2_with (first
          | (at_range; refine wpList_range_own _ rfl _ 48 rfl 9 33 str_law Try.underlying48 linkE b M.length (Md M) rfl hown ?_; intro w0 hrg0 hg0 hs0))
        rw [HWB.out] at hrg0
        have HRG0 := Lib.hid hrg0
        have HG0 := Lib.hid hg0
        clear hrg0 hg0 hs0 hown
        go_frame
        rw [HWB.out]
        have HST : Hid (w0.ownsRow g 33 5 u3 (A ++ ([] : List Ky).map (linkT M)).length (encL (A ++ ([] : List Ky).map (linkT M))) ∧ Below g w w0) := by
          refine ⟨?_, HB.out.grown HG0.out (by have := HB.out.size; have := HG.out; omega) (fun j hj => by cases hj)⟩
          simp only [List.map_nil, List.append_nil]
          exact own_keep HO.out ((Below.refl _ _).grown HG0.out (Nat.le_refl _) (fun j hj => by cases hj))
        clear hmp
        go_loopg [3] (Maps.size (Md M)) (fun gk s3 wx => ∃ (left : Lit → Bool) (ss : List Ky), Hid (wx.ranges Try.prog 9 linkE b wb M.length (Md M) left gk) ∧ Hid (ss.length + gk ≤ M.length) ∧ Hid (wx.ownsRow g 33 5 s3 (A ++ ss.map (linkT M)).length (encL (A ++ ss.map (linkT M)))) ∧ Hid (s3 ≠ .slice none 0 0) ∧ Hid (Collected (Md M) left ss) ∧ Hid (Below g w wx))
        case atStart => exact ⟨_, [], HRG0, (by show 0 + _ ≤ _; rw [HSZ.out]; omega), HST.out.1, HV, Collected.start (Md M), HST.out.2⟩
        case round =>
          obtain ⟨left, ss, HRG, HCS, HRO, HNN, HCO, HNX⟩ := hrel
          go_wp2_with (first
            | (at_next; refine wpList_next_ranges _ rfl _ rfl 9 str_law linkE encStr Ln.agg (fun key kl hk => by obtain ⟨x, hx, _⟩ := Maps.keyOf_str Try.underlying9 hk; exact ⟨x, hx⟩) (fun v y hv => by obtain ⟨c, rfl, _⟩ := linkE_inv hv; exact ⟨c, rfl⟩) b wb M.length _ _ _ rfl HRG.out ?_ ?_))
          · intro hc0 hl0
            have HP2 : Hid ((A ++ ss.map (linkT M)).Perm (upB L (i + 1))) := by
              have hperm := HCO.out.perm HRG.out.owns str_law Try.underlying9 hl0
              rw [md_keys] at hperm
              rw [HUS.out]
              exact HP.out.append (got_all HRP.out hperm)
            clear hc0 hl0
            go_wp2
            go_roundg go
            case measure => omega
            case rel => exact ⟨i + 1, _, by omega, by go_num, HRO, HNN, HP2, HNX⟩
          · intro x c kl yd yp w2 cnt2 hkey hlk hv hat hrg2 hlt hg2 hs2 hen
            obtain ⟨x', ex, rfl, _⟩ := Maps.keyOf_str Try.underlying9 hkey
            obtain rfl : x = x' := encStr_inj ex
            obtain ⟨c', ec, ey⟩ := linkE_inv hv
            obtain rfl : c = c' := Ln.agg_inj ec
            have hcx : linkT M x = c := by
              have h1 := hat Ln.zero.dat
              rw [md_at] at h1
              cases ey
              have h2 : (linkT M x).dat = c.dat := by
                refine Eq.trans ?_ h1
                unfold linkT
                cases getT M x <;> rfl
              exact dat_inj h2
            have HCX := Lib.hid hcx
            have HCN := Lib.hid (HCO.out.step hlk hat)
            have HRG2 := Lib.hid hrg2
            have HLT := Lib.hid hlt
            have hne := row_ne_iter HRO.out HRG.out
            have hrow2 := HRO.out.kept hg2 (Or.inr hne.symm)
            have hwl := HNX.out.size
            have hgw := HG.out
            have hb2 : Below g w w2 := HNX.out.grown hg2 (by omega) (fun j hj => by cases hj; exact HGB.out)
            obtain ⟨g2, hgz⟩ : ∃ g2, w2.heap.size = g2 := ⟨_, rfl⟩
            have HG2 := Lib.hid hgz
            have hgg2 : g ≤ w2.heap.size := by have := hb2.size; omega
            have hni := row_ne_iter hrow2 hrg2
            have hnl : some b ≠ u3.ownBlock := row_ne_low hrow2 hbl
            have HAPP : Hid (∀ w4, Below g2 w2 w4 → ∃ v' w5, (Builtin.append_ #[28, 28] 28 #[u3, .slice (some ⟨w4.heap.size, 0, none⟩) 1 1]).run Try.prog (w4.alloc (.cells #[.string c.str, .int .u64 (c.id : Nat), .int .u64 (c.ver : Nat), .int .i64 c.line, .int .i64 c.cl] 33)) = .ok v' w5 ∧
                w5.ownsRow g 33 5 v' (A ++ (ss ++ [x]).map (linkT M)).length (encL (A ++ (ss ++ [x]).map (linkT M))) ∧ v' ≠ .slice none 0 0 ∧ w5.ranges Try.prog 9 linkE b wb M.length (Md M) (fun z => left z && !z.sameKey (.string x)) cnt2 ∧ Below g w w5) := fun w4 hb4 => by
              have hb4' : Below w2.heap.size w2 w4 := hgz.symm ▸ hb4
              have hrow4 := own_keep hrow2 hb4'
              have hrg4 := hrg2.kept (grown_below (row := none) hb4') (by simp) (by simp)
              obtain ⟨v', w5, e1, e2, e3, _⟩ := run_appL_one w4 g u3 (A ++ ss.map (linkT M)) c hrow4 (by have := HAM.out; have := HCS.out; simp; omega) (by have := hb4'.size; omega)
              have el : A ++ (ss ++ [x]).map (linkT M) = A ++ ss.map (linkT M) ++ [c] := by simp [HCX.out]
              refine ⟨v', w5, e1, by rw [el]; exact e2, fun e => ?_, hrg4.kept e3 hnl hni, (hb2.trans (hb4.mono (by omega))).grown e3 (by have := hb4'.size; omega) (fun j hj => own_ge hrow2 j hj)⟩
              obtain ⟨g5, cap5, e5, _⟩ := e2.form (by simp; omega)
              rw [e] at e5
              cases e5
            have HCS2 : Hid ((ss ++ [x]).length + cnt2 ≤ M.length) := by have := HCS.out; show (ss ++ [x]).length + _ ≤ _; simp; omega
            unfold Ln.agg at hen
            clear hs2 hg2 hrow2 hne hni hnl hwl hgw hb2 hgg2 hrg2 hgz hkey hlk hv hat ec ey hcx HNX HRO HRG HCS hlt
            generalize c.str = c0 at *
            generalize (c.id : Int) = c1 at *
            generalize (c.ver : Int) = c2 at *
            generalize c.line = c3 at *
            generalize c.cl = c4 at *
            go_wp2_with (first
              | ((with_reducible show wpList _ _ _ (⟨some 6, .alloc _, _, _, _, _⟩ :: _) _ _); refine wpList_alloc_var (o := ⟨some 6, _, _, _, _, _⟩) rfl 33 rfl g2 HG2.out _ HZ.out ?_; intro w3 H3 B3)
              | (((with_reducible show wpList _ _ _ (⟨none, .store _ (.tmp 6) _, _, _, _, _⟩ :: _) _ _); refine wpList_store_whole (o := ⟨none, .store 33 (.tmp 6) (.tmp 20), _, _, _, _⟩) rfl _ _ _ rfl rfl g2 #[.string c0, .int .u64 c1, .int .u64 c2, .int .i64 c3, .int .i64 c4] rfl rfl 33 _ H3.out size_link rfl (onesL _ _ _ _ _) ?_; intro w4 H4 B4); obtain ⟨c0', c1', c2', c3', c4'⟩ := cellsL H4.out; obtain ⟨v', w5, e1, e2, e3, e4, e5⟩ := HAPP.out w4 (B3.out.trans B4.out); have E1 := Lib.hid e1; have E2 := Lib.hid e2; have E3 := Lib.hid e3; have E4 := Lib.hid e4; have E5 := Lib.hid e5; clear e1 e2 e3 e4 e5)
              | (at_builtin; refine wpList_app rfl (.tmp 21) (.tmp 23) 28 rfl rfl rfl E1.out ?_)
              | fail)
            go_roundg cnt2
            case measure => exact HLT.out
            case rel => exact ⟨_, ss ++ [x], E4, HCS2, E2, E3, HCN, E5⟩
theorem tball_any {w : World} {p : Nat} {m : Nat → Option Nat} {L : List Ln} (h : Tb w p m L) (hl : L.length ≤ 1048576) :
    Calls Try.prog 20 #[.pointer (some ⟨p, 0, none⟩)] w (AllTo L w) := tball_of h.bks hl
theorem tblen_any {w : World} {p : Nat} {m : Nat → Option Nat} {L : List Ln} (h : Tb w p m L) (hl : L.length ≤ 1048576) :
    Calls Try.prog 19 #[.pointer (some ⟨p, 0, none⟩)] w fun e w' => e = .returned (.int .i64 (L.length : Nat)) ∧ w = w' := tblen_of h.bks hl

end Go.Proofs.Ytjehklmbgldfpaa
