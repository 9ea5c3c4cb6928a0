/-
Proved here: IdealWaits.
  Conditions: none.
-/
import Derived.Test.YtimpigponjkfkaaRows
import Derived.Test.YtimpigponjkfkaaPlay15
import Derived.IntWalk
import Derived.WalkSmall
import Derived.Deep.QuietTactic
import Derived.BigQuiet
import Derived.WalkKit
import Derived.ProofKit
import Derived.OpenShut
import Derived.ShutString
import Derived.ChangeOld
import Derived.Below
namespace Go.Proofs.Ytimpigponjkfkaa.idealWaits
open Go.ChangeShapes Go.WideShapes Go.ChangeAt Go.RowKit
open Go.ChangeMaps (open_string shut_string)
set_option linter.unusedVariables false

theorem own : ownKnob Try.prog.godebug = none := by kernel_rfl
theorem laidOut : laidOutB Try.prog = true := by kernel_rfl

set_option maxRecDepth 100000 in
set_option maxHeartbeats 6400000 in
theorem walk (A : Option Addr) (n c : Nat) (B : Option Addr) (m d : Nat) (L : List Kv) (Q : List ByteArray) (v : ByteArray) (w : World) (hL : RP.Is w A n c L) (hQ : RS.Is w B m d Q) (_ : v.size ≤ maxLen) :
    Calls Try.prog 10 #[.agg #[.slice A n c, .slice B m d], .string v] w fun e w' => e = .returned (.bool true) ∧ Below w.heap.size w w' := by
  obtain ⟨g, hg⟩ : ∃ g, w.heap.size = g := ⟨_, rfl⟩
  obtain ⟨w1, hw1⟩ : ∃ w1, w.alloc (.cells #[.slice A n c, .slice B m d] 29) = w1 := ⟨_, rfl⟩
  have HS1 : Hid (w1.heap[g]? = some (.cells #[.slice A n c, .slice B m d] 29 (0, 0))) := by rw [← hw1, ← hg]; exact heap_alloc_new w _
  have HB1 : Hid (Below g w w1) := by rw [← hw1, ← hg]; exact (Below.refl _ _).alloc (Nat.le_refl _) _
  obtain ⟨g5, hg5⟩ : ∃ z, w1.heap.size = z := ⟨_, rfl⟩
  have HGg5 := Lib.hid hg5
  have HLC : Hid (g < g5) := hg5 ▸ lt_of_heap HS1.out
  have HLG : Hid (∀ w2, Below g w w2 → Calls Try.prog 12 #[.agg #[.slice A n c, .slice B m d], .agg #[.int .i64 4, .string ⟨#[]⟩, .string v, .string ⟨#[]⟩, .slice none 0 0]] w2 (LargeTo w2 L Q [])) := fun w2 hb => large_any w2 A B n c m d L Q (enqC v) [] (hL.below (hg.symm ▸ hb)) (hQ.below (hg.symm ▸ hb)) (RC.is_nil _)
  have HLN : Hid (L.length = n) := hL.1
  have HQN : Hid (Q.length = m) := hQ.1
  have HAW := Lib.hid awake15_any
  have HZS := Lib.hid zero_shelf
  have HZA := Lib.hid zero_answer
  have HZC := Lib.hid zero_call
  have HEN : Hid (∀ w2, Shv w2 A n c B m d L Q → Fit L Q [] → decide ((400 : Int) < (v.size : Int)) = false → Calls Try.prog 18 #[.agg #[.slice A n c, .slice B m d], .agg #[.int .i64 4, .string ⟨#[]⟩, .string v, .string ⟨#[]⟩, .slice none 0 0]] w2 (AppS w2 L (Q ++ [v]) 0 false ⟨#[]⟩ [] [])) := fun w2 h hf hv => enq_any h (by have := hf.1; omega) (by have := hf.2.1; omega) v hv
  have HDE : Hid (∀ w2 A n c B m d L' Q', Shv w2 A n c B m d L' Q' → L'.length ≤ 60 → Q'.length ≤ 61 → Calls Try.prog 18 #[.agg #[.slice A n c, .slice B m d], .agg #[.int .i64 5, .string ⟨#[]⟩, .string ⟨#[]⟩, .string ⟨#[]⟩, .slice none 0 0]] w2 (AppS w2 L' Q'.tail 0 (anyQ Q') (firstQ Q') [] [])) := fun w2 A n c B m d L' Q' h h1 h2 => deq_any h (by omega) (by omega)
  have HSP : Hid (∀ w2 A B n c d l, l.length = n → RP.Row w2 A l → RP.Row w2 B l → Calls Try.prog 33 #[.slice A n c, .slice B n d] w2 fun e w' => e = .returned (.bool true) ∧ ∃ k, w' = w2.drewN k) := fun w2 A B n c d l h1 h2 h3 => samep_any w2 A B n c d l h1 h2 h3
  have HSS : Hid (∀ w2, Below g w w2 → Fit L Q [] → Shv w2 A n c B m d L Q) := fun w2 hb hf => (hf.shv hL hQ).below (hg.symm ▸ hb)
  rw [hg]
  clear hL hQ
  obtain ⟨p0, p1⟩ := cells2 HS1.out
  go_enter Try.func10, Try.ntmps10
  go_wp2_with (first
    | ((with_reducible show wpList _ _ _ (⟨some 5, .alloc _, _, _, _, _⟩ :: _) _ _); refine wpList_alloc_var (o := ⟨some 5, _, _, _, _, _⟩) rfl 24 rfl g5 HGg5.out _ HZC.out ?_; intro xa5 XA5 CA5)
    | ((with_reducible show wpList _ _ _ (⟨none, .store _ (.tmp 5) _, _, _, _, _⟩ :: _) _ _); refine wpList_store_whole (o := ⟨none, .store 24 (.tmp 5) (.tmp 15), _, _, _, _⟩) rfl _ _ _ rfl rfl g5 #[.int .i64 4, .string ⟨#[]⟩, .string v, .string ⟨#[]⟩, .slice none 0 0] rfl rfl 24 _ XA5.out size_call rfl (onesC _ _ _ _ _ _ _) ?_; intro x5 X5 CB5; have HBX5 : Hid (Below g5 w1 x5) := CA5.out.trans CB5.out; have HS2 := Lib.hid ((HBX5.out.block g HLC.out).trans HS1.out); obtain ⟨p0, p1⟩ := cells2 HS2.out; obtain ⟨c0, c1, c2, c3, c4⟩ := cells5 X5.out)
    | fail)
  refine (HLG.out x5 (HB1.out.trans (HBX5.out.mono (Nat.le_of_lt HLC.out)))).mono ?_
  clear hw1 hg hg5 p0 p1 c0 c1 c2 c3 c4
  rintro e w2 ⟨b, rfl, hf, hb2⟩
  have HB2 : Hid (Below g w w2) := (HB1.out.trans (HBX5.out.mono (Nat.le_of_lt HLC.out))).trans (hb2.mono (by have := lt_of_heap HS2.out; omega))
  have HS3 := Lib.hid ((hb2.block g (lt_of_heap HS2.out)).trans HS2.out)
  have HC3 := Lib.hid ((hb2.block g5 (lt_of_heap X5.out)).trans X5.out)
  clear hb2
  obtain ⟨p0, p1⟩ := cells2 HS3.out
  obtain ⟨c0, c1, c2, c3, c4⟩ := cells5 HC3.out
  have HFINA : Hid (∀ w3, Below w2.heap.size w2 w3 → Below g w w3) := fun w3 hb => HB2.out.trans (hb.mono (by have := lt_of_heap HS3.out; omega))
  cases b with
  | true =>
    clear hf
    go_wp2_with fail
    refine (HAW.out w2).mono ?_
    rintro e w3 ⟨rfl, hb3⟩
    have HB3 := Lib.hid (HFINA.out _ hb3)
    clear hb3
    go_wp2
    go_ret
    exact ⟨rfl, HB3.out⟩
  | false =>
    have HF := Lib.hid (hf rfl)
    clear hf
    cases hz : decide ((400 : Int) < (v.size : Int)) with
    | true =>
      go_wp2_with fail
      refine (HAW.out w2).mono ?_
      rintro e w3 ⟨rfl, hb3⟩
      have HB3 := Lib.hid (HFINA.out _ hb3)
      clear hb3
      go_wp2
      go_ret
      exact ⟨rfl, HB3.out⟩
    | false =>
      have HV := Lib.hid hz
      go_wp2_with fail
      refine (HEN.out w2 (HSS.out w2 HB2.out HF.out) HF.out HV.out).mono ?_
      clear hz p0 p1 c0 c1 c2 c3 c4
      rintro e w3 ⟨A6, n6, e6, B6, m6, d6, A7, n7, e7, B7, m7, d7, rfl, ho, -, -, -, -, -, hb3⟩
      have HO3 := Lib.hid ho
      have HB3 := Lib.hid (HFINA.out _ hb3)
      have HS4 := Lib.hid ((hb3.block g (lt_of_heap HS3.out)).trans HS3.out)
      have HSZ : Hid (w2.heap.size ≤ w3.heap.size) := hb3.size
      have HSG : Hid (g < w2.heap.size) := lt_of_heap HS3.out
      clear ho hb3
      obtain rfl : n6 = n := HO3.out.n1.symm.trans HLN.out
      have hm6 : m6 = m + 1 := by have := HO3.out.n2; rw [List.length_append, HQN.out] at this; exact this.symm
      have HM6 := Lib.hid hm6
      have hmn : ((m6 : Int) != (m : Int) + 1) = false := by rw [hm6]; simp
      have hmb : (m : Int) ≤ 60 := by have := HF.out.2.1; have := HQN.out; omega
      clear hm6
      obtain ⟨g6, hg6⟩ : ∃ z, w3.heap.size = z := ⟨_, rfl⟩; have HGg6 := Lib.hid hg6; clear hg6
      go_wp2_with (first
        | ((with_reducible show wpList _ _ _ (⟨some 6, .alloc _, _, _, _, _⟩ :: _) _ _); refine wpList_alloc_var (o := ⟨some 6, _, _, _, _, _⟩) rfl 29 rfl g6 HGg6.out _ HZS.out ?_; intro xa6 XA6 CA6; obtain ⟨h6, hh6⟩ : ∃ z, xa6.heap.size = z := ⟨_, rfl⟩; have HGh6 := Lib.hid hh6; have HL6 : Hid (g6 < h6) := (by rw [← hh6]; exact lt_of_heap XA6.out); clear hh6)
        | ((with_reducible show wpList _ _ _ (⟨some 7, .alloc _, _, _, _, _⟩ :: _) _ _); refine wpList_alloc_var (o := ⟨some 7, _, _, _, _, _⟩) rfl 40 rfl h6 HGh6.out _ HZA.out ?_; intro xb6 XB6 CB6; have XAB6 := Lib.hid ((CB6.out.block g6 HL6.out).trans XA6.out))
        | ((with_reducible show wpList _ _ _ (⟨none, .store _ (.tmp 6) _, _, _, _, _⟩ :: _) _ _); refine wpList_store_only (o := ⟨none, .store 29 (.tmp 6) (.tmp 29), _, _, _, _⟩) rfl _ _ _ rfl rfl g6 #[.slice A6 n6 e6, .slice B6 m6 d6] rfl rfl 29 _ XAB6.out size_shelf rfl (onesV _ _ _ _ _ _) ?_; intro xc6 XC6 TC6; have XBC6 := Lib.hid ((TC6.out.block h6 (fun e => Nat.lt_irrefl _ (e ▸ HL6.out)) (fun e => Nat.lt_irrefl _ (e ▸ HL6.out)) (lt_of_heap XB6.out)).trans XB6.out))
        | ((with_reducible show wpList _ _ _ (⟨none, .store _ (.tmp 7) _, _, _, _, _⟩ :: _) _ _); refine wpList_store_only (o := ⟨none, .store 40 (.tmp 7) (.tmp 30), _, _, _, _⟩) rfl _ _ _ rfl rfl h6 #[.int .i64 0, .bool false, .string ⟨#[]⟩, .slice A7 n7 e7, .slice B7 m7 d7, .int .u64 0] rfl rfl 40 _ XBC6.out size_answer rfl (onesA _ _ _ _ _ _ _ _ _ _) ?_; intro x6 Y6 TD6; have X6 := Lib.hid ((TD6.out.block g6 (fun e => Nat.lt_irrefl _ (e ▸ HL6.out)) (fun e => Nat.lt_irrefl _ (e ▸ HL6.out)) (lt_of_heap XC6.out)).trans XC6.out); have HBX6 : Hid (Below g6 w3 x6) := xa_below HL6.out CA6.out CB6.out TC6.out TD6.out (lt_of_heap XA6.out); have HS5 := Lib.hid ((HBX6.out.block g (by have := HSZ.out; have := HSG.out; have := HGg6.out; omega)).trans HS4.out); obtain ⟨p0, p1⟩ := cells2 HS5.out; obtain ⟨x0, x1⟩ := cells2 X6.out; obtain ⟨a0, a1, a2, a3, a4, a5⟩ := cells6 Y6.out)
        | fail)
      have HB6 : Hid (Below g w x6) := HB3.out.trans (HBX6.out.mono (by have := HSZ.out; have := HSG.out; have := HGg6.out; omega))
      have HO6 := Lib.hid ((HO3.out.below (HGg6.out.symm ▸ HBX6.out)).mono (Nat.zero_le _))
      have HLL : Hid (L.length ≤ 60) := HF.out.1
      have HQL : Hid (Q.length ≤ 60) := HF.out.2.1
      have HGG : Hid (g < g6) := (by have := HSZ.out; have := HSG.out; have := HGg6.out; omega : g < g6)
      have HSV6 := Lib.hid (HSS.out x6 HB6.out HF.out)
      refine (HSP.out x6 _ _ n6 _ _ L HLN.out ((HO6.out.shv (by have := HLL.out; omega) (by rw [List.length_append]; have := HQL.out; simp; omega)).r1) HSV6.out.r1).mono ?_
      clear p0 p1 x0 x1 a0 a1 a2 a3 a4 a5
      rintro e w7 ⟨rfl, k7, rfl⟩
      have HB7 : Hid (Below g w (x6.drewN k7)) := below_drewN HB6.out k7
      have HX7 : Hid ((x6.drewN k7).heap[g6]? = _) := X6
      have HS7 : Hid ((x6.drewN k7).heap[g]? = _) := HS5
      have HO7 : Hid (OwnS (x6.drewN k7) 0 A6 n6 e6 B6 m6 d6 L ((Q ++ [v]).drop 0)) := HO6.out.below (below_drewN (Below.refl _ _) k7)
      go_wp2_with fail
      go_loopg [8] (m + 1) (fun gk s8 wx => ∃ (i : Nat) (A8 : Option Addr) (c8 : Nat) (B8 : Option Addr) (m8 d8 : Nat), i + gk = m + 1 ∧ s8 = .int .i64 i ∧ Hid (wx.heap[g6]? = some (.cells #[.slice A8 n6 c8, .slice B8 m8 d8] 29 (0, 0))) ∧ Hid (wx.heap[g]? = some (.cells #[.slice A n6 c, .slice B m d] 29 (0, 0))) ∧ Hid (OwnS wx 0 A8 n6 c8 B8 m8 d8 L ((Q ++ [v]).drop i)) ∧ Hid (Below g w wx))
      case atStart => exact ⟨0, A6, e6, B6, m6, d6, by omega, rfl, HX7, HS7, HO7, HB7⟩
      case round =>
        obtain ⟨i, A8, c8, B8, m8, d8, hig, rfl, HX8, HS8, HO8, HB8⟩ := hrel
        cases gk with
        | zero =>
          obtain rfl : i = m + 1 := by omega
          have hii : ¬ ((m : Int) + 1) ≤ (m : Int) := by omega
          have hv8 := Lib.hid (HO8.out.shv (by have := HLL.out; omega) (by rw [List.length_drop, List.length_append]; have := HQL.out; simp; omega))
          have hnil : (Q ++ [v]).drop (m + 1) = [] := List.drop_eq_nil_of_le (by rw [List.length_append, HQN.out]; simp)
          rw [hnil] at HO8 hv8
          clear hnil
          obtain rfl : m8 = 0 := by have := HO8.out.n2; simpa using this.symm
          obtain ⟨p0, p1⟩ := cells2 HS8.out
          obtain ⟨x0, x1⟩ := cells2 HX8.out
          go_wp2_with fail
          refine (HDE.out wr _ _ _ _ _ _ L _ hv8.out HLL.out (by simp)).mono ?_
          clear p0 p1 x0 x1
          rintro e w9 ⟨A9, n9, c9, B9, m9, d9, A10, n10, c10, B10, m10, d10, rfl, -, -, -, -, -, -, hb9⟩
          rw [show anyQ [] = false from rfl, show firstQ [] = ⟨#[]⟩ from rfl]
          have HB9 : Hid (Below g w w9) := HB8.out.trans (hb9.mono (by have := lt_of_heap HS8.out; omega))
          have HX9 := Lib.hid ((hb9.block g6 (lt_of_heap HX8.out)).trans HX8.out)
          have HLX : Hid (g6 < w9.heap.size) := Nat.lt_of_lt_of_le (lt_of_heap HX8.out) hb9.size
          clear hb9
          obtain ⟨g9, hg9⟩ : ∃ z, w9.heap.size = z := ⟨_, rfl⟩; have HGg9 := Lib.hid hg9; clear hg9
          have HG69 : Hid (g6 < g9) := HGg9.out ▸ HLX.out
          have hze : ((⟨#[]⟩ : ByteArray).toList == (⟨#[]⟩ : ByteArray).toList) = true := by simp
          go_wp2_with (first
            | ((with_reducible show wpList _ _ _ (⟨some 12, .alloc _, _, _, _, _⟩ :: _) _ _); refine wpList_alloc_var (o := ⟨some 12, _, _, _, _, _⟩) rfl 29 rfl g9 HGg9.out _ HZS.out ?_; intro xa9 XA9 CA9; obtain ⟨h9, hh9⟩ : ∃ z, xa9.heap.size = z := ⟨_, rfl⟩; have HGh9 := Lib.hid hh9; have HL9 : Hid (g9 < h9) := (by rw [← hh9]; exact lt_of_heap XA9.out); clear hh9)
            | ((with_reducible show wpList _ _ _ (⟨some 13, .alloc _, _, _, _, _⟩ :: _) _ _); refine wpList_alloc_var (o := ⟨some 13, _, _, _, _, _⟩) rfl 40 rfl h9 HGh9.out _ HZA.out ?_; intro xb9 XB9 CB9; have XAB9 := Lib.hid ((CB9.out.block g9 HL9.out).trans XA9.out))
            | ((with_reducible show wpList _ _ _ (⟨none, .store _ (.tmp 12) _, _, _, _, _⟩ :: _) _ _); refine wpList_store_only (o := ⟨none, .store 29 (.tmp 12) (.tmp 90), _, _, _, _⟩) rfl _ _ _ rfl rfl g9 #[.slice A9 n9 c9, .slice B9 m9 d9] rfl rfl 29 _ XAB9.out size_shelf rfl (onesV _ _ _ _ _ _) ?_; intro xc9 XC9 TC9; have XBC9 := Lib.hid ((TC9.out.block h9 (fun e => Nat.lt_irrefl _ (e ▸ HL9.out)) (fun e => Nat.lt_irrefl _ (e ▸ HL9.out)) (lt_of_heap XB9.out)).trans XB9.out))
            | ((with_reducible show wpList _ _ _ (⟨none, .store _ (.tmp 13) _, _, _, _, _⟩ :: _) _ _); refine wpList_store_only (o := ⟨none, .store 40 (.tmp 13) (.tmp 91), _, _, _, _⟩) rfl _ _ _ rfl rfl h9 #[.int .i64 0, .bool false, .string ⟨#[]⟩, .slice A10 n10 c10, .slice B10 m10 d10, .int .u64 0] rfl rfl 40 _ XBC9.out size_answer rfl (onesA _ _ _ _ _ _ _ _ _ _) ?_; intro x9 Y9 TD9; have X9 := Lib.hid ((TD9.out.block g9 (fun e => Nat.lt_irrefl _ (e ▸ HL9.out)) (fun e => Nat.lt_irrefl _ (e ▸ HL9.out)) (lt_of_heap XC9.out)).trans XC9.out); have HBX9 : Hid (Below g9 w9 x9) := xa_below HL9.out CA9.out CB9.out TC9.out TD9.out (lt_of_heap XA9.out); have HXa := Lib.hid ((HBX9.out.block g6 HG69.out).trans HX9.out); obtain ⟨x0, x1⟩ := cells2 HXa.out; obtain ⟨z0, z1, z2, z3, z4, z5⟩ := cells6 Y9.out)
            | fail)
          have HBa : Hid (Below g w x9) := HB9.out.trans (HBX9.out.mono (Nat.le_of_lt (Nat.lt_trans HGG.out HG69.out)))
          refine (HAW.out x9).mono ?_
          rintro e w11 ⟨rfl, hb11⟩
          have HB11 : Hid (Below g w w11) := HBa.out.trans (hb11.mono (Nat.le_trans (Nat.le_of_lt (Nat.lt_trans HGG.out HG69.out)) (Nat.le_of_lt (lt_of_heap X9.out))))
          clear hb11
          go_wp2
          go_ret
          exact ⟨rfl, HB11.out⟩
        | succ gk =>
          have hii : (i : Int) ≤ (m : Int) := by omega
          have hv8 := Lib.hid (HO8.out.shv (by have := HLL.out; omega) (by rw [List.length_drop, List.length_append]; have := HQL.out; simp; omega))
          have hlt : i < (Q ++ [v]).length := by rw [List.length_append, HQN.out]; simp; omega
          have hdr : (Q ++ [v]).drop i = (Q ++ [v])[i] :: (Q ++ [v]).drop (i + 1) := List.drop_eq_getElem_cons hlt
          obtain ⟨u, hu⟩ : ∃ u, (Q ++ [v])[i] = u := ⟨_, rfl⟩
          rw [hu] at hdr
          have HAN : Hid (anyQ ((Q ++ [v]).drop i) = true) := by show _ = _; rw [hdr]; rfl
          have HFI : Hid (firstQ ((Q ++ [v]).drop i) = u) := by show _ = _; rw [hdr]; rfl
          clear hdr
          have huu : (u.toList == u.toList) = true := by simp
          obtain ⟨p0, p1⟩ := cells2 HS8.out
          obtain ⟨x0, x1⟩ := cells2 HX8.out
          rcases Nat.lt_or_ge i m with him | him
          · have hil : i < Q.length := by rw [HQN.out]; exact him
            have hiu : Q[i] = u := by rw [← hu, List.getElem_append_left hil]
            have HQU : Hid (Q[i]? = some u) := (List.getElem?_eq_getElem hil).trans (congrArg some hiu)
            have hij : (i : Int) < (m : Int) := by omega
            obtain ⟨bq, oq, rfl, _, _⟩ := textAt (HSS.out wr HB8.out HF.out).r2 HQU.out
            clear hu hil hiu hlt him
            go_wp2_with fail
            refine (HDE.out wr _ _ _ _ _ _ L _ hv8.out HLL.out (by rw [List.length_drop, List.length_append]; have := HQL.out; simp; omega)).mono ?_
            clear p0 p1 x0 x1
            rintro e w9 ⟨A9, n9, c9, B9, m9, d9, A10, n10, c10, B10, m10, d10, rfl, ho, -, -, -, -, -, hb9⟩
            rw [HAN.out, HFI.out]
            have HO9 := Lib.hid ho
            have HB9 : Hid (Below g w w9) := HB8.out.trans (hb9.mono (by have := lt_of_heap HS8.out; omega))
            have HS9 := Lib.hid ((hb9.block g (lt_of_heap HS8.out)).trans HS8.out)
            have HX9 := Lib.hid ((hb9.block g6 (lt_of_heap HX8.out)).trans HX8.out)
            have HSZ9 : Hid (wr.heap.size ≤ w9.heap.size) := hb9.size
            have HLX : Hid (g6 < wr.heap.size) := lt_of_heap HX8.out
            clear ho hb9
            obtain rfl : n9 = n6 := HO9.out.n1.symm.trans HLN.out
            obtain ⟨g9, hg9⟩ : ∃ z, w9.heap.size = z := ⟨_, rfl⟩; have HGg9 := Lib.hid hg9; clear hg9
            have HG69 : Hid (g6 < g9) := (by have := HLX.out; have := HSZ9.out; have := HGg9.out; omega : g6 < g9)
            go_wp2_with (first
              | ((with_reducible show wpList _ _ _ (⟨some 9, .alloc _, _, _, _, _⟩ :: _) _ _); refine wpList_alloc_var (o := ⟨some 9, _, _, _, _, _⟩) rfl 29 rfl g9 HGg9.out _ HZS.out ?_; intro xa9 XA9 CA9; obtain ⟨h9, hh9⟩ : ∃ z, xa9.heap.size = z := ⟨_, rfl⟩; have HGh9 := Lib.hid hh9; have HL9 : Hid (g9 < h9) := (by rw [← hh9]; exact lt_of_heap XA9.out); clear hh9)
              | ((with_reducible show wpList _ _ _ (⟨some 10, .alloc _, _, _, _, _⟩ :: _) _ _); refine wpList_alloc_var (o := ⟨some 10, _, _, _, _, _⟩) rfl 40 rfl h9 HGh9.out _ HZA.out ?_; intro xb9 XB9 CB9; have XAB9 := Lib.hid ((CB9.out.block g9 HL9.out).trans XA9.out))
              | ((with_reducible show wpList _ _ _ (⟨none, .store _ (.tmp 9) _, _, _, _, _⟩ :: _) _ _); refine wpList_store_only (o := ⟨none, .store 29 (.tmp 9) (.tmp 63), _, _, _, _⟩) rfl _ _ _ rfl rfl g9 #[.slice A9 n9 c9, .slice B9 m9 d9] rfl rfl 29 _ XAB9.out size_shelf rfl (onesV _ _ _ _ _ _) ?_; intro xc9 XC9 TC9; have XBC9 := Lib.hid ((TC9.out.block h9 (fun e => Nat.lt_irrefl _ (e ▸ HL9.out)) (fun e => Nat.lt_irrefl _ (e ▸ HL9.out)) (lt_of_heap XB9.out)).trans XB9.out))
              | ((with_reducible show wpList _ _ _ (⟨none, .store _ (.tmp 10) _, _, _, _, _⟩ :: _) _ _); refine wpList_store_only (o := ⟨none, .store 40 (.tmp 10) (.tmp 64), _, _, _, _⟩) rfl _ _ _ rfl rfl h9 #[.int .i64 0, .bool true, .string u, .slice A10 n10 c10, .slice B10 m10 d10, .int .u64 0] rfl rfl 40 _ XBC9.out size_answer rfl (onesA _ _ _ _ _ _ _ _ _ _) ?_; intro x9 Y9 TD9; have X9 := Lib.hid ((TD9.out.block g9 (fun e => Nat.lt_irrefl _ (e ▸ HL9.out)) (fun e => Nat.lt_irrefl _ (e ▸ HL9.out)) (lt_of_heap XC9.out)).trans XC9.out); have HBX9 : Hid (Below g9 w9 x9) := xa_below HL9.out CA9.out CB9.out TC9.out TD9.out (lt_of_heap XA9.out); have HSa := Lib.hid ((HBX9.out.block g (Nat.lt_trans HGG.out HG69.out)).trans HS9.out); have HXa := Lib.hid ((HBX9.out.block g6 HG69.out).trans HX9.out); have HBa : Hid (Below g w x9) := HB9.out.trans (HBX9.out.mono (Nat.le_of_lt (Nat.lt_trans HGG.out HG69.out))); obtain ⟨p0, p1⟩ := cells2 HSa.out; obtain ⟨y0, y1⟩ := cells2 X9.out; obtain ⟨z0, z1, z2, z3, z4, z5⟩ := cells6 Y9.out; obtain ⟨bq2, oq2, eq2, _, q0⟩ := textAt (HSS.out x9 HBa.out HF.out).r2 HQU.out; cases eq2)
              | ((with_reducible show wpList _ _ _ (⟨none, .store _ (.tmp 6) _, _, _, _, _⟩ :: _) _ _); refine wpList_store_only (o := ⟨none, .store 29 (.tmp 6) (.tmp 85), _, _, _, _⟩) rfl _ _ _ rfl rfl g6 #[.slice A9 n9 c9, .slice B9 m9 d9] rfl rfl 29 _ HXa.out size_shelf rfl (onesV _ _ _ _ _ _) ?_; intro xz XZ TZ)
              | fail)
            have HBZ : Hid (Below g w xz) := HBa.out.trans (turn_below TZ.out (Nat.le_of_lt HGG.out) (Nat.le_of_lt (lt_of_heap HSa.out)))
            have HSb := Lib.hid ((TZ.out.block g (Nat.ne_of_lt HGG.out) (Nat.ne_of_lt HGG.out) (lt_of_heap HSa.out)).trans HSa.out)
            have HOb : Hid (OwnS xz 0 A9 n9 c9 B9 m9 d9 L ((Q ++ [v]).drop (i + 1))) := by
              have h1 := ((HO9.out.below (HGg9.out.symm ▸ HBX9.out)).turn TZ.out HLX.out).mono (Nat.zero_le _)
              rwa [List.tail_drop] at h1
            go_roundg gk
            case measure => omega
            case rel => exact ⟨i + 1, A9, c9, B9, m9, d9, by omega, by go_num, XZ, HSb, HOb, HBZ⟩
          · obtain rfl : i = m := by omega
            have hij : ¬ (i : Int) < (i : Int) := by omega
            obtain rfl : v = u := by rw [← hu, List.getElem_append_right (by rw [HQN.out]; exact Nat.le_refl _)]; simp [HQN.out]
            clear hu hlt him
            go_wp2_with fail
            refine (HDE.out wr _ _ _ _ _ _ L _ hv8.out HLL.out (by rw [List.length_drop, List.length_append]; have := HQL.out; simp; omega)).mono ?_
            clear p0 p1 x0 x1
            rintro e w9 ⟨A9, n9, c9, B9, m9, d9, A10, n10, c10, B10, m10, d10, rfl, ho, -, -, -, -, -, hb9⟩
            rw [HAN.out, HFI.out]
            have HO9 := Lib.hid ho
            have HB9 : Hid (Below g w w9) := HB8.out.trans (hb9.mono (by have := lt_of_heap HS8.out; omega))
            have HS9 := Lib.hid ((hb9.block g (lt_of_heap HS8.out)).trans HS8.out)
            have HX9 := Lib.hid ((hb9.block g6 (lt_of_heap HX8.out)).trans HX8.out)
            have HSZ9 : Hid (wr.heap.size ≤ w9.heap.size) := hb9.size
            have HLX : Hid (g6 < wr.heap.size) := lt_of_heap HX8.out
            clear ho hb9
            obtain rfl : n9 = n6 := HO9.out.n1.symm.trans HLN.out
            obtain ⟨g9, hg9⟩ : ∃ z, w9.heap.size = z := ⟨_, rfl⟩; have HGg9 := Lib.hid hg9; clear hg9
            have HG69 : Hid (g6 < g9) := (by have := HLX.out; have := HSZ9.out; have := HGg9.out; omega : g6 < g9)
            go_wp2_with (first
              | ((with_reducible show wpList _ _ _ (⟨some 9, .alloc _, _, _, _, _⟩ :: _) _ _); refine wpList_alloc_var (o := ⟨some 9, _, _, _, _, _⟩) rfl 29 rfl g9 HGg9.out _ HZS.out ?_; intro xa9 XA9 CA9; obtain ⟨h9, hh9⟩ : ∃ z, xa9.heap.size = z := ⟨_, rfl⟩; have HGh9 := Lib.hid hh9; have HL9 : Hid (g9 < h9) := (by rw [← hh9]; exact lt_of_heap XA9.out); clear hh9)
              | ((with_reducible show wpList _ _ _ (⟨some 10, .alloc _, _, _, _, _⟩ :: _) _ _); refine wpList_alloc_var (o := ⟨some 10, _, _, _, _, _⟩) rfl 40 rfl h9 HGh9.out _ HZA.out ?_; intro xb9 XB9 CB9; have XAB9 := Lib.hid ((CB9.out.block g9 HL9.out).trans XA9.out))
              | ((with_reducible show wpList _ _ _ (⟨none, .store _ (.tmp 9) _, _, _, _, _⟩ :: _) _ _); refine wpList_store_only (o := ⟨none, .store 29 (.tmp 9) (.tmp 63), _, _, _, _⟩) rfl _ _ _ rfl rfl g9 #[.slice A9 n9 c9, .slice B9 m9 d9] rfl rfl 29 _ XAB9.out size_shelf rfl (onesV _ _ _ _ _ _) ?_; intro xc9 XC9 TC9; have XBC9 := Lib.hid ((TC9.out.block h9 (fun e => Nat.lt_irrefl _ (e ▸ HL9.out)) (fun e => Nat.lt_irrefl _ (e ▸ HL9.out)) (lt_of_heap XB9.out)).trans XB9.out))
              | ((with_reducible show wpList _ _ _ (⟨none, .store _ (.tmp 10) _, _, _, _, _⟩ :: _) _ _); refine wpList_store_only (o := ⟨none, .store 40 (.tmp 10) (.tmp 64), _, _, _, _⟩) rfl _ _ _ rfl rfl h9 #[.int .i64 0, .bool true, .string v, .slice A10 n10 c10, .slice B10 m10 d10, .int .u64 0] rfl rfl 40 _ XBC9.out size_answer rfl (onesA _ _ _ _ _ _ _ _ _ _) ?_; intro x9 Y9 TD9; have X9 := Lib.hid ((TD9.out.block g9 (fun e => Nat.lt_irrefl _ (e ▸ HL9.out)) (fun e => Nat.lt_irrefl _ (e ▸ HL9.out)) (lt_of_heap XC9.out)).trans XC9.out); have HBX9 : Hid (Below g9 w9 x9) := xa_below HL9.out CA9.out CB9.out TC9.out TD9.out (lt_of_heap XA9.out); have HSa := Lib.hid ((HBX9.out.block g (Nat.lt_trans HGG.out HG69.out)).trans HS9.out); have HXa := Lib.hid ((HBX9.out.block g6 HG69.out).trans HX9.out); have HBa : Hid (Below g w x9) := HB9.out.trans (HBX9.out.mono (Nat.le_of_lt (Nat.lt_trans HGG.out HG69.out))); obtain ⟨p0, p1⟩ := cells2 HSa.out; obtain ⟨y0, y1⟩ := cells2 X9.out; obtain ⟨z0, z1, z2, z3, z4, z5⟩ := cells6 Y9.out)
              | ((with_reducible show wpList _ _ _ (⟨none, .store _ (.tmp 6) _, _, _, _, _⟩ :: _) _ _); refine wpList_store_only (o := ⟨none, .store 29 (.tmp 6) (.tmp 85), _, _, _, _⟩) rfl _ _ _ rfl rfl g6 #[.slice A9 n9 c9, .slice B9 m9 d9] rfl rfl 29 _ HXa.out size_shelf rfl (onesV _ _ _ _ _ _) ?_; intro xz XZ TZ)
              | fail)
            have HBZ : Hid (Below g w xz) := HBa.out.trans (turn_below TZ.out (Nat.le_of_lt HGG.out) (Nat.le_of_lt (lt_of_heap HSa.out)))
            have HSb := Lib.hid ((TZ.out.block g (Nat.ne_of_lt HGG.out) (Nat.ne_of_lt HGG.out) (lt_of_heap HSa.out)).trans HSa.out)
            have HOb : Hid (OwnS xz 0 A9 n9 c9 B9 m9 d9 L ((Q ++ [v]).drop (i + 1))) := by
              have h1 := ((HO9.out.below (HGg9.out.symm ▸ HBX9.out)).turn TZ.out HLX.out).mono (Nat.zero_le _)
              rwa [List.tail_drop] at h1
            go_roundg gk
            case measure => omega
            case rel => exact ⟨i + 1, A9, c9, B9, m9, d9, by omega, by go_num, XZ, HSb, HOb, HBZ⟩

set_option maxRecDepth 100000 in
theorem lifted (os : Os) (started : os.Started) (H : Type) (enc : TypeId × Value → H) :
    ReturnsInHanded {} Try.checked os 10 .any (Rows.idealWaitsSpec.pre6 enc Try.prog Try.f10 Rows.idealWaitsRow.domain false) (Rows.idealWaitsSpec.post enc Try.prog Try.f10 false true false false) := by
  refine returnsInHanded_of_change (C := Try.checked) own started (by kernel_rfl) Try.func10
    (ChangeSpec.witness6 (enc := enc) (C := Try.checked) false ⟨#[], #[.agg #[.slice none 0 0, .slice none 0 0], .string ByteArray.empty], []⟩ 8 (by kernel_rfl) (by kernel_rfl) (by kernel_rfl) (by kernel_rfl)) ?_
  intro W base args ds gs before hval0 hW hcnd _
  have hval : ∀ (j : Nat) t v, Try.f10.params[j]? = some t → args[j]? = some v → Value.okWide Try.prog W .any base t v := hval0
  have hW' := hW
  obtain ⟨p, q, hA0, hV, rfl, hfz, hnd⟩ := hW
  have hA : DataW.TrodAll enc Try.prog W 0 (fun _ => true) true Try.f10.params.toList args.toList ds p := hA0
  rw [Try.params10] at hA hval
  obtain ⟨v0, vs0, d0, ds0, p0, q0, hargs, rfl, rfl, h0, r0⟩ := trodAll_cons hA
  obtain ⟨v1, vs1, d1, ds1, p1, q1, rfl, rfl, rfl, h1, r1⟩ := trodAll_cons r0
  obtain ⟨rfl, rfl, rfl⟩ := trodAll_nil r1
  obtain rfl : args = #[v0, v1] := by cases args; simp_all
  obtain ⟨rfl, rfl⟩ := trodVars_none hV
  obtain ⟨A0, n0, c0, B0, m0, e0, rfl, L0, Q0, w0, u0⟩ := isShelf_of (hval 0 29 v0 rfl rfl) h0
  have k0 := h0
  have lt0 : ∀ x ∈ p0, x.block < W.heap.size := by obtain ⟨m, hm⟩ := k0; exact DataW.trod_lt m _ _ _ hm
  obtain ⟨a1, rfl, rfl, rfl, w1⟩ := open_string Try.underlying9 (hval 1 9 v1 rfl rfl) h1
  clear hA0 hval0
  refine (walk A0 n0 c0 B0 m0 e0 L0 Q0 a1 W w0 u0 w1).mono fun e W' ⟨he, bel⟩ => ?_
  subst he
  exact ⟨_, rfl, _, _, _, [], _, [], hW', trodAll_mk1 (shut_bool Try.underlying4 _), (trodAll_cons_mk (Below.trod laidOut (by kernel_rfl) (of_decide_eq_true (by kernel_rfl)) k0 bel lt0) (trodAll_cons_mk (shut_string Try.underlying9 w1) trodAll_mk0)), rfl, bel.frame _, fun h => by cases h⟩

theorem over : Rows.idealWaitsRow.holds Try.pinned (OpenSpec.ofChange Rows.idealWaitsSpec) :=
  OpenClaim.holds_of_wide 10 Try.f10 rfl rfl rfl rfl rfl rfl rfl ⟨rfl, rfl, rfl, rfl, rfl⟩ rfl rfl rfl rfl rfl (by kernel_rfl) Try.func10 (by kernel_rfl)
    (of_decide_eq_true (by kernel_rfl)) (by unfold Func.isWrapper; first | (rw [if_pos (by decide +kernel)]; kernel_rfl) | (rw [if_neg (by decide +kernel)]; exact ⟨rfl, rfl⟩))
    (fun os started H enc _ => lifted os started H enc)

theorem proved : Rows.IdealWaitsSaid := over
#print axioms proved
end Go.Proofs.Ytimpigponjkfkaa.idealWaits
