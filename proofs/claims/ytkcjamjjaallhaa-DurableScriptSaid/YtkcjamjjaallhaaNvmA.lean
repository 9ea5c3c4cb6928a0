/-
  Proved here: what package nvm's find, stop, isOnWay, isLoose and a counter's Add answer and leave of a device that lies in memory.
  Conditions: a device of at most 258 lines.
-/
import Derived.Test.YtkcjamjjaallhaaNvmMath
import Derived.Deep.QuietTactic
import Derived.BigQuiet
import Derived.IntWalk
import Derived.WalkSmall
import Derived.ChangeKeysEq
import Derived.Laws.LoneSync
namespace Go.Proofs.Ytkcjamjjaallhaa
open Go Go.RowKit

theorem size_content : (Try.prog.info? 105).map (·.size) = some 64 := by kernel_rfl
theorem size_bool : (Try.prog.info? 4).map (·.size) = some 1 := by kernel_rfl
abbrev DvP (w : World) (p q : Nat) (st : List Cl) (cs : List Int) : Prop := Dv 107 90 w p q st cs

set_option maxHeartbeats 400000 in
theorem find_nil (x : Int) (w : World) : Calls Try.prog 46 #[.pointer none, .int .i64 x] w fun e w' => e = .returned (.tuple #[.pointer none, .int .i64 1]) ∧ w = w' := by
  go_enter Try.func46, Try.ntmps46
  go_wp2
  go_ret2
  exact ⟨rfl, rfl⟩

set_option maxHeartbeats 400000 in
theorem find_bad {w : World} {p q : Nat} {st : List Cl} {cs : List Int} (h : DvP w p q st cs) (x : Int) (hx : x < 0 ∨ (st.length : Int) ≤ x) :
    Calls Try.prog 46 #[.pointer (some ⟨p, 0, none⟩), .int .i64 x] w fun e w' => e = .returned (.tuple #[.pointer none, .int .i64 2]) ∧ w = w' := by
  obtain ⟨cap, hc, _⟩ := h.slice
  have hn := h.len
  obtain ⟨n, hn'⟩ : ∃ n, st.length = n := ⟨_, rfl⟩
  rw [hn'] at hc hx hn
  clear h hn'
  rcases Classical.em (x < 0) with h1 | h1
  · clear hx
    go_enter Try.func46, Try.ntmps46
    go_wp2
    go_ret2
    exact ⟨rfl, rfl⟩
  · have h2 : (n : Int) ≤ x := by omega
    clear hx
    go_enter Try.func46, Try.ntmps46
    go_wp2
    go_ret2
    exact ⟨rfl, rfl⟩

set_option maxHeartbeats 400000 in
theorem find_ok {w : World} {p q : Nat} {st : List Cl} {cs : List Int} (h : DvP w p q st cs) (i : Nat) (hi : i < st.length) :
    Calls Try.prog 46 #[.pointer (some ⟨p, 0, none⟩), .int .i64 i] w fun e w' => e = .returned (.tuple #[.pointer (some ⟨q, i * 193, none⟩), .int .i64 0]) ∧ w = w' := by
  obtain ⟨cap, hc, _⟩ := h.slice
  have hn := h.len
  obtain ⟨n, hn'⟩ : ∃ n, st.length = n := ⟨_, rfl⟩
  rw [hn'] at hc hi hn
  clear h hn'
  have h2 : ¬ (n : Int) ≤ (i : Int) := by omega
  have h3 : (i : Int) < (n : Int) := by omega
  go_enter Try.func46, Try.ntmps46
  go_wp2
  go_ret2
  exact ⟨rfl, rfl⟩
/-- A store into line i, by the operation. -/
theorem wpList_store_line {P : Program} {ops : Array Oper} {rest : List Oper} {o : Oper} {a : Act} {Q : Exit → Act → World → Prop} (hgd : o.guard = none) (ty : TypeId) (x y : Operand) (ho : o.op = .store ty x y) (hd : o.dst = none)
    {T D : TypeId} {w : World} {p q : Nat} {st : List Cl} {cs : List Int} (h : Dv T D w p q st cs) {i : Nat} {c : Cl} (hc : st[i]? = some c) (ad off : Nat) (had : ad = i * 193 + off) (v : Value) (xs : List Value) (hv : v.cells.toList = xs)
    (hx : a.eval x = .pointer (some ⟨q, ad, none⟩)) (hy : a.eval y = v) (hsz : (P.info? ty).map (·.size) = some xs.length) (h193 : off + xs.length ≤ 193) (c' : Cl) (e : over c.cells off xs = c'.cells) (hok : c'.ok) (h1 : ∀ u ∈ xs, u.oneCell' = true)
    (k : ∀ w', Hid (Dv T D w' p q (st.set i c') cs) → Hid (Turns p q w w') → wpList P ops Q rest a w') : wpList P ops Q (o :: rest) a w := by
  obtain ⟨w', hst, hD, hT⟩ := h.stored (P := P) hc off xs h193 c' e hok h1
  subst had
  have hrun : (storeVar ty ⟨q, i * 193 + off, none⟩ v).run P w = .ok () w' := by
    cases hq : P.info? ty with
    | none => simp [hq] at hsz
    | some inf =>
      have hs : inf.size = xs.length := by simpa [hq] using hsz
      have hs2 : v.cells.size = inf.size := by rw [hs, ← hv]; simp
      simp [storeVar, sizeOf, typeInfo, hq, hs2, hv, hst]
  refine wpList_plain hgd fun _ hK => ?_
  unfold Oper.wp execOp
  simp only [ho, hx, hy, Instr.storeAt, Instr.sureAddr, Sem.run_bind, Sem.run_pure, Result.andThen_ok, hrun]
  have := k w' hD hT
  refine hK _ _ ?_
  rw [hd]
  exact this
theorem built_zero : Try.prog.built 105 [] = some (enc zeros64).toArray := by kernel_rfl
def Cl.stop (c : Cl) : Cl := { c with f := zeros64, on := false }
theorem Cl.stop_ok {c : Cl} (h : c.ok) : c.stop.ok := ⟨h.1, h.2.1, zeros64_len⟩

set_option maxHeartbeats 400000 in
set_option maxRecDepth 100000 in
theorem stop_ok {w : World} {p q : Nat} {st : List Cl} {cs : List Int} (h : DvP w p q st cs) {i : Nat} {c : Cl} (hc : st[i]? = some c) :
    Calls Try.prog 49 #[.pointer (some ⟨q, i * 193, none⟩)] w fun e w' => e = .returned (.tuple #[]) ∧ DvP w' p q (st.set i c.stop) cs ∧ Turns p q w w' := by
  have HD := Lib.hid h
  have HC := Lib.hid hc
  have hok := oks_at h.oks hc
  have hlt : i < st.length := (List.getElem?_eq_some_iff.1 hc).1
  have HC1 : Hid ((st.set i { c with f := zeros64 })[i]? = some { c with f := zeros64 }) := by show _ = _; rw [List.getElem?_set_self hlt]
  have HOK := Lib.hid hok
  have HOK1 : Hid (({ c with f := zeros64 } : Cl).ok) := ⟨hok.1, hok.2.1, zeros64_len⟩
  have HSTOP : Hid (c.stop = { c with f := zeros64, on := false }) := rfl
  have HZL := Lib.hid zeros64_len
  have HBZ := Lib.hid built_zero
  have HOK2 := Lib.hid (Cl.stop_ok hok)
  clear h hc hok
  obtain ⟨s, hs⟩ : ∃ s, c.stop = s := ⟨_, rfl⟩
  rw [hs] at HSTOP HOK2 ⊢
  clear hs
  generalize zeros64 = Z at *
  go_enter Try.func49, Try.ntmps49
  go_wp2_with (first
    | ((with_reducible show wpList _ _ _ (⟨some 4, _, _, _, _, _⟩ :: _) _ _); refine wpList_build_cells (o := ⟨some 4, _, _, _, _, _⟩) rfl 105 #[] rfl (enc Z).toArray [] (by simp) HBZ.out ?_)
    | ((with_reducible show wpList _ _ _ (⟨none, .store 105 (.tmp 6) (.tmp 4), _, _, _, _⟩ :: _) _ _); refine wpList_store_line (o := ⟨none, .store 105 (.tmp 6) (.tmp 4), _, _, _, _⟩) rfl _ _ _ rfl rfl HD.out HC.out (i * 193 + 128) 128 rfl (.agg (enc Z).toArray) (enc Z) rfl rfl rfl (by rw [enc_len, HZL.out]; exact size_content) (by rw [enc_len, HZL.out]; omega) _ (over_f HOK.out Z HZL.out) HOK1.out enc_one ?_; intro w1 HD1 HT1)
    | ((with_reducible show wpList _ _ _ (⟨none, .store 4 (.tmp 8) _, _, _, _, _⟩ :: _) _ _); refine wpList_store_line (o := ⟨none, .store 4 (.tmp 8) _, _, _, _, _⟩) rfl _ _ _ rfl rfl HD1.out HC1.out (i * 193 + 192) 192 rfl (.bool false) [.bool false] rfl rfl rfl size_bool (by decide) s (by rw [HSTOP.out]; exact over_on HOK1.out false) HOK2.out (by intro u hu; simp at hu; subst hu; rfl) ?_; intro w2 HD2 HT2))
  refine bodyPost_end (results_none rfl _ _ _) rfl ?_
  refine ⟨rfl, ?_, HT1.out.trans HT2.out⟩
  have := HD2.out
  rw [List.set_set] at this
  exact this
theorem equal_content (a b : List UInt8) (ha : a.length = 64) (hb : b.length = 64) (w : World) : (Op.equalIn 10000 105 (.agg (enc a).toArray) (.agg (enc b).toArray)).run Try.prog w = .ok (a == b) w := equal_arrT Try.underlying105 a b ha hb w
theorem guard_content : Try.prog.eqGuardType Try.prog.depth 105 = false := by kernel_rfl

set_option maxHeartbeats 400000 in
theorem loose_ok {w : World} {p q : Nat} {st : List Cl} {cs : List Int} (h : DvP w p q st cs) {i : Nat} {c : Cl} (hc : st[i]? = some c) :
    Calls Try.prog 75 #[.pointer (some ⟨q, i * 193, none⟩)] w fun e w' => e = .returned (.bool (c.v != c.p)) ∧ ∃ n, w' = w.drewN n := by
  have hok := oks_at h.oks hc
  have HV := Lib.hid (h.range_v hc)
  have HP := Lib.hid (h.range_p hc)
  have heq : ∀ w', (Op.equalIn 10000 105 (.agg (enc c.v).toArray) (.agg (enc c.p).toArray)).run Try.prog w' = .ok (c.v == c.p) w' := fun w' => equal_content _ _ hok.1 hok.2.1 w'
  have hgu := guard_content
  have HX := Lib.hid hok.1
  have HY := Lib.hid hok.2.1
  generalize c.v = x at *
  generalize c.p = y at *
  clear h hc hok
  go_enter Try.func75, Try.ntmps75
  go_wp2
  refine wp_region_quiet_lit (by kernel_rfl) (by kernel_rfl) ?_
  iterate 3 (go_big_quiet_step (fail))
  refine wpQuiet_load_mid rfl 105 (.tmp 5) rfl q (i * 193) rfl (enc x) _ (by rintro _ ⟨n, rfl⟩; exact HV.out) Try.underlying105 rfl (by rw [enc_len, HX.out]; exact size_content) ?_
  go_simp
  iterate 3 (go_big_quiet_step (fail))
  refine wpQuiet_load_mid rfl 105 (.tmp 9) rfl q (i * 193 + 64) rfl (enc y) _ (by rintro _ ⟨n, rfl⟩; exact HP.out) Try.underlying105 rfl (by rw [enc_len, HY.out]; exact size_content) ?_
  go_simp
  iterate 2 (go_big_quiet_step (fail))
  refine wpQuiet_nil ?_
  intro nq
  go_wp2
  go_ret
  exact ⟨rfl, nq, rfl⟩
/-- One more, as Go's int64 counts. -/
def up (x : Int) : Int := IntKind.i64.wrap (x + 1)
def bump (cs : List Int) (k : Nat) : List Int := cs.set k (up (cs.getD k 0))
theorem bump_len (cs : List Int) (k : Nat) : (bump cs k).length = cs.length := by simp [bump]

theorem add64 (a : Addr) (x y : Int) (w : World) (hc : w.cell? a = some (.int .i64 x)) (hz : w.frozen? a = false) :
    (callFunc 69 #[.pointer (some a), .int .i64 y]).run Try.prog w = .ok (.value (.int .i64 (IntKind.i64.wrap (x + y)))) (w.setCell a (.int .i64 (IntKind.i64.wrap (x + y)))) :=
  run_call_add Try.func69 (by kernel_rfl) (by kernel_rfl) (by kernel_rfl) .i64 (by kernel_rfl) hc hz (by simp [go_sem])

set_option maxHeartbeats 400000 in
theorem add_ok {w : World} {p q : Nat} {st : List Cl} {cs : List Int} (h : DvP w p q st cs) (k : Nat) (hk : k < 5) :
    Calls Try.prog 47 #[.pointer (some ⟨p, k + 1, none⟩), .int .i64 1] w fun e w' => e = .returned (.int .i64 (up (cs.getD k 0))) ∧ DvP w' p q st (bump cs k) ∧ Turns p q w w' := by
  have h1 := add64 ⟨p, k + 1, none⟩ _ 1 w (h.count k hk).1 (h.count k hk).2
  have HD : Hid (DvP (w.setCell ⟨p, k + 1, none⟩ (.int .i64 (up (cs.getD k 0)))) p q st (bump cs k)) := h.setCount k _
  have HT : Hid (Turns p q w (w.setCell ⟨p, k + 1, none⟩ (.int .i64 (up (cs.getD k 0))))) := (Turns.refl p q w).setCell_p _ _
  have e : IntKind.i64.wrap (cs.getD k 0 + 1) = up (cs.getD k 0) := rfl
  rw [e] at h1
  generalize w.setCell ⟨p, k + 1, none⟩ (.int .i64 (up (cs.getD k 0))) = w1 at *
  generalize bump cs k = cs' at *
  generalize up (cs.getD k 0) = r at *
  clear h e
  go_enter Try.func47, Try.ntmps47
  go_wp2
  go_ret
  exact ⟨rfl, HD.out, HT.out⟩

end Go.Proofs.Ytkcjamjjaallhaa
