/-
  Proved here: what package nvm's Load, Durable and Flush answer and leave, of no device, of a line that is not there, of one that is.
  Conditions: a device of at most 258 lines.
-/
import Derived.Test.YtkcjamjjaallhaaNvmA
namespace Go.Proofs.Ytkcjamjjaallhaa
open Go Go.RowKit

theorem Arr.turns {T : TypeId} {w w' : World} {g p q : Nat} {x : List UInt8} (h : Arr T w g x) (ht : Turns p q w w') (h1 : g ≠ p) (h2 : g ≠ q) : Arr T w' g x := (ht.block g h1 h2 h.lt).trans h
/-- What Load and Durable leave. -/
def Loaded (T : TypeId) (w : World) (x : List UInt8) (e : Ending) (w' : World) : Prop :=
  ∃ g, e = .returned (.tuple #[.slice (some ⟨g, 0, none⟩) 64 64, .int .i64 0]) ∧ w.heap.size ≤ g ∧ Arr T w' g x ∧ Below w.heap.size w w'
theorem zero_content : (Try.prog.info? 105).bind (·.zero) = some (.agg (enc zeros64).toArray) := by kernel_rfl

set_option maxHeartbeats 400000 in
theorem load_nil (x : Int) (w : World) : Calls Try.prog 28 #[.pointer none, .int .i64 x] w fun e w' => e = .returned (.tuple #[.slice none 0 0, .int .i64 1]) ∧ w = w' := by
  go_enter Try.func28, Try.ntmps28
  go_wp2_with fail
  refine (find_nil x w).mono ?_
  rintro e w' ⟨rfl, rfl⟩
  go_wp2
  go_ret2
  exact ⟨rfl, rfl⟩
set_option maxHeartbeats 400000 in
theorem load_bad {w : World} {p q : Nat} {st : List Cl} {cs : List Int} (h : DvP w p q st cs) (x : Int) (hx : x < 0 ∨ (st.length : Int) ≤ x) :
    Calls Try.prog 28 #[.pointer (some ⟨p, 0, none⟩), .int .i64 x] w fun e w' => e = .returned (.tuple #[.slice none 0 0, .int .i64 2]) ∧ w = w' := by
  have HF := Lib.hid (find_bad h x hx)
  clear h hx
  go_enter Try.func28, Try.ntmps28
  go_wp2_with fail
  refine HF.out.mono ?_
  rintro e w' ⟨rfl, rfl⟩
  go_wp2
  go_ret2
  exact ⟨rfl, rfl⟩
set_option maxHeartbeats 400000 in
theorem load_ok {w : World} {p q : Nat} {st : List Cl} {cs : List Int} (h : DvP w p q st cs) {i : Nat} {c : Cl} (hc : st[i]? = some c) :
    Calls Try.prog 28 #[.pointer (some ⟨p, 0, none⟩), .int .i64 i] w (Loaded 105 w c.v) := by
  have HF := Lib.hid (find_ok h i (List.getElem?_eq_some_iff.1 hc).1)
  have HV := Lib.hid (h.range_v hc)
  have HX := Lib.hid (oks_at h.oks hc).1
  have HZ := Lib.hid zero_content
  have HZL := Lib.hid zeros64_len
  obtain ⟨g, hg⟩ : ∃ g, w.heap.size = g := ⟨_, rfl⟩
  have HG := Lib.hid hg
  generalize c.v = x at *
  generalize zeros64 = Z at *
  clear h hc hg
  go_enter Try.func28, Try.ntmps28
  go_wp2_with fail
  refine HF.out.mono ?_
  rintro e w' ⟨rfl, rfl⟩
  go_wp2_with (first
    | ((with_reducible show wpList _ _ _ (⟨some 21, _, _, _, _, _⟩ :: _) _ _); refine wpList_load_agg (o := ⟨some 21, _, _, _, _, _⟩) rfl 105 (.tmp 20) rfl q (i * 193) rfl (enc x) _ HV.out Try.underlying105 rfl (by rw [enc_len, HX.out]; exact size_content) ?_)
    | ((with_reducible show wpList _ _ _ (⟨some 8, _, _, _, _, _⟩ :: _) _ _); refine wpList_alloc_var (o := ⟨some 8, _, _, _, _, _⟩) rfl 105 rfl g HG.out _ HZ.out ?_; intro w1 HA1 HB1)
    | ((with_reducible show wpList _ _ _ (⟨none, .store _ _ _, _, _, _, _⟩ :: _) _ _); refine wpList_store_whole (o := ⟨none, .store 105 (.tmp 8) (.tmp 21), _, _, _, _⟩) rfl _ _ _ rfl rfl g (enc x).toArray rfl rfl 105 (enc Z).toArray HA1.out (by rw [List.size_toArray, enc_len, HX.out]; exact size_content) (by rw [List.size_toArray, List.size_toArray, enc_len, enc_len, HX.out, HZL.out]) (all_enc x) ?_; intro w2 HA2 HB2))
  go_ret2
  exact ⟨g, rfl, Nat.le_of_eq HG.out, HA2.out, by rw [HG.out]; exact HB1.out.trans HB2.out⟩
set_option maxHeartbeats 400000 in
theorem durable_nil (x : Int) (w : World) : Calls Try.prog 29 #[.pointer none, .int .i64 x] w fun e w' => e = .returned (.tuple #[.slice none 0 0, .int .i64 1]) ∧ w = w' := by
  go_enter Try.func29, Try.ntmps29
  go_wp2_with fail
  refine (find_nil x w).mono ?_
  rintro e w' ⟨rfl, rfl⟩
  go_wp2
  go_ret2
  exact ⟨rfl, rfl⟩
set_option maxHeartbeats 400000 in
theorem durable_bad {w : World} {p q : Nat} {st : List Cl} {cs : List Int} (h : DvP w p q st cs) (x : Int) (hx : x < 0 ∨ (st.length : Int) ≤ x) :
    Calls Try.prog 29 #[.pointer (some ⟨p, 0, none⟩), .int .i64 x] w fun e w' => e = .returned (.tuple #[.slice none 0 0, .int .i64 2]) ∧ w = w' := by
  have HF := Lib.hid (find_bad h x hx)
  clear h hx
  go_enter Try.func29, Try.ntmps29
  go_wp2_with fail
  refine HF.out.mono ?_
  rintro e w' ⟨rfl, rfl⟩
  go_wp2
  go_ret2
  exact ⟨rfl, rfl⟩
set_option maxHeartbeats 400000 in
theorem durable_ok {w : World} {p q : Nat} {st : List Cl} {cs : List Int} (h : DvP w p q st cs) {i : Nat} {c : Cl} (hc : st[i]? = some c) :
    Calls Try.prog 29 #[.pointer (some ⟨p, 0, none⟩), .int .i64 i] w (Loaded 105 w c.p) := by
  have HF := Lib.hid (find_ok h i (List.getElem?_eq_some_iff.1 hc).1)
  have HV := Lib.hid (h.range_p hc)
  have HX := Lib.hid (oks_at h.oks hc).2.1
  have HZ := Lib.hid zero_content
  have HZL := Lib.hid zeros64_len
  obtain ⟨g, hg⟩ : ∃ g, w.heap.size = g := ⟨_, rfl⟩
  have HG := Lib.hid hg
  generalize c.p = x at *
  generalize zeros64 = Z at *
  clear h hc hg
  go_enter Try.func29, Try.ntmps29
  go_wp2_with fail
  refine HF.out.mono ?_
  rintro e w' ⟨rfl, rfl⟩
  go_wp2_with (first
    | ((with_reducible show wpList _ _ _ (⟨some 21, _, _, _, _, _⟩ :: _) _ _); refine wpList_load_agg (o := ⟨some 21, _, _, _, _, _⟩) rfl 105 (.tmp 20) rfl q (i * 193 + 64) rfl (enc x) _ HV.out Try.underlying105 rfl (by rw [enc_len, HX.out]; exact size_content) ?_)
    | ((with_reducible show wpList _ _ _ (⟨some 8, _, _, _, _, _⟩ :: _) _ _); refine wpList_alloc_var (o := ⟨some 8, _, _, _, _, _⟩) rfl 105 rfl g HG.out _ HZ.out ?_; intro w1 HA1 HB1)
    | ((with_reducible show wpList _ _ _ (⟨none, .store _ _ _, _, _, _, _⟩ :: _) _ _); refine wpList_store_whole (o := ⟨none, .store 105 (.tmp 8) (.tmp 21), _, _, _, _⟩) rfl _ _ _ rfl rfl g (enc x).toArray rfl rfl 105 (enc Z).toArray HA1.out (by rw [List.size_toArray, enc_len, HX.out]; exact size_content) (by rw [List.size_toArray, List.size_toArray, enc_len, enc_len, HX.out, HZL.out]) (all_enc x) ?_; intro w2 HA2 HB2))
  go_ret2
  exact ⟨g, rfl, Nat.le_of_eq HG.out, HA2.out, by rw [HG.out]; exact HB1.out.trans HB2.out⟩

def Cl.flush (c : Cl) : Cl := { c with f := c.v, on := true }
def Cl.back (c : Cl) : Cl := { c with p := c.v, f := zeros64, on := false }
theorem Cl.flush_ok {c : Cl} (h : c.ok) : c.flush.ok := ⟨h.1, h.2.1, h.1⟩
theorem Cl.back_ok {c : Cl} (h : c.ok) : c.back.ok := ⟨h.1, h.1, zeros64_len⟩

set_option maxHeartbeats 400000 in
theorem flush_nil (x : Int) (w : World) : Calls Try.prog 76 #[.pointer none, .int .i64 x] w fun e w' => e = .returned (.int .i64 1) ∧ w = w' := by
  go_enter Try.func76, Try.ntmps76
  go_wp2_with fail
  refine (find_nil x w).mono ?_
  rintro e w' ⟨rfl, rfl⟩
  go_wp2
  go_ret
  exact ⟨rfl, rfl⟩
set_option maxHeartbeats 400000 in
theorem flush_bad {w : World} {p q : Nat} {st : List Cl} {cs : List Int} (h : DvP w p q st cs) (x : Int) (hx : x < 0 ∨ (st.length : Int) ≤ x) :
    Calls Try.prog 76 #[.pointer (some ⟨p, 0, none⟩), .int .i64 x] w fun e w' => e = .returned (.int .i64 2) ∧ w = w' := by
  have HF := Lib.hid (find_bad h x hx)
  clear h hx
  go_enter Try.func76, Try.ntmps76
  go_wp2_with fail
  refine HF.out.mono ?_
  rintro e w' ⟨rfl, rfl⟩
  go_wp2
  go_ret
  exact ⟨rfl, rfl⟩
set_option maxHeartbeats 400000 in
theorem flush_ok {w : World} {p q : Nat} {st : List Cl} {cs : List Int} (h : DvP w p q st cs) {i : Nat} {c : Cl} (hc : st[i]? = some c) :
    Calls Try.prog 76 #[.pointer (some ⟨p, 0, none⟩), .int .i64 i] w fun e w' => e = .returned (.int .i64 0) ∧ DvP w' p q (st.set i c.flush) (bump cs 1) ∧ Turns p q w w' := by
  have hlt := (List.getElem?_eq_some_iff.1 hc).1
  have hok := oks_at h.oks hc
  have HF := Lib.hid (find_ok h i hlt)
  have HV := Lib.hid (h.range_v hc)
  have HX := Lib.hid hok.1
  have HD := Lib.hid h
  have HC := Lib.hid hc
  have HOV := Lib.hid (over_f hok c.v hok.1)
  have hok1 : ({ c with f := c.v } : Cl).ok := ⟨hok.1, hok.2.1, hok.1⟩
  have HON := Lib.hid (over_on hok1 true)
  have HOK1 := Lib.hid hok1
  have HC1 : Hid ((st.set i { c with f := c.v })[i]? = some { c with f := c.v }) := by show _ = _; rw [List.getElem?_set_self hlt]
  have HOK2 : Hid (({ c with f := c.v, on := true } : Cl).ok) := c.flush_ok hok
  have HFL : Hid (c.flush = { c with f := c.v, on := true }) := rfl
  generalize c.flush = d at *
  clear h hc hok hok1
  go_enter Try.func76, Try.ntmps76
  go_wp2_with fail
  refine HF.out.mono ?_
  rintro e w' ⟨rfl, rfl⟩
  go_wp2_with (first
    | ((with_reducible show wpList _ _ _ (⟨some 21, _, _, _, _, _⟩ :: _) _ _); refine wpList_load_agg (o := ⟨some 21, _, _, _, _, _⟩) rfl 105 (.tmp 20) rfl q (i * 193) rfl (enc c.v) _ HV.out Try.underlying105 rfl (by rw [enc_len, HX.out]; exact size_content) ?_)
    | ((with_reducible show wpList _ _ _ (⟨none, .store 105 _ _, _, _, _, _⟩ :: _) _ _); refine wpList_store_line (o := ⟨none, .store 105 (.tmp 23) (.tmp 21), _, _, _, _⟩) rfl _ _ _ rfl rfl HD.out HC.out (i * 193 + 128) 128 rfl (.agg (enc c.v).toArray) (enc c.v) rfl rfl rfl (by rw [enc_len, HX.out]; exact size_content) (by rw [enc_len, HX.out]; omega) _ HOV.out HOK1.out enc_one ?_; intro w1 HD1 HT1)
    | ((with_reducible show wpList _ _ _ (⟨none, .store 4 _ _, _, _, _, _⟩ :: _) _ _); refine wpList_store_line (o := ⟨none, .store 4 (.tmp 25) _, _, _, _, _⟩) rfl _ _ _ rfl rfl HD1.out HC1.out (i * 193 + 192) 192 rfl (.bool true) [.bool true] rfl rfl rfl size_bool (by decide) _ HON.out HOK2.out (by intro u hu; simp at hu; subst hu; rfl) ?_; intro w2 HD2 HT2)
    | ((with_reducible show Calls _ 47 _ _ _); refine (add_ok HD2.out 1 (by decide)).mono ?_; rintro e w3 ⟨rfl, hd3, ht3⟩; have HD3 := Lib.hid hd3; have HT3 := Lib.hid ht3; clear hd3 ht3))
  go_ret
  refine ⟨rfl, ?_, (HT1.out.trans HT2.out).trans HT3.out⟩
  have := HD3.out
  rw [List.set_set] at this
  rw [HFL.out]
  exact this

end Go.Proofs.Ytkcjamjjaallhaa
