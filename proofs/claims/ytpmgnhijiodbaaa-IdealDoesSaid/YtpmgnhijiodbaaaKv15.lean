/-
  Proved here: pairs and texts in slices; slices.IndexFunc at pairs; the place of a key.
  Conditions: rows of at most 2^20 pairs.
-/
import Derived.Test.YtpmgnhijiodbaaaGoodC15
import Derived.Test.YtpmgnhijiodbaaaRecIns
import Derived.Test.YtpmgnhijiodbaaaTableMath
namespace Go.Proofs.Ytpmgnhijiodbaaa
open Go Go.RowKit
set_option maxRecDepth 100000

/-! ### Pairs and texts in slices -/
structure Kv where
  k : ByteArray
  v : ByteArray
def Kv.cells (x : Kv) : List Value := [.string x.k, .string x.v]
theorem pair_info : (Try.prog.info? 42).map (fun i => (i.zero, i.size, i.bytes)) = some (some (.agg #[.string ⟨#[]⟩, .string ⟨#[]⟩]), 2, 32) := by kernel_rfl
theorem pair_info' : ∃ i, Try.prog.info? 42 = some i ∧ i.zero = some (.agg #[.string ⟨#[]⟩, .string ⟨#[]⟩]) ∧ i.size = 2 ∧ i.bytes = 32 := by
  obtain ⟨i, h1, h2⟩ := Option.map_eq_some_iff.1 pair_info
  simp only [Prod.mk.injEq] at h2
  exact ⟨i, h1, h2.1, h2.2.1, h2.2.2⟩
theorem zero_pair : (Try.prog.info? 42).bind (·.zero) = some (.agg #[.string ⟨#[]⟩, .string ⟨#[]⟩]) := by
  obtain ⟨i, h1, h2, _⟩ := pair_info'
  rw [h1]
  exact h2
theorem size_pair : (Try.prog.info? 42).map (·.size) = some 2 := by
  obtain ⟨i, h1, _, h2, _⟩ := pair_info'
  rw [h1]
  simp [h2]
theorem text_info : (Try.prog.info? 9).map (fun i => (i.zero, i.size, i.bytes)) = some (some (.string ⟨#[]⟩), 1, 16) := by kernel_rfl
theorem text_info' : ∃ i, Try.prog.info? 9 = some i ∧ i.zero = some (.string ⟨#[]⟩) ∧ i.size = 1 ∧ i.bytes = 16 := by
  obtain ⟨i, h1, h2⟩ := Option.map_eq_some_iff.1 text_info
  simp only [Prod.mk.injEq] at h2
  exact ⟨i, h1, h2.1, h2.2.1, h2.2.2⟩
theorem onesP (a b : ByteArray) : (#[.string a, .string b] : Array Value).all (·.oneCell') = true := all_oneCell_toArray (cs := [.string a, .string b]) (fun u hu => by
  simp only [List.mem_cons, List.not_mem_nil, or_false] at hu
  rcases hu with rfl | rfl <;> rfl)
def RP : Rec Kv where
  tE := 42
  tS := 22
  k := 2
  by_ := 32
  zv := .agg #[.string ⟨#[]⟩, .string ⟨#[]⟩]
  cells := Kv.cells
  hk := by omega
  klen := fun _ => rfl
  one := fun x u hu => by
    simp only [Kv.cells, List.mem_cons, List.not_mem_nil, or_false] at hu
    rcases hu with rfl | rfl <;> rfl
  und := Try.underlying22
  info := pair_info'
  zk := by kernel_rfl
  small := by omega
def RS : Rec ByteArray where
  tE := 9
  tS := 23
  k := 1
  by_ := 16
  zv := .string ⟨#[]⟩
  cells := fun s => [.string s]
  hk := by omega
  klen := fun _ => rfl
  one := fun x u hu => by
    simp only [List.mem_cons, List.not_mem_nil, or_false] at hu
    subst hu
    rfl
  und := Try.underlying23
  info := text_info'
  zk := by kernel_rfl
  small := by omega
theorem RP.zero (w : World) : (zeroValue RP.tE).run Try.prog w = .ok RP.zv w := Try.zeroValue42 w
theorem RS.zero (w : World) : (zeroValue RS.tE).run Try.prog w = .ok RS.zv w := Try.zeroValue9 w
theorem RP.zones : ∀ u ∈ RP.zv.cells.toList, u.oneCell' = true := by
  have : RP.zv.cells.toList = [.string ⟨#[]⟩, .string ⟨#[]⟩] := by kernel_rfl
  rw [this]
  intro u hu
  simp only [List.mem_cons, List.not_mem_nil, or_false] at hu
  rcases hu with rfl | rfl <;> rfl
theorem RS.zones : ∀ u ∈ RS.zv.cells.toList, u.oneCell' = true := by
  have : RS.zv.cells.toList = [.string ⟨#[]⟩] := by kernel_rfl
  rw [this]
  intro u hu
  simp only [List.mem_cons, List.not_mem_nil, or_false] at hu
  subst hu
  rfl
theorem pairAt {w : World} {A : Option Addr} {l : List Kv} (h : RP.Row w A l) {i : Nat} {e : Kv} (hi : l[i]? = some e) : ∃ b off, A = some ⟨b, off, none⟩ ∧ b < w.heap.size ∧ w.cell? ⟨b, off + i * 2, none⟩ = some (.string e.k) ∧ w.cell? ⟨b, off + i * 2 + 1, none⟩ = some (.string e.v) := by
  obtain ⟨b, off, e1, hlt, hc⟩ := h.2 (by have := (List.getElem?_eq_some_iff.1 hi).1; omega)
  exact ⟨b, off, e1, hlt, hc i e hi 0 _ rfl, hc i e hi 1 _ rfl⟩
theorem textAt {w : World} {A : Option Addr} {l : List ByteArray} (h : RS.Row w A l) {i : Nat} {e : ByteArray} (hi : l[i]? = some e) : ∃ b off, A = some ⟨b, off, none⟩ ∧ b < w.heap.size ∧ w.cell? ⟨b, off + i, none⟩ = some (.string e) := by
  obtain ⟨b, off, e1, hlt, hc⟩ := h.2 (by have := (List.getElem?_eq_some_iff.1 hi).1; omega)
  have := hc i e hi 0 _ rfl
  rw [show off + i * RS.k + 0 = off + i by show off + i * 1 + 0 = _; omega] at this
  exact ⟨b, off, e1, hlt, this⟩
theorem cells2 {w : World} {g : Nat} {T : TypeId} {a b : Value} (h : w.heap[g]? = some (.cells #[a, b] T (0, 0))) : w.cell? ⟨g, 0, none⟩ = some a ∧ w.cell? ⟨g, 1, none⟩ = some b := by
  refine ⟨?_, ?_⟩ <;> simp [World.cell?, h]
theorem cells1 {w : World} {g : Nat} {T : TypeId} {a : Value} (h : w.heap[g]? = some (.cells #[a] T (0, 0))) : w.cell? ⟨g, 0, none⟩ = some a := by simp [World.cell?, h]
/-! ### A store as pairs and texts that wait -/
def ltK (a b : ByteArray) : Bool := Op.bytesLess a.toList b.toList
def eqKv (k : ByteArray) (x : Kv) : Bool := eqK x.k k
def gtKv (k : ByteArray) (x : Kv) : Bool := ltK k x.k
def getK (L : List Kv) (k : ByteArray) : Option Kv := L.find? (eqKv k)
def hasK (L : List Kv) (k : ByteArray) : Bool := L.any (eqKv k)
def valK (L : List Kv) (k : ByteArray) : ByteArray := match getK L k with
  | some x => x.v
  | none => ⟨#[]⟩
/-- A key has the value. -/
def setK (L : List Kv) (k v : ByteArray) : List Kv := if hasK L k = true then L.set (L.findIdx (eqKv k)) ⟨(L.getD (L.findIdx (eqKv k)) ⟨k, v⟩).k, v⟩ else L.take (L.findIdx (gtKv k)) ++ ⟨k, v⟩ :: L.drop (L.findIdx (gtKv k))
def delK (L : List Kv) (k : ByteArray) : List Kv := L.filter fun x => !eqKv k x
/-- What a predicate over pairs answers, in every world that has come of w. -/
def PredP (g : Nat) (cb : Array Value) (l : List Kv) (p : Kv → Bool) (w : World) : Prop :=
  ∀ W, Below w.heap.size w W → ∀ x ∈ l, Calls Try.prog g (#[.agg #[.string x.k, .string x.v]] ++ cb) W fun e w' => e = .returned (.bool (p x)) ∧ Below W.heap.size W w'
set_option maxHeartbeats 800000 in
theorem idxp_any {w : World} {A : Option Addr} {l : List Kv} (n cap : Nat) (hn : l.length = n) (hr : RP.Row w A l) (g : Nat) (cb : Array Value) (lb : Array Value) (p : Kv → Bool) (hlb : lb = #[])
    (eg : ∀ args w, (callFunc g args).run Try.prog w = .ok (.enter g args) w) (hc : PredP g cb l p w) :
    Calls Try.prog 38 #[.slice A n cap, .func (.func g) lb cb] w fun e w' => e = .returned (.int .i64 (fIdx p l)) ∧ Below w.heap.size w w' := by
  subst hlb
  have hmax := hr.1
  rw [hn] at hmax
  obtain ⟨B, hB⟩ : ∃ B, w.heap.size = B := ⟨_, rfl⟩
  obtain ⟨r, hr0⟩ : ∃ r, fIdx p l = r := ⟨_, rfl⟩
  rw [hr0, hB]
  have HR := Lib.hid hr
  have HN := Lib.hid hn
  have HC : Hid (∀ W, Below B w W → ∀ x ∈ l, Calls Try.prog g (#[.agg #[.string x.k, .string x.v]] ++ cb) W fun e w' => e = .returned (.bool (p x)) ∧ Below W.heap.size W w') := hB ▸ hc
  have HBS := Lib.hid hB
  have HR0 := Lib.hid hr0
  clear hr hn hc hr0 hB
  go_enter Try.func38, Try.ntmps38
  go_wp2
  go_loopg [8] n (fun gk s8 wx => ∃ i : Nat, i + gk = n ∧ s8 = .int .i64 i ∧ Hid (Below B w wx) ∧ Hid (∀ j y, j < i → l[j]? = some y → p y = false))
  case atStart => exact ⟨0, by omega, rfl, Below.refl _ _, fun j y hj => by omega⟩
  case round =>
    obtain ⟨i, hig, rfl, HW, HP⟩ := hrel
    cases gk with
    | zero =>
      obtain rfl : i = n := by omega
      have hii : ¬ (i : Int) < (i : Int) := by omega
      obtain rfl : r = -1 := by
        rw [← HR0.out]
        exact fIdx_no p l fun j y hy => HP.out j y (by have := (List.getElem?_eq_some_iff.1 hy).1; have := HN.out; omega) hy
      go_wp2
      go_ret
      exact ⟨rfl, HW.out⟩
    | succ gk =>
      have hii : (i : Int) < (n : Int) := by omega
      have hil : i < l.length := by have := HN.out; omega
      have hgi := List.getElem?_eq_getElem hil
      have HCX := Lib.hid (HC.out wr HW.out _ (List.getElem_mem hil))
      generalize l[i] = x at *
      obtain ⟨b, off, rfl, -, c0, c1⟩ := pairAt (HR.out.below (HBS.out.symm ▸ HW.out)) hgi
      have HGI := Lib.hid hgi
      have HP2 : Hid (p x = false → ∀ j y, j < i + 1 → l[j]? = some y → p y = false) := fun hp j y hj hy => by
        rcases Nat.lt_or_ge j i with h | h
        · exact HP.out j y h hy
        · obtain rfl : j = i := by omega
          rw [HGI.out] at hy
          cases hy
          exact hp
      have HP3 : Hid (p x = true → r = i) := fun hp => by rw [← HR0.out]; exact fIdx_at p l i x HP.out HGI.out hp
      have hbw : B ≤ wr.heap.size := by have := HW.out.size; have := HBS.out; omega
      clear hgi hil
      generalize p x = z at *
      generalize x.k = x0 at *
      generalize x.v = x1 at *
      cases z with
      | true =>
        obtain rfl := HP3.out rfl
        go_wp2_with (go_at_fn g; refine HCX.out.mono ?_; rintro e w' ⟨rfl, hb'⟩)
        go_ret
        exact ⟨rfl, HW.out.trans (hb'.mono hbw)⟩
      | false =>
        have HP4 := Lib.hid (HP2.out rfl)
        go_wp2_with (go_at_fn g; refine HCX.out.mono ?_; rintro e w' ⟨rfl, hb'⟩)
        go_roundg gk
        case measure => omega
        case rel => exact ⟨i + 1, by omega, by go_num, HW.out.trans (hb'.mono hbw), HP4⟩
set_option maxHeartbeats 400000 in
theorem find1_15 (x : Kv) (s : ByteArray) (b : Nat) (w : World) (hb : b < w.heap.size) (hc : w.cell? ⟨b, 0, none⟩ = some (.string s)) : Calls Try.prog 57 #[.agg #[.string x.k, .string x.v], .pointer (some ⟨b, 0, none⟩)] w fun e w' => e = .returned (.bool (eqKv s x)) ∧ Below w.heap.size w w' := by
  unfold eqKv eqK
  have hne : ¬ b = w.heap.size := by omega
  generalize x.k = s0 at *
  generalize x.v = s1 at *
  go_enter Try.func57, Try.ntmps57
  go_wp2
  go_ret
  exact ⟨rfl, (Below.refl _ _).alloc (Nat.le_refl _) _⟩
theorem gt_str15 (x y : ByteArray) : (!(Op.bytesLess x.toList y.toList || x.toList == y.toList)) = Op.bytesLess y.toList x.toList := gtrK _ _
set_option maxHeartbeats 400000 in
theorem set1_15 (x : Kv) (s : ByteArray) (b : Nat) (w : World) (hb : b < w.heap.size) (hc : w.cell? ⟨b, 0, none⟩ = some (.string s)) : Calls Try.prog 39 #[.agg #[.string x.k, .string x.v], .pointer (some ⟨b, 0, none⟩)] w fun e w' => e = .returned (.bool (gtKv s x)) ∧ Below w.heap.size w w' := by
  unfold gtKv ltK
  have hne : ¬ b = w.heap.size := by omega
  generalize x.k = s0 at *
  generalize x.v = s1 at *
  rw [← gt_str15, Bool.not_or]
  go_enter Try.func39, Try.ntmps39
  go_wp2
  go_ret
  exact ⟨rfl, (Below.refl _ _).alloc (Nat.le_refl _) _⟩
set_option maxHeartbeats 400000 in
theorem drop1_15 (x : Kv) (s : ByteArray) (b : Nat) (w : World) (hb : b < w.heap.size) (hc : w.cell? ⟨b, 0, none⟩ = some (.string s)) : Calls Try.prog 42 #[.agg #[.string x.k, .string x.v], .pointer (some ⟨b, 0, none⟩)] w fun e w' => e = .returned (.bool (eqKv s x)) ∧ Below w.heap.size w w' := by
  unfold eqKv eqK
  have hne : ¬ b = w.heap.size := by omega
  generalize x.k = s0 at *
  generalize x.v = s1 at *
  go_enter Try.func42, Try.ntmps42
  go_wp2
  go_ret
  exact ⟨rfl, (Below.refl _ _).alloc (Nat.le_refl _) _⟩
set_option maxHeartbeats 800000 in
theorem findp_any {w : World} {A : Option Addr} {l : List Kv} (n cap : Nat) (hn : l.length = n) (hr : RP.Row w A l) (s : ByteArray) :
    Calls Try.prog 33 #[.slice A n cap, .string s] w fun e w' => e = .returned (.int .i64 (fIdx (eqKv s) l)) ∧ Below w.heap.size w w' := by
  obtain ⟨g, hg⟩ : ∃ g, w.heap.size = g := ⟨_, rfl⟩
  obtain ⟨w1, hw1⟩ : ∃ w1, w.alloc (.cells #[.string s] 9) = w1 := ⟨_, rfl⟩
  have HX : Hid (w1.heap[g]? = some (.cells #[.string s] 9 (0, 0))) := by rw [← hw1, ← hg]; exact heap_alloc_new w _
  have HB : Hid (Below g w w1) := by rw [← hw1, ← hg]; exact (Below.refl _ _).alloc (Nat.le_refl _) _
  have HL : Hid (g < w1.heap.size) := lt_of_heap HX.out
  rw [hg]
  have HK : Hid (Calls Try.prog 38 #[.slice A n cap, .func (.func 57) #[] #[.pointer (some ⟨g, 0, none⟩)]] w1 fun e w' => e = .returned (.int .i64 (fIdx (eqKv s) l)) ∧ Below w1.heap.size w1 w') :=
    idxp_any n cap hn (hr.below (hg ▸ HB.out)) 57 #[.pointer (some ⟨g, 0, none⟩)] #[] (eqKv s) rfl (enters_of Try.func57 (by kernel_rfl) rfl) (fun W hW x _ => find1_15 x s g W (Nat.lt_of_lt_of_le HL.out hW.size) ((hW.cell (p := ⟨g, 0, none⟩) HL.out).trans (cells1 HX.out)))
  have c0 := cells1 HX.out
  generalize fIdx (eqKv s) l = r at *
  clear hr
  go_enter Try.func33, Try.ntmps33
  go_wp2_with fail
  refine HK.out.mono ?_
  clear hg hw1
  rintro e w2 ⟨rfl, hb2⟩
  have HB2 : Hid (Below g w w2) := HB.out.trans (hb2.mono (Nat.le_of_lt HL.out))
  clear hb2 c0
  go_wp2
  go_ret
  exact ⟨rfl, HB2.out⟩

end Go.Proofs.Ytpmgnhijiodbaaa
