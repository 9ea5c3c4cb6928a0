/-
  Proved here: what is got behind a set and a drop; stores whose keys rise stay so.
  Conditions: none.
-/
import Derived.Test.YtpmgnhijiodbaaaMay15
namespace Go.Proofs.Ytpmgnhijiodbaaa
open Go Go.RowKit
set_option maxRecDepth 100000

/-! ### Sets and drops, pair by pair -/
def updK : List Kv → ByteArray → ByteArray → List Kv
  | [], _, _ => []
  | a :: L, k, v => if eqKv k a = true then ⟨a.k, v⟩ :: L else a :: updK L k v
def insK : List Kv → ByteArray → ByteArray → List Kv
  | [], k, v => [⟨k, v⟩]
  | a :: L, k, v => if gtKv k a = true then ⟨k, v⟩ :: a :: L else a :: insK L k v
theorem hasK_cons (a : Kv) (L : List Kv) (k : ByteArray) : hasK (a :: L) k = (eqKv k a || hasK L k) := rfl
theorem upd_findIdx (L : List Kv) (k v : ByteArray) (d : Kv) (h : hasK L k = true) : L.set (L.findIdx (eqKv k)) ⟨(L.getD (L.findIdx (eqKv k)) d).k, v⟩ = updK L k v := by
  induction L with
  | nil => cases h
  | cons a L ih =>
    rw [hasK_cons] at h
    cases ha : eqKv k a with
    | true => simp [List.findIdx_cons, ha, updK]
    | false =>
      rw [ha, Bool.false_or] at h
      have := ih h
      simp only [List.findIdx_cons, ha, cond_false, List.set_cons_succ, List.getD_cons_succ, updK, Bool.false_eq_true, if_false]
      rw [this]
theorem ins_findIdx (L : List Kv) (k v : ByteArray) : L.take (L.findIdx (gtKv k)) ++ ⟨k, v⟩ :: L.drop (L.findIdx (gtKv k)) = insK L k v := by
  induction L with
  | nil => rfl
  | cons a L ih =>
    cases ha : gtKv k a with
    | true => simp [List.findIdx_cons, ha, insK]
    | false =>
      simp only [List.findIdx_cons, ha, cond_false, List.take_succ_cons, List.drop_succ_cons, List.cons_append, insK, Bool.false_eq_true, if_false]
      rw [ih]
theorem setK_has {L : List Kv} {k v : ByteArray} (h : hasK L k = true) : setK L k v = updK L k v := by
  unfold setK
  rw [if_pos h]
  exact upd_findIdx L k v _ h
theorem setK_new {L : List Kv} {k v : ByteArray} (h : hasK L k = false) : setK L k v = insK L k v := by
  unfold setK
  rw [if_neg (by rw [h]; decide)]
  exact ins_findIdx L k v
theorem eqK_refl (k : ByteArray) : eqK k k = true := by simp [eqK]
theorem eqKv_self (k v : ByteArray) : eqKv k ⟨k, v⟩ = true := eqK_refl k
theorem eqKv_not {k o : ByteArray} (h : eqK o k = false) {a : Kv} (ha : eqKv k a = true) : eqKv o a = false := by
  cases hb : eqKv o a with
  | false => rfl
  | true =>
    have h1 : a.k.toList = k.toList := by simpa [eqKv, eqK] using ha
    have h2 : a.k.toList = o.toList := by simpa [eqKv, eqK] using hb
    rw [show eqK o k = true by simp [eqK, ← h1, ← h2]] at h
    cases h
theorem getK_cons (a : Kv) (L : List Kv) (k : ByteArray) : getK (a :: L) k = if eqKv k a = true then some a else getK L k := by
  unfold getK
  rw [List.find?_cons]
  cases eqKv k a <;> rfl
theorem hasK_get (L : List Kv) (k : ByteArray) : hasK L k = (getK L k).isSome := by
  induction L with
  | nil => rfl
  | cons a L ih =>
    rw [hasK_cons, getK_cons, ih]
    cases eqKv k a <;> simp
theorem get_upd {L : List Kv} {k v : ByteArray} (h : hasK L k = true) : ∃ a, getK (updK L k v) k = some a ∧ a.v = v := by
  induction L with
  | nil => cases h
  | cons a L ih =>
    unfold updK
    cases ha : eqKv k a with
    | true =>
      rw [if_pos rfl, getK_cons, show eqKv k ⟨a.k, v⟩ = true from ha, if_pos rfl]
      exact ⟨_, rfl, rfl⟩
    | false =>
      rw [if_neg (by decide), getK_cons, ha, if_neg (by decide)]
      exact ih (by rwa [hasK_cons, ha, Bool.false_or] at h)
theorem get_ins {L : List Kv} {k v : ByteArray} (h : hasK L k = false) : getK (insK L k v) k = some ⟨k, v⟩ := by
  induction L with
  | nil => unfold insK; rw [getK_cons, eqKv_self, if_pos rfl]
  | cons a L ih =>
    rw [hasK_cons, Bool.or_eq_false_iff] at h
    unfold insK
    split
    · rw [getK_cons, eqKv_self, if_pos rfl]
    · rw [getK_cons, h.1, if_neg (by decide)]
      exact ih h.2
theorem get_upd_ne {L : List Kv} {k v o : ByteArray} (hne : eqK o k = false) : getK (updK L k v) o = getK L o := by
  induction L with
  | nil => rfl
  | cons a L ih =>
    unfold updK
    cases ha : eqKv k a with
    | true =>
      rw [if_pos rfl, getK_cons, getK_cons, show eqKv o ⟨a.k, v⟩ = false from eqKv_not hne ha, eqKv_not hne ha, if_neg (by decide), if_neg (by decide)]
    | false => rw [if_neg (by decide), getK_cons, getK_cons, ih]
theorem get_ins_ne {L : List Kv} {k v o : ByteArray} (hne : eqK o k = false) : getK (insK L k v) o = getK L o := by
  induction L with
  | nil => unfold insK; rw [getK_cons, eqKv_not hne (eqKv_self k v), if_neg (by decide)]
  | cons a L ih =>
    unfold insK
    split
    · rw [getK_cons, eqKv_not hne (eqKv_self k v), if_neg (by decide)]
    · rw [getK_cons, getK_cons, ih]
theorem get_del {L : List Kv} {k : ByteArray} : getK (delK L k) k = none := by
  unfold getK delK
  rw [List.find?_eq_none]
  intro x hx
  have := (List.mem_filter.1 hx).2
  simpa using this
theorem get_del_ne {L : List Kv} {k o : ByteArray} (hne : eqK o k = false) : getK (delK L k) o = getK L o := by
  induction L with
  | nil => rfl
  | cons a L ih =>
    unfold delK at ih ⊢
    rw [List.filter_cons]
    cases ha : eqKv k a with
    | true => rw [if_neg (by simp), getK_cons, eqKv_not hne ha, if_neg (by decide), ih]
    | false => rw [if_pos (by simp), getK_cons, getK_cons, ih]
theorem valK_get (L : List Kv) (k : ByteArray) : valK L k = match getK L k with | some x => x.v | none => ⟨#[]⟩ := rfl
theorem has_set (L : List Kv) (k v : ByteArray) : hasK (setK L k v) k = true ∧ valK (setK L k v) k = v := by
  cases h : hasK L k with
  | true =>
    obtain ⟨a, h1, h2⟩ := get_upd (v := v) h
    rw [setK_has h, hasK_get, valK_get, h1]
    exact ⟨rfl, h2⟩
  | false =>
    rw [setK_new h, hasK_get, valK_get, get_ins h]
    exact ⟨rfl, rfl⟩
theorem get_set_ne {L : List Kv} {k v o : ByteArray} (hne : eqK o k = false) : getK (setK L k v) o = getK L o := by
  cases h : hasK L k with
  | true => rw [setK_has h, get_upd_ne hne]
  | false => rw [setK_new h, get_ins_ne hne]
theorem has_set_ne {L : List Kv} {k v o : ByteArray} (hne : eqK o k = false) : hasK (setK L k v) o = hasK L o ∧ valK (setK L k v) o = valK L o := by
  rw [hasK_get, hasK_get, valK_get, valK_get, get_set_ne hne]
  exact ⟨rfl, rfl⟩
theorem has_del (L : List Kv) (k : ByteArray) : hasK (delK L k) k = false := by rw [hasK_get, get_del]; rfl
theorem has_del_ne {L : List Kv} {k o : ByteArray} (hne : eqK o k = false) : hasK (delK L k) o = hasK L o ∧ valK (delK L k) o = valK L o := by
  rw [hasK_get, hasK_get, valK_get, valK_get, get_del_ne hne]
  exact ⟨rfl, rfl⟩
/-! ### Stores whose keys rise -/
def riseR : List Kv → Bool
  | [] => true
  | [_] => true
  | a :: b :: L => ltK a.k b.k && riseR (b :: L)
theorem riseB_eq (L : List Kv) : riseB L = riseR L := by
  induction L with
  | nil => rfl
  | cons a L ih =>
    cases L with
    | nil => rfl
    | cons b L =>
      show (List.range (L.length + 1)).all (upAt (a :: b :: L)) = (ltK a.k b.k && riseR (b :: L))
      rw [← ih, List.range_succ_eq_map, List.all_cons, List.all_map]
      rfl
def Rise (L : List Kv) : Prop := L.Pairwise fun a b => ltK a.k b.k = true
theorem rise_iff (L : List Kv) : riseB L = true ↔ Rise L := by
  rw [riseB_eq]
  induction L with
  | nil => simp [riseR, Rise]
  | cons a L ih =>
    cases L with
    | nil => simp [riseR, Rise]
    | cons b L =>
      unfold Rise at ih ⊢
      rw [List.pairwise_cons, ← ih]
      simp only [riseR, Bool.and_eq_true]
      constructor
      · rintro ⟨h1, h2⟩
        refine ⟨fun x hx => ?_, h2⟩
        rcases List.mem_cons.1 hx with rfl | hx
        · exact h1
        · exact lessK_trans h1 ((List.pairwise_cons.1 (ih.1 h2)).1 x hx)
      · rintro ⟨h1, h2⟩
        exact ⟨h1 b (by simp), h2⟩
theorem rise_keys (L : List Kv) : Rise L ↔ (L.map (·.k)).Pairwise fun a b => ltK a b = true := by
  unfold Rise
  rw [List.pairwise_map]
theorem keys_upd (L : List Kv) (k v : ByteArray) : (updK L k v).map (·.k) = L.map (·.k) := by
  induction L with
  | nil => rfl
  | cons a L ih =>
    unfold updK
    split
    · rfl
    · rw [List.map_cons, List.map_cons, ih]
theorem mem_ins {L : List Kv} {k v : ByteArray} {x : Kv} (h : x ∈ insK L k v) : x = ⟨k, v⟩ ∨ x ∈ L := by
  induction L with
  | nil => left; simpa [insK] using h
  | cons a L ih =>
    unfold insK at h
    split at h
    · exact List.mem_cons.1 h
    · rcases List.mem_cons.1 h with rfl | h
      · right; simp
      · rcases ih h with rfl | h
        · left; rfl
        · right; simp [h]
theorem rise_ins {L : List Kv} {k v : ByteArray} (h : Rise L) (hk : hasK L k = false) : Rise (insK L k v) := by
  induction L with
  | nil => simp [insK, Rise]
  | cons a L ih =>
    unfold Rise at h ih ⊢
    rw [List.pairwise_cons] at h
    rw [hasK_cons, Bool.or_eq_false_iff] at hk
    unfold insK
    split
    · rename_i hg
      rw [List.pairwise_cons, List.pairwise_cons]
      refine ⟨fun x hx => ?_, h⟩
      rcases List.mem_cons.1 hx with rfl | hx
      · exact hg
      · exact lessK_trans hg (h.1 x hx)
    · rename_i hg
      rw [List.pairwise_cons]
      refine ⟨fun x hx => ?_, ih h.2 hk.2⟩
      rcases mem_ins hx with rfl | hx
      · rcases lessK_tri a.k.toList k.toList with h1 | h1 | h1
        · exact h1
        · have := hk.1
          rw [show eqKv k a = true by simp [eqKv, eqK, h1]] at this
          cases this
        · exact absurd h1 hg
      · exact h.1 x hx
theorem rise_set {L : List Kv} (k v : ByteArray) (h : Rise L) : Rise (setK L k v) := by
  cases hk : hasK L k with
  | true => rw [setK_has hk, rise_keys, keys_upd, ← rise_keys]; exact h
  | false => rw [setK_new hk]; exact rise_ins h hk
theorem rise_del {L : List Kv} (k : ByteArray) (h : Rise L) : Rise (delK L k) := List.Pairwise.filter _ h
theorem rise_st {L : List Kv} (c : Cal) (h : Rise L) : Rise (stL c L) := by
  unfold stL
  split
  · exact rise_set _ _ h
  · split
    · exact rise_del _ h
    · exact h
theorem rise_gL {L : List Kv} (G : List Cal) (h : Rise L) : Rise (gL G L) := by
  unfold gL
  induction G generalizing L with
  | nil => exact h
  | cons c G ih => exact ih (rise_st c h)
theorem rise_ap {L : List Kv} (c : Cal) (G : List Cal) (h : Rise L) : Rise (apL c G L) := by
  unfold apL
  split
  · split
    · exact rise_gL G h
    · exact rise_st c h
  · exact h
/-! ### Good puts, and what they say of a del -/
def delC (k : ByteArray) : Cal := ⟨3, k, ⟨#[]⟩, ⟨#[]⟩, none, 0, 0⟩
theorem good_put_del {k v : ByteArray} (h : goodN (putC k v) [] = 0) : goodN (delC k) [] = 0 := by
  have h1 : goodN (putC k v) [] = if hasKey (putC k v) = true then (if (longK k || longV v) = true then (5 : Int) else 0) else 1 := rfl
  have h2 : goodN (delC k) [] = if hasKey (putC k v) = true then (if longK k = true then (5 : Int) else 0) else 1 := rfl
  rw [h1] at h
  rw [h2]
  cases hh : hasKey (putC k v) <;> cases hk : longK k <;> simp [hh, hk] at h ⊢

end Go.Proofs.Ytpmgnhijiodbaaa
