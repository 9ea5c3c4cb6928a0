/-
  Proved here: entries whose epochs do not fall; what '&' with a small number gives; a bag and a clock beside a variable.
  Conditions: none.
-/
import Derived.Test.YtfonjkbdonbjdaaEntry10
import Derived.Test.YtfonjkbdonbjdaaRef10C
import Derived.Test.YtfonjkbdonbjdaaLent
import Derived.Deep.RegionWith
namespace Go.Proofs.Ytfonjkbdonbjdaa
open Go Go.RowKit

theorem and_small (x : Int) (m : Nat) (hm : m < 1073741824) : ∃ b : Nat, bits BinOp.and IntKind.i64 x (m : Int) = (b : Int) ∧ b ≤ m := by
  refine ⟨(BitVec.ofInt 64 x &&& BitVec.ofInt 64 (m : Int)).toNat, ?_, ?_⟩
  · have h1 : (BitVec.ofInt 64 x &&& BitVec.ofInt 64 (m : Int)).toNat ≤ m := by
      rw [BitVec.toNat_and]
      refine Nat.le_trans Nat.and_le_right ?_
      simp
      omega
    have e : bits BinOp.and IntKind.i64 x (m : Int) = IntKind.i64.wrap (((BitVec.ofInt 64 x &&& BitVec.ofInt 64 (m : Int)).toNat : Nat) : Int) := rfl
    rw [e]
    generalize (BitVec.ofInt 64 x &&& BitVec.ofInt 64 (m : Int)).toNat = v at *
    simp only [IntKind.wrap, IntKind.signed, IntKind.bits]
    simp
    omega
  · rw [BitVec.toNat_and]
    refine Nat.le_trans Nat.and_le_right ?_
    simp
    omega
theorem ints_at {w : World} {a : Option Addr} {len cap : Nat} {zs : List Int} (h : IsRow .i64 w a len cap zs) {i : Nat} (hi : i < len) : ∃ b off z, a = some ⟨b, off, none⟩ ∧ ∀ wx, Below w.heap.size w wx → wx.cell? ⟨b, off + i, none⟩ = some (.int .i64 z) := by
  rcases h with ⟨rfl, rfl, rfl, rfl⟩ | ⟨x, rfl, hlc, _, hz, hcell, hwz⟩
  · omega
  · have h00 := hcell 0 (by omega)
    have h0 := hcell i (by omega)
    obtain ⟨b, off, spot⟩ := x
    have hspot : spot = none := by simpa [Addr.add] using World.cell?_spot h00
    subst hspot
    rw [add_plain] at h0
    exact ⟨b, off, _, rfl, fun wx hb => (hb.cell (p := ⟨b, off + i, none⟩) (by simpa using World.block_lt_of_cell? _ _ h0)).trans h0⟩
/-- Entries whose lines count on from a number, whose epochs do not fall. -/
structure TuE (L : List En) (next : Nat) : Prop where
  line : ∀ k e, L[k]? = some e → e.line = ((next + k : Nat) : Int)
  rises : RisesE L
theorem tuE_nil (n : Nat) : TuE [] n := ⟨fun k e h => by simp at h, List.Pairwise.nil⟩
theorem TuE.put {L : List En} {n : Nat} (h : TuE L n) {e : En} (he : e.line = ((n + L.length : Nat) : Int)) (hr : ∀ x ∈ L, x.r ≤ e.r ∧ x.d ≤ e.d) : TuE (L ++ [e]) n := by
  refine ⟨fun k x hk => ?_, List.pairwise_append.2 ⟨h.rises, by simp, fun a ha b hb => ?_⟩⟩
  · rcases Nat.lt_or_ge k L.length with h1 | h1
    · rw [List.getElem?_append_left h1] at hk
      exact h.line k x hk
    · rw [List.getElem?_append_right h1] at hk
      obtain ⟨h2, rfl⟩ := List.getElem?_eq_some_iff.1 hk
      have : k = L.length := by simp at h2; omega
      subst this
      simpa using he
  · obtain rfl : b = e := by simpa using hb
    exact hr a ha
theorem TuE.tail {L : List En} {n : Nat} (h : TuE L n) : TuE (L.eraseIdx 0) (n + 1) := by
  cases L with
  | nil => exact tuE_nil _
  | cons a L =>
    refine ⟨fun k e hk => ?_, rises_tail h.rises⟩
    have := h.line (k + 1) e (by simpa using hk)
    rw [this]
    omega
theorem quiet_down (R : List Nat) (x y : Nat) (h : x ≤ y) (hq : quietB R y = true) : quietB R x = true := by
  rw [quietB_iff] at hq ⊢
  intro z hz
  rcases hq z hz with h1 | h1
  · exact .inl h1
  · exact .inr (by omega)
theorem TuE.pop {L : List En} {n : Nat} (h : TuE L n) (R : List Nat) (D : Nat) : (hasE (readyB (quietB R) D) L = true → (headE (readyB (quietB R) D) L).line = (n : Int) ∧ TuE (popE (readyB (quietB R) D) L) (n + 1) ∧ (popE (readyB (quietB R) D) L).length + 1 = L.length) ∧ (hasE (readyB (quietB R) D) L = false → popE (readyB (quietB R) D) L = L) := by
  constructor
  · intro hh
    have hl : firstAt (readyB (quietB R) D) L < L.length := by simpa [hasE] using hh
    have h0 : firstAt (readyB (quietB R) D) L = 0 := by
      rcases rises_first h.rises (readyB (quietB R) D) (fun a b h1 h2 h3 => ready_down (quietB R) (fun x y hxy hq => quiet_down R x y hxy hq) D a b h1 h2 h3) with e | e
      · exact e
      · omega
    have hat := head_at hh
    have hp : popE (readyB (quietB R) D) L = L.eraseIdx 0 := by unfold popE; rw [if_pos hh, h0]
    rw [h0] at hat
    refine ⟨by simpa using h.line 0 _ hat, by rw [hp]; exact h.tail, ?_⟩
    rw [hp, List.length_eraseIdx, if_pos (by omega)]
    omega
  · intro hh
    unfold popE
    rw [hh]
    rfl
section
variable {w0 w w' : World} {g p q rp rq now bx : Nat} {L : List En} {R : List Nat}
theorem Br.boxed (h : Br w0 g w p q L rp rq R now) (ht : Turns bx bx w w') (hg : g ≤ bx) (h1 : Dis p q bx bx) (h2 : Dis rp rq bx bx) : Br w0 g w' p q L rp rq R now :=
  ⟨h.bg.turns ht h1.1 h1.1 h1.2.2.1 h1.2.2.1, h.rd.turns ht h2.1 h2.1 h2.2.2.1 h2.2.2.1, h.bel.trans (ht.below hg hg h.gw), h.sz, h.gp, h.gq, h.grp, h.grq, h.dis⟩
end
theorem Br.moved2 {w0 w w' : World} {g p q rp rq now : Nat} {L L' : List En} {R : List Nat} (h : Br w0 g w p q L rp rq R now) (hb : BgTo w p g q L' w') : ∃ q', Br w0 g w' p q' L' rp rq R now ∧ (q' = q ∨ w.heap.size ≤ q') ∧ Turns p q w w' := by
  obtain ⟨q', h1, h2, h3⟩ := hb
  exact ⟨q', ⟨h1, h.rd.turns h2 h.dis.1.symm h.dis.2.2.1.symm h.dis.2.1.symm h.dis.2.2.2.symm, h.bel.trans (h2.below h.gp h.gq h.gw), h.sz, h.gp, by
    rcases h3 with e | e
    · rw [e]; exact h.gq
    · exact Nat.le_trans h.gw e, h.grp, h.grq, h.dis.moved (.inr h3) h.rd.lt_p h.rd.lt_q⟩, h3, h2⟩

end Go.Proofs.Ytfonjkbdonbjdaa
