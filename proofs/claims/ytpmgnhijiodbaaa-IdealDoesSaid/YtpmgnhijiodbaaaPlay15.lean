/-
  Proved here: stores whose rows are a call's own; what Apply leaves, its lists named; good calls of the queue.
  Conditions: stores of less than 999,900.
-/
import Derived.Test.YtpmgnhijiodbaaaLarge15
import Derived.Test.YtpmgnhijiodbaaaSame15
namespace Go.Proofs.Ytpmgnhijiodbaaa
open Go Go.RowKit
set_option maxRecDepth 100000

/-- A store whose rows lie in blocks from base on. -/
structure OwnS (w : World) (base : Nat) (A : Option Addr) (n c : Nat) (B : Option Addr) (m d : Nat) (L : List Kv) (Q : List ByteArray) : Prop where
  o1 : w.ownsRow base RP.tE RP.k (.slice A n c) n (RP.enc L)
  o2 : w.ownsRow base RS.tE RS.k (.slice B m d) m (RS.enc Q)
  n1 : L.length = n
  n2 : Q.length = m
theorem OwnS.shv {w : World} {base : Nat} {A B : Option Addr} {n c m d : Nat} {L : List Kv} {Q : List ByteArray} (h : OwnS w base A n c B m d L Q) (hl : L.length ≤ 1048576) (hq : Q.length ≤ 1048576) : Shv w A n c B m d L Q := by
  obtain ⟨_, A', c', e1, _, _, r1, z1, _⟩ := Rec.row_of_own h.o1 hl
  cases e1
  obtain ⟨_, B', d', e2, _, _, r2, z2, _⟩ := Rec.row_of_own h.o2 hq
  cases e2
  exact ⟨r1, r2, h.n1, h.n2, fun e => (z1 e).2, fun e => (z2 e).2⟩
theorem OwnS.below {w w' : World} {base : Nat} {A B : Option Addr} {n c m d : Nat} {L : List Kv} {Q : List ByteArray} (h : OwnS w base A n c B m d L Q) (hb : Below w.heap.size w w') : OwnS w' base A n c B m d L Q := ⟨own_keep h.o1 hb, own_keep h.o2 hb, h.n1, h.n2⟩
theorem OwnS.turn {w w' : World} {base g : Nat} {A B : Option Addr} {n c m d : Nat} {L : List Kv} {Q : List ByteArray} (h : OwnS w base A n c B m d L Q) (hb : Turns g g w w') (hg : g < base) : OwnS w' base A n c B m d L Q :=
  ⟨own_same h.o1 (fun k hk => by
      have h1 := own_ge h.o1 k hk
      exact hb.block k (by omega) (by omega) (own_ltN h.o1 hk)), own_same h.o2 (fun k hk => by
      have h1 := own_ge h.o2 k hk
      exact hb.block k (by omega) (by omega) (own_ltN h.o2 hk)), h.n1, h.n2⟩
theorem OwnS.mono {w : World} {base b : Nat} {A B : Option Addr} {n c m d : Nat} {L : List Kv} {Q : List ByteArray} (h : OwnS w base A n c B m d L Q) (hb : b ≤ base) : OwnS w b A n c B m d L Q := ⟨own_mono h.o1 hb, own_mono h.o2 hb, h.n1, h.n2⟩
/-- What Apply leaves, its lists named. -/
def AppS (w : World) (L' : List Kv) (Q' : List ByteArray) (cd : Int) (f : Bool) (v : ByteArray) (M : List Kv) (H : List Bool) (e : Ending) (w' : World) : Prop :=
  ∃ A n c B m d A2 n2 c2 B2 m2 d2, e = .returned (.tuple #[.agg #[.slice A n c, .slice B m d], .agg #[.int .i64 cd, .bool f, .string v, .slice A2 n2 c2, .slice B2 m2 d2, .int .u64 0]]) ∧ OwnS w' w.heap.size A n c B m d L' Q' ∧ (∀ k, (Value.slice A n c).ownBlock = some k → (Value.slice B m d).ownBlock ≠ some k) ∧ w'.ownsRow w.heap.size RP.tE RP.k (.slice A2 n2 c2) n2 (RP.enc M) ∧ w'.ownsRow w.heap.size RB.tE RB.k (.slice B2 m2 d2) m2 (RB.enc H) ∧ M.length = n2 ∧ H.length = m2 ∧ Below w.heap.size w w'
theorem app_as {w : World} {A B : Option Addr} {n cp m d : Nat} {L L' M : List Kv} {Q Q' : List ByteArray} {cd : Int} {f : Bool} {v : ByteArray} {H : List Bool} (h : Shv w A n cp B m d L Q) (hl : L.length + 100 < 1000000) (hq : Q.length + 100 < 1000000) (c : Cal) (G : List Cal) (hG : Grp w c G)
    (h1 : apL c G L = L') (h2 : apQ c G Q = Q') (h3 : goodN c G = cd) (h4 : apF c G L Q = f) (h5 : apV c G L Q = v) (h6 : apM c G L = M) (h7 : apH c G L Q = H) :
    Calls Try.prog 13 #[.agg #[.slice A n cp, .slice B m d], .agg #[.int .i64 c.kd, .string c.key, .string c.val, .string c.to_, .slice c.ga c.gn c.gc]] w (AppS w L' Q' cd f v M H) := by
  refine (apply15_any h hl hq c G hG).mono ?_
  rintro e w' ⟨A, c1, B, d1, A2, c2, B2, d2, rfl, o1, o2, o3, o4, o5, o6⟩
  rw [h1] at o1 o3
  rw [h2] at o2 o3
  rw [h6] at o4
  rw [h7] at o5
  rw [h1, h2, h3, h4, h5, h6, h7]
  exact ⟨_, _, _, _, _, _, _, _, _, _, _, _, rfl, ⟨o1, o2, rfl, rfl⟩, o3, o4, o5, rfl, rfl, o6⟩
/-! ### What good calls of each kind come to -/
theorem ap_good {c : Cal} {G : List Cal} (h : goodN c G = 0) (h7 : (c.kd == 7) = false) (L : List Kv) (Q : List ByteArray) : apL c G L = stL c L ∧ apQ c G Q = stQ c Q ∧ apF c G L Q = fnd c L Q ∧ apV c G L Q = vlu c L Q ∧ apM c G L = prs c L ∧ apH c G L Q = [] := by
  unfold apL apQ apF apV apM apH
  rw [if_pos h, if_pos h, if_pos h, if_pos h, if_pos h, if_pos h, h7]
  exact ⟨rfl, rfl, rfl, rfl, rfl, rfl⟩
theorem ap_bad {c : Cal} {G : List Cal} (h : ¬ goodN c G = 0) (L : List Kv) (Q : List ByteArray) : apL c G L = L ∧ apQ c G Q = Q ∧ apF c G L Q = false ∧ apV c G L Q = ⟨#[]⟩ ∧ apM c G L = [] ∧ apH c G L Q = [] := by
  unfold apL apQ apF apV apM apH
  rw [if_neg h, if_neg h, if_neg h, if_neg h, if_neg h, if_neg h]
  exact ⟨rfl, rfl, rfl, rfl, rfl, rfl⟩
def enqC (v : ByteArray) : Cal := ⟨4, ⟨#[]⟩, v, ⟨#[]⟩, none, 0, 0⟩
def deqC : Cal := ⟨5, ⟨#[]⟩, ⟨#[]⟩, ⟨#[]⟩, none, 0, 0⟩
theorem good_enq {v : ByteArray} (h : decide ((400 : Int) < (v.size : Int)) = false) : goodN (enqC v) [] = 0 := by
  show (if formC (enqC v) [] = true then (if decide ((400 : Int) < (v.size : Int)) = true then (5 : Int) else 0) else 1) = 0
  rw [h]
  rfl
theorem good_deq : goodN deqC [] = 0 := rfl
theorem enq_any {w : World} {A B : Option Addr} {n cp m d : Nat} {L : List Kv} {Q : List ByteArray} (h : Shv w A n cp B m d L Q) (hl : L.length + 100 < 1000000) (hq : Q.length + 100 < 1000000) (v : ByteArray) (hv : decide ((400 : Int) < (v.size : Int)) = false) :
    Calls Try.prog 13 #[.agg #[.slice A n cp, .slice B m d], .agg #[.int .i64 4, .string ⟨#[]⟩, .string v, .string ⟨#[]⟩, .slice none 0 0]] w (AppS w L (Q ++ [v]) 0 false ⟨#[]⟩ [] []) := by
  obtain ⟨q1, q2, q3, q4, q5, q6⟩ := ap_good (good_enq hv) rfl L Q
  exact app_as h hl hq (enqC v) [] (grp_none w _ rfl rfl) q1 q2 (good_enq hv) q3 q4 q5 q6
theorem deq_any {w : World} {A B : Option Addr} {n cp m d : Nat} {L : List Kv} {Q : List ByteArray} (h : Shv w A n cp B m d L Q) (hl : L.length + 100 < 1000000) (hq : Q.length + 100 < 1000000) :
    Calls Try.prog 13 #[.agg #[.slice A n cp, .slice B m d], .agg #[.int .i64 5, .string ⟨#[]⟩, .string ⟨#[]⟩, .string ⟨#[]⟩, .slice none 0 0]] w (AppS w L Q.tail 0 (anyQ Q) (firstQ Q) [] []) := by
  obtain ⟨q1, q2, q3, q4, q5, q6⟩ := ap_good good_deq rfl L Q
  exact app_as h hl hq deqC [] (grp_none w _ rfl rfl) q1 q2 good_deq q3 q4 q5 q6
theorem xa_below {w a b c d : World} {g h : Nat} (hl : g < h) (h1 : Below g w a) (h2 : Below h a b) (h3 : Turns g g b c) (h4 : Turns h h c d) (hs : g < a.heap.size) : Below g w d := by
  have e2 : g ≤ b.heap.size := Nat.le_trans (Nat.le_of_lt hs) h2.size
  have e3 : g ≤ c.heap.size := Nat.le_trans e2 (stay_of_turns h3).size
  exact ((h1.trans (h2.mono (Nat.le_of_lt hl))).trans ((stay_of_turns h3).below (fun k e => by rw [show k = g from e]; exact Nat.le_refl _) e2)).trans ((stay_of_turns h4).below (fun k e => by rw [show k = h from e]; exact Nat.le_of_lt hl) e3)
theorem turn_below {w a : World} {g h : Nat} (h4 : Turns h h w a) (hl : g ≤ h) (hs : g ≤ w.heap.size) : Below g w a := (stay_of_turns h4).below (fun k e => by rw [show k = h from e]; exact hl) hs

end Go.Proofs.Ytpmgnhijiodbaaa
