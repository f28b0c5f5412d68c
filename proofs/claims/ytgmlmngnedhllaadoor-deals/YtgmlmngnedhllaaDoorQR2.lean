/- The document's Deal: what its lists hold, the words at a place. -/
import Derived.Test.YtgmlmngnedhllaaDoorQR1
namespace Go.Proofs.YtgmlmngnedhllaaDoor
open Go.RowKit

/-- How many of each kind are there. -/
def cnt (i j l : Nat) : Nat → Nat := fun q => if q = 0 ∨ q = 3 then i else if q = 1 ∨ q = 4 then j else l
theorem cnt_T (i j l : Nat) : put6 (put6 (cnt i j l) 0 (i + 1)) 3 (i + 1) = cnt (i + 1) j l := by
  funext q
  simp only [put6, cnt]
  by_cases h3 : q = 3
  · simp [h3]
  · by_cases h0 : q = 0
    · simp [h0]
    · simp [h3, h0]
theorem cnt_B (i j l : Nat) : put6 (put6 (cnt i j l) 1 (j + 1)) 4 (j + 1) = cnt i (j + 1) l := by
  funext q
  simp only [put6, cnt]
  by_cases h3 : q = 4
  · simp [h3]
  · by_cases h0 : q = 1
    · simp [h0]
    · simp [h3, h0]
theorem cnt_O (i j l : Nat) (q : Nat) (hq : q < 6) : put6 (put6 (cnt i j l) 2 (l + 1)) 5 (l + 1) q = cnt i j (l + 1) q := by
  rcases (show q = 0 ∨ q = 1 ∨ q = 2 ∨ q = 3 ∨ q = 4 ∨ q = 5 by omega) with rfl | rfl | rfl | rfl | rfl | rfl <;> simp [put6, cnt]
/-- What the document's lists hold. -/
def YY (f : Nat → Int) (n1 n2 : Nat) : Nat → Nat → Nat → Int := fun q => if q = 0 then T0 f 0 else if q = 1 then T0 f (5 * n1) else if q = 2 then O0 f (5 * (n1 + n2)) else if q = 3 then T1 f 0 else if q = 4 then B1 f (5 * n1) else O1 f (5 * (n1 + n2))
def CC (f : Nat → Int) (n1 n2 : Nat) : Nat → Nat → Bool := fun q => if q = 2 then fun _ => false else C1 f (5 * (n1 + n2))
theorem eqs1 (f : Nat → Int) (n1 n2 k p : Nat) (hp : 5 * k = p) : (f p = YY f n1 n2 0 k 0 ∧ f (p + 2) = YY f n1 n2 0 k 1 ∧ f (p + 4) = YY f n1 n2 0 k 2) ∧ f (p + 1) = YY f n1 n2 3 k 0 ∧ f (p + 3) = YY f n1 n2 3 k 1 ∧ IntKind.u64.wrap (IntKind.u64.wrap (IntKind.u64.wrap (f p + f (p + 1)) * IntKind.u64.wrap (f (p + 2) + f (p + 3))) - f (p + 4)) = YY f n1 n2 3 k 2 := by
  subst hp
  simp [YY, T0, T1, lackT]
theorem eqs2 (f : Nat → Int) (n1 n2 k p : Nat) (hp : 5 * (n1 + k) = p) : (f p = YY f n1 n2 1 k 0 ∧ f (p + 2) = YY f n1 n2 1 k 1 ∧ f (p + 4) = YY f n1 n2 1 k 2) ∧ f (p + 1) = YY f n1 n2 4 k 0 ∧ f (p + 3) = YY f n1 n2 4 k 1 ∧ bits .xor .u64 (bits .and .u64 (bits .xor .u64 (f p) (f (p + 1))) (bits .xor .u64 (f (p + 2)) (f (p + 3)))) (f (p + 4)) = YY f n1 n2 4 k 2 := by
  subst hp
  simp [YY, T0, B1, lackB, Nat.mul_add]
theorem eqs3 (f : Nat → Int) (n1 n2 k p : Nat) (hp : 5 * (n1 + n2 + k) = p) : (f p = YY f n1 n2 2 k 0 ∧ f (p + 1) = YY f n1 n2 2 k 1 ∧ f (p + 2) = YY f n1 n2 2 k 2 ∧ f (p + 3) = YY f n1 n2 2 k 3 ∧ false = CC f n1 n2 2 k) ∧ (f (p + 4) % 2 = 1 → f (p + 2) = YY f n1 n2 5 k 0 ∧ f (p + 3) = YY f n1 n2 5 k 1 ∧ 0 = YY f n1 n2 5 k 2 ∧ 0 = YY f n1 n2 5 k 3 ∧ true = CC f n1 n2 5 k) ∧ (¬ f (p + 4) % 2 = 1 → f p = YY f n1 n2 5 k 0 ∧ f (p + 1) = YY f n1 n2 5 k 1 ∧ 0 = YY f n1 n2 5 k 2 ∧ 0 = YY f n1 n2 5 k 3 ∧ false = CC f n1 n2 5 k) := by
  subst hp
  have e : 5 * (n1 + n2) + 5 * k = 5 * (n1 + n2 + k) := by omega
  refine ⟨by simp [YY, CC, O0, e], fun h => ?_, fun h => ?_⟩
  · simp [YY, CC, O1, C1, e, h]
  · simp [YY, CC, O1, C1, e, h]
theorem Ro.start (w : World) (Y : Nat → Nat → Nat → Int) (C : Nat → Nat → Bool) : Ro w w.heap.size Y C (fun _ => .slice none 0 0) (cnt 0 0 0) (w.alloc (.cells #[.slice none 0 0, .slice none 0 0, .slice none 0 0, .slice none 0 0, .slice none 0 0, .slice none 0 0] 38)) := by
  have hc : ∀ q, cnt 0 0 0 q = 0 := fun q => by unfold cnt; split <;> (try split) <;> rfl
  refine ⟨Blk.new w _ _, fun q _ => ?_, fun q _ => ?_, fun p q b _ _ h _ => (by cases h), fun q _ h => (by cases h), (Below.refl _ w).alloc (Nat.le_refl _) _, Nat.le_refl _⟩
  · rw [hc]; exact World.ownsRow_nil _ _ _ _
  · rw [hc]; exact World.ownsRow_nil _ _ _ _
theorem Ro.addTn {w w' : World} {m : Nat} {Y : Nat → Nat → Nat → Int} {C : Nat → Nat → Bool} {V : Nat → Value} {n : Nat → Nat} (h : Ro w m Y C V n w') (q : Nat) (hq : q = 0 ∨ q = 1 ∨ q = 3 ∨ q = 4) (k : Nat) (hk : n q = k) (hn : k ≤ 100000) (x0 x1 x2 : Int) (h0 : x0 = Y q k 0) (h1 : x1 = Y q k 1) (h2 : x2 = Y q k 2) :
    ∃ A c w2, (Builtin.append_ #[34, 34] 34 #[V q, .slice (some ⟨w'.heap.size, 0, none⟩) 1 1]).run Tryd.prog (w'.alloc (.cells #[.int .u64 x0, .int .u64 x1, .int .u64 x2] 48)) = .ok (.slice A (k + 1) c) w2 ∧
      w2.cell? ⟨m, q, none⟩ = some (V q) ∧ w2.frozen? ⟨m, q, none⟩ = false ∧ Ro w m Y C (put6 V q (.slice A (k + 1) c)) (put6 n q (k + 1)) (w2.setCell ⟨m, q, none⟩ (.slice A (k + 1) c)) ∧ Below w.heap.size w w2 := by
  subst hk
  obtain ⟨v, w2, h1, ⟨A, c, rfl⟩, h3⟩ := h.addT q hq hn x0 x1 x2 h0 h1 h2
  exact ⟨A, c, w2, h1, h3⟩
theorem Ro.addOn {w w' : World} {m : Nat} {Y : Nat → Nat → Nat → Int} {C : Nat → Nat → Bool} {V : Nat → Value} {n : Nat → Nat} (h : Ro w m Y C V n w') (q : Nat) (hq : q = 2 ∨ q = 5) (k : Nat) (hk : n q = k) (hn : k ≤ 100000) (x0 x1 x2 x3 : Int) (ch : Bool) (h0 : x0 = Y q k 0) (h1 : x1 = Y q k 1) (h2 : x2 = Y q k 2) (h3 : x3 = Y q k 3) (h4 : ch = C q k) :
    ∃ A c w2, (Builtin.append_ #[35, 35] 35 #[V q, .slice (some ⟨w'.heap.size, 0, none⟩) 1 1]).run Tryd.prog (w'.alloc (.cells #[.int .u64 x0, .int .u64 x1, .int .u64 x2, .int .u64 x3, .bool ch] 55)) = .ok (.slice A (k + 1) c) w2 ∧
      w2.cell? ⟨m, q, none⟩ = some (V q) ∧ w2.frozen? ⟨m, q, none⟩ = false ∧ Ro w m Y C (put6 V q (.slice A (k + 1) c)) (put6 n q (k + 1)) (w2.setCell ⟨m, q, none⟩ (.slice A (k + 1) c)) ∧ Below w.heap.size w w2 ∧
      ∀ b, b < w'.heap.size → (V q).ownBlock ≠ some b → b ≠ m → (w2.setCell ⟨m, q, none⟩ (.slice A (k + 1) c)).heap[b]? = w'.heap[b]? := by
  subst hk
  obtain ⟨v, w2, h1, ⟨A, c, rfl⟩, h3⟩ := h.addO q hq hn x0 x1 x2 x3 ch h0 h1 h2 h3 h4
  exact ⟨A, c, w2, h1, h3⟩
theorem Ro.listT {w w' : World} {m : Nat} {Y : Nat → Nat → Nat → Int} {C : Nat → Nat → Bool} {V : Nat → Value} {n : Nat → Nat} (h : Ro w m Y C V n w') (q : Nat) (hq : q = 0 ∨ q = 1 ∨ q = 3 ∨ q = 4) (k : Nat) (hk : n q = k) :
    ∃ B cp, V q = .slice B k cp ∧ AtT w' B k (Y q) ∧ ∀ ad, B = some ad → w.heap.size ≤ ad.block := by
  subst hk
  rcases (h.t q hq).2 with ⟨e1, e2⟩ | ⟨g, cap, cur, e, hg, hG, hnc, _, hsz, htk⟩
  · exact ⟨none, 0, by rw [e1, e2], fun i hi => absurd hi (by omega), fun ad h => by cases h⟩
  · exact ⟨some ⟨g, 0, none⟩, cap, e, atT_of_row (Y q) hG htk, fun ad h => by cases h; exact hg⟩
theorem Ro.listO {w w' : World} {m : Nat} {Y : Nat → Nat → Nat → Int} {C : Nat → Nat → Bool} {V : Nat → Value} {n : Nat → Nat} (h : Ro w m Y C V n w') (q : Nat) (hq : q = 2 ∨ q = 5) (k : Nat) (hk : n q = k) :
    ∃ B cp, V q = .slice B k cp ∧ AtO3 w' B k (Y q) (C q) ∧ ∀ ad, B = some ad → w.heap.size ≤ ad.block := by
  subst hk
  rcases (h.o q hq).2 with ⟨e1, e2⟩ | ⟨g, cap, cur, e, hg, hG, hnc, _, hsz, htk⟩
  · exact ⟨none, 0, by rw [e1, e2], fun i hi => absurd hi (by omega), fun ad h => by cases h⟩
  · exact ⟨some ⟨g, 0, none⟩, cap, e, atO_of_row (Y q) (C q) hG htk, fun ad h => by cases h; exact hg⟩
/-- What the document's Deal tells of these words. -/
def Got (w : World) (f : Nat → Int) (n1 n2 n3 : Nat) (e : Ending) (w' : World) : Prop :=
  ∃ B0 B1 B2 B3 B4 B5 c0 c1 c2 c3 c4 c5, e = .returned (.tuple #[.agg #[.slice B0 n1 c0, .slice B1 n2 c1, .slice B2 n3 c2, .slice B3 n1 c3, .slice B4 n2 c4, .slice B5 n3 c5], .int .i64 0]) ∧
    (AtT w' B0 n1 (T0 f 0) ∧ AtT w' B1 n2 (T0 f (5 * n1)) ∧ AtO3 w' B2 n3 (O0 f (5 * (n1 + n2))) (fun _ => false) ∧ AtT w' B3 n1 (T1 f 0) ∧ AtT w' B4 n2 (Go.Proofs.YtgmlmngnedhllaaDoor.B1 f (5 * n1)) ∧ AtO3 w' B5 n3 (O1 f (5 * (n1 + n2))) (C1 f (5 * (n1 + n2)))) ∧
    (∀ B, B = B0 ∨ B = B1 ∨ B = B2 ∨ B = B3 ∨ B = B4 ∨ B = B5 → ∀ ad, B = some ad → w.heap.size ≤ ad.block) ∧ Below w.heap.size w w'
/-- Two labels that were laid beside. -/
def Zl (w : World) (a x y : Nat) (f g : Int) : Prop := a ≤ x ∧ Blk w x 52 #[.int .u64 f, .int .u64 g] ∧ x = y
theorem tmod_two (z : Int) (h : 0 ≤ z) : z.tmod 2 = z % 2 := Int.tmod_eq_emod_of_nonneg h
theorem Ro.congr {w w' : World} {m : Nat} {Y : Nat → Nat → Nat → Int} {C : Nat → Nat → Bool} {V : Nat → Value} {n n' : Nat → Nat} (h : Ro w m Y C V n w') (he : ∀ q, q < 6 → n q = n' q) : Ro w m Y C V n' w' :=
  ⟨h.b, fun q hq => by rw [← he q (by omega)]; exact h.t q hq, fun q hq => by rw [← he q (by omega)]; exact h.o q hq, h.d, h.mb, h.bl, h.hm⟩
theorem idx_nums (len p : Nat) (h : p + 5 ≤ len) (hl : len ≤ 2000) : IntKind.i64.wrap ((p : Int) + 1) = (p : Int) + 1 ∧ IntKind.i64.wrap ((p : Int) + 2) = (p : Int) + 2 ∧ IntKind.i64.wrap ((p : Int) + 3) = (p : Int) + 3 ∧ IntKind.i64.wrap ((p : Int) + 4) = (p : Int) + 4 ∧ IntKind.i64.wrap ((p : Int) + 5) = (p : Int) + 5 ∧ (p : Int) < (len : Int) ∧ (p : Int) + 1 < (len : Int) ∧ (p : Int) + 2 < (len : Int) ∧ (p : Int) + 3 < (len : Int) ∧ (p : Int) + 4 < (len : Int) ∧ (0 : Int) ≤ (p : Int) :=
  ⟨i64_nat _ (by omega) (by omega), i64_nat _ (by omega) (by omega), i64_nat _ (by omega) (by omega), i64_nat _ (by omega) (by omega), i64_nat _ (by omega) (by omega), by omega, by omega, by omega, by omega, by omega, by omega⟩
theorem idx_nums2 (p : Nat) : ((0 : Int) ≤ (p : Int) + 1 ∧ (0 : Int) ≤ (p : Int) + 2 ∧ (0 : Int) ≤ (p : Int) + 3 ∧ (0 : Int) ≤ (p : Int) + 4) ∧ (((p : Int) + 1).toNat = p + 1 ∧ ((p : Int) + 2).toNat = p + 2 ∧ ((p : Int) + 3).toNat = p + 3 ∧ ((p : Int) + 4).toNat = p + 4) :=
  ⟨⟨by omega, by omega, by omega, by omega⟩, by omega, by omega, by omega, by omega⟩
theorem word_forms {w : World} {ad : Addr} {p j : Nat} {u : Value} (hj : 0 < j) (h : w.cell? (ad.add (p + j)) = some u) : w.cell? ⟨ad.block, ad.off + (p + j), none⟩ = some u := by
  unfold Addr.add at h
  rw [if_neg (by omega)] at h
  exact h
/-- A list's cell and five words, in every form that the walk asks for. -/
structure Wx (w : World) (ad : Addr) (p : Nat) (f : Nat → Int) (m q : Nat) (v : Value) : Prop where
  v0 : w.cell? ⟨m, q, none⟩ = some v
  x0 : w.cell? (ad.add p) = some (.int .u64 (f p))
  x1 : w.cell? ⟨ad.block, ad.off + (p + 1), none⟩ = some (.int .u64 (f (p + 1)))
  x2 : w.cell? ⟨ad.block, ad.off + (p + 2), none⟩ = some (.int .u64 (f (p + 2)))
  x3 : w.cell? ⟨ad.block, ad.off + (p + 3), none⟩ = some (.int .u64 (f (p + 3)))
  x4 : w.cell? ⟨ad.block, ad.off + (p + 4), none⟩ = some (.int .u64 (f (p + 4)))
theorem Wx.of {w : World} {ad : Addr} {p len m q : Nat} {f : Nat → Int} {v : Value} (hA : AtO w (some ad) len f) (hp : p + 5 ≤ len) (hv : w.cell? ⟨m, q, none⟩ = some v) : Wx w ad p f m q v := by
  have h : ∀ j, j < 5 → w.cell? (ad.add (p + j)) = some (.int .u64 (f (p + j))) := fun j hj => by
    obtain ⟨ad', e, hc⟩ := hA (p + j) (by omega)
    cases e
    exact hc
  exact ⟨hv, h 0 (by omega), word_forms (by omega) (h 1 (by omega)), word_forms (by omega) (h 2 (by omega)), word_forms (by omega) (h 3 (by omega)), word_forms (by omega) (h 4 (by omega))⟩
end Go.Proofs.YtgmlmngnedhllaaDoor
