/- What CorrLoads needs: a list appended to an empty one. -/
import Derived.Test.YtgmlmngnedhllaaDoorQG
namespace Go.Proofs.YtgmlmngnedhllaaDoor
open Go.RowKit

/-- A row's things, read as a list. -/
theorem atT_of_row {w : World} {g n : Nat} {cur : Array Value} (y : Nat → Nat → Int) (hg : Blk w g 48 cur) (ht : cur.toList.take (n * 3) = flatT n y) : AtT w (some ⟨g, 0, none⟩) n y := fun i hi => by
  have hget := flatT_get n y i hi
  have key : ∀ j v, j < 3 → (flatT n y)[i * 3 + j]? = some v → w.cell? ((⟨g, 0, none⟩ : Addr).add (i * 3 + j)) = some v := fun j v hj hv => by
    rw [Addr.add_mid, Nat.zero_add]
    refine hg.cell _ ?_
    rw [← ht, List.getElem?_take, if_pos (by omega)] at hv
    simpa using hv
  exact ⟨_, rfl, key 0 _ (by omega) hget.1, key 1 _ (by omega) hget.2.1, key 2 _ (by omega) hget.2.2⟩
theorem append_listT (w : World) (A : Option Addr) (n cp : Nat) (y : Nat → Nat → Int) (hA : AtT w A n y) (h0 : A = none → n = 0 ∧ cp = 0) (hn : n ≤ 1000000) :
    ∃ g cap cur w', (Builtin.append_ #[34, 34] 34 #[.slice (some ⟨w.heap.size, 0, none⟩) 0 0, .slice A n cp]).run Tryd.prog (w.alloc (.cells #[] 48)) = .ok (.slice (some ⟨g, 0, none⟩) n cap) w' ∧ w.heap.size ≤ g ∧ Blk w' g 48 cur ∧ cur.size = cap * 3 ∧ n ≤ cap ∧ AtT w' (some ⟨g, 0, none⟩) n y ∧ Below w.heap.size w w' := by
  obtain ⟨i0, hi, hz0, hz1, hz2⟩ := infoT
  have hb : Below w.heap.size w (w.alloc (.cells #[] 48)) := (Below.refl _ w).alloc (Nat.le_refl _) _
  have ho : (w.alloc (.cells #[] 48)).ownsRow w.heap.size 48 3 (.slice (some ⟨w.heap.size, 0, none⟩) 0 0) 0 [] :=
    ⟨rfl, .inr ⟨w.heap.size, 0, #[], rfl, Nat.le_refl _, heap_alloc_new w _, Nat.le_refl _, Nat.zero_le _, rfl, rfl⟩⟩
  rcases A with _ | ad
  · obtain ⟨rfl, rfl⟩ := h0 rfl
    exact ⟨w.heap.size, 0, #[], _, run_append_owned_none _ w.heap.size 34 34 48 i0 3 Tryd.underlying34 hi _ 0 _ ho, Nat.le_refl _, Blk.new w _ _, rfl, Nat.le_refl _, fun i hi => absurd hi (by omega), hb⟩
  · obtain ⟨v', w', hr, h2, h3, h4, h5⟩ := run_append_own_at (w.alloc (.cells #[] 48)) w.heap.size 34 34 48 i0 (.agg #[.int .u64 0, .int .u64 0, .int .u64 0]) 3 24 Tryd.underlying34 hi hz0 hz1 hz2 rfl (by omega) _ 0 [] ho ad n cp (flatT n y) (flatT_length n y) (hA.below hb).flat (flatT_one n y) (by unfold maxLen; omega) (by omega) (by simp)
    have hbl : Below w.heap.size w w' := hb.grown h3 (by simp) fun q hq => by simp [Value.ownBlock] at hq; omega
    rw [Nat.zero_add, List.nil_append] at h2
    rcases h2.2 with ⟨e1, e2⟩ | ⟨g, cap, cur, rfl, hg, hG, hnc, _, hsz, htk⟩
    · exact absurd (h4.1 e1).1 (by simp)
    · exact ⟨g, cap, cur, w', hr, hg, hG, hsz, hnc, atT_of_row y hG htk, hbl⟩

/-- A row's things, read as a list. -/
theorem atO_of_row {w : World} {g n : Nat} {cur : Array Value} (y : Nat → Nat → Int) (c : Nat → Bool) (hg : Blk w g 55 cur) (ht : cur.toList.take (n * 5) = flatO n y c) : AtO3 w (some ⟨g, 0, none⟩) n y c := fun i hi => by
  have hget := flatO_get n y c i hi
  have key : ∀ j v, j < 5 → (flatO n y c)[i * 5 + j]? = some v → w.cell? ((⟨g, 0, none⟩ : Addr).add (i * 5 + j)) = some v := fun j v hj hv => by
    rw [Addr.add_mid, Nat.zero_add]
    refine hg.cell _ ?_
    rw [← ht, List.getElem?_take, if_pos (by omega)] at hv
    simpa using hv
  exact ⟨_, rfl, key 0 _ (by omega) hget.1, key 1 _ (by omega) hget.2.1, key 2 _ (by omega) hget.2.2.1, key 3 _ (by omega) hget.2.2.2.1, key 4 _ (by omega) hget.2.2.2.2⟩
theorem append_listO (w : World) (A : Option Addr) (n cp : Nat) (y : Nat → Nat → Int) (c : Nat → Bool) (hA : AtO3 w A n y c) (h0 : A = none → n = 0 ∧ cp = 0) (hn : n ≤ 1000000) :
    ∃ g cap cur w', (Builtin.append_ #[35, 35] 35 #[.slice (some ⟨w.heap.size, 0, none⟩) 0 0, .slice A n cp]).run Tryd.prog (w.alloc (.cells #[] 55)) = .ok (.slice (some ⟨g, 0, none⟩) n cap) w' ∧ w.heap.size ≤ g ∧ Blk w' g 55 cur ∧ cur.size = cap * 5 ∧ n ≤ cap ∧ AtO3 w' (some ⟨g, 0, none⟩) n y c ∧ Below w.heap.size w w' := by
  obtain ⟨i0, hi, hz0, hz1, hz2⟩ := infoO
  have hb : Below w.heap.size w (w.alloc (.cells #[] 55)) := (Below.refl _ w).alloc (Nat.le_refl _) _
  have ho : (w.alloc (.cells #[] 55)).ownsRow w.heap.size 55 5 (.slice (some ⟨w.heap.size, 0, none⟩) 0 0) 0 [] :=
    ⟨rfl, .inr ⟨w.heap.size, 0, #[], rfl, Nat.le_refl _, heap_alloc_new w _, Nat.le_refl _, Nat.zero_le _, rfl, rfl⟩⟩
  rcases A with _ | ad
  · obtain ⟨rfl, rfl⟩ := h0 rfl
    exact ⟨w.heap.size, 0, #[], _, run_append_owned_none _ w.heap.size 35 35 55 i0 5 Tryd.underlying35 hi _ 0 _ ho, Nat.le_refl _, Blk.new w _ _, rfl, Nat.le_refl _, fun i hi => absurd hi (by omega), hb⟩
  · obtain ⟨v', w', hr, h2, h3, h4, h5⟩ := run_append_own_at (w.alloc (.cells #[] 55)) w.heap.size 35 35 55 i0 (.agg #[.int .u64 0, .int .u64 0, .int .u64 0, .int .u64 0, .bool false]) 5 40 Tryd.underlying35 hi hz0 hz1 hz2 rfl (by omega) _ 0 [] ho ad n cp (flatO n y c) (flatO_length n y c) (hA.below hb).flat (flatO_one n y c) (by unfold maxLen; omega) (by omega) (by simp)
    have hbl : Below w.heap.size w w' := hb.grown h3 (by simp) fun q hq => by simp [Value.ownBlock] at hq; omega
    rw [Nat.zero_add, List.nil_append] at h2
    rcases h2.2 with ⟨e1, e2⟩ | ⟨g, cap, cur, rfl, hg, hG, hnc, _, hsz, htk⟩
    · exact absurd (h4.1 e1).1 (by simp)
    · exact ⟨g, cap, cur, w', hr, hg, hG, hsz, hnc, atO_of_row y c hG htk, hbl⟩

/-- A block of so many cells, whatever they are. -/
def Sz (w : World) (g t n : Nat) : Prop := ∃ cur, Blk w g t cur ∧ n ≤ cur.size
theorem Sz.cell {w : World} {g t n : Nat} (h : Sz w g t n) (i : Nat) (hi : i < n) : ∃ v, w.cell? ⟨g, i, none⟩ = some v := by
  obtain ⟨cur, h1, h2⟩ := h
  exact ⟨cur[i]'(by omega), h1.cell i (by rw [Array.getElem?_eq_getElem (by omega)])⟩
theorem Sz.frozen {w : World} {g t n : Nat} (h : Sz w g t n) (i : Nat) : w.frozen? ⟨g, i, none⟩ = false := by
  obtain ⟨cur, h1, h2⟩ := h
  exact h1.frozen i
theorem Sz.set {w : World} {g t n : Nat} (h : Sz w g t n) (i : Nat) (v : Value) : Sz (w.setCell ⟨g, i, none⟩ v) g t n := by
  obtain ⟨cur, h1, h2⟩ := h
  exact ⟨_, h1.set i v, by simpa using h2⟩
theorem Sz.chg {S : Nat → Prop} {w w' : World} {g t n : Nat} (h : Sz w g t n) (hc : Chg S w w') (hs : ¬ S g) : Sz w' g t n := by
  obtain ⟨cur, h1, h2⟩ := h
  exact ⟨cur, h1.chg hc hs, h2⟩
theorem Sz.below {w w' : World} {g t n : Nat} (h : Sz w g t n) (hb : Below w.heap.size w w') : Sz w' g t n := by
  obtain ⟨cur, h1, h2⟩ := h
  exact ⟨cur, h1.below hb, h2⟩
theorem Sz.lt {w : World} {g t n : Nat} (h : Sz w g t n) : g < w.heap.size := by
  obtain ⟨cur, h1, h2⟩ := h
  exact h1.lt
end Go.Proofs.YtgmlmngnedhllaaDoor
