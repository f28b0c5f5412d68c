/- append onto an empty list of the call's own; one thing appended. -/
import Derived.Test.YtkogbighpidfhaaDoorCV1
namespace Go.Proofs.YtkogbighpidfhaaDoor
open Go.RowKit

section
variable {sT eT : TypeId} {z : Value} {s b : Nat}
theorem Row.empty (w : World) (e s : Nat) (F : Nat → Value) {B : Nat} (hB : B ≤ w.heap.size) : Row (w.alloc (.cells #[] e)) B e s (.slice (some ⟨w.heap.size, 0, none⟩) 0 0) 0 F := by
  refine ⟨by rw [flat_length], .inr ⟨w.heap.size, 0, #[], rfl, hB, heap_alloc_new w _, Nat.le_refl _, Nat.zero_le _, by simp, ?_⟩⟩
  simp [flat]
/-- append([]T{}, x...) -/
theorem append_empty (E : Elt sT eT z s b) (w : World) (A : Option Addr) (m c : Nat) (G : Nat → Value) (hA : AtV w A (m * s) G) (hc : A = none → m = 0 ∧ c = 0) (h1 : ∀ q, (G q).oneCell' = true) (hm : m ≤ maxLen) (hn : m * b ≤ 140737488355328) :
    ∃ g k w', (∀ ty, (Builtin.append_ #[sT, sT] ty #[.slice (some ⟨w.heap.size, 0, none⟩) 0 0, .slice A m c]).run Tryd.prog (w.alloc (.cells #[] eT)) = .ok (.slice (some ⟨g, 0, none⟩) m k) w') ∧ w.heap.size ≤ g ∧ g < w'.heap.size ∧ m ≤ k ∧ Row w' w.heap.size eT s (.slice (some ⟨g, 0, none⟩) m k) m G ∧ Below w.heap.size w w' := by
  have hb : Below w.heap.size w (w.alloc (.cells #[] eT)) := (Below.refl _ _).alloc (Nat.le_refl _) _
  obtain ⟨v', w', hr, hR, hg, hnil, hob⟩ := append_row E (w.alloc (.cells #[] eT)) w.heap.size (.slice (some ⟨w.heap.size, 0, none⟩) 0 0) 0 m (fun q => G q) G A c (Row.empty w eT s _ (Nat.le_refl _)) (hA.below hb) hc h1 (by omega) (by rw [Nat.zero_add]; exact hn) (by simp)
  rw [Nat.zero_add] at hR
  have hR2 : Row w' w.heap.size eT s v' m G := hR.congr fun i _ => by simp
  have hbl : Below w.heap.size w w' := hb.grown hg (by simp) fun q hq => by simp [Value.ownBlock] at hq; omega
  rcases hR2.2 with ⟨e1, _⟩ | ⟨g, k, cur, rfl, hgB, hG, hmk, _⟩
  · have := (hnil.1 e1).1; cases this
  · exact ⟨g, k, w', hr, hgB, (Array.getElem?_eq_some_iff.1 hG).1, hmk, hR2, hbl⟩
/-- append(x, y), y in a block of its own. -/
theorem append_one (E : Elt sT eT z s b) (w : World) (B : Nat) (v : Value) (n : Nat) (F G : Nat → Value) (cs : Array Value) (hown : Row w B eT s v n F) (hG : ∀ j, j < s → cs[j]? = some (G j)) (h1 : ∀ q, (G q).oneCell' = true) (hn : (n + 1) * b ≤ 140737488355328) (hn2 : n + 1 ≤ maxLen) (hB : B ≤ w.heap.size) :
    ∃ g k w', (∀ ty, (Builtin.append_ #[sT, sT] ty #[v, .slice (some ⟨w.heap.size, 0, none⟩) 1 1]).run Tryd.prog (w.alloc (.cells cs eT)) = .ok (.slice (some ⟨g, 0, none⟩) (n + 1) k) w') ∧ B ≤ g ∧ Row w' B eT s (.slice (some ⟨g, 0, none⟩) (n + 1) k) (n + 1) (fun i => if i < n * s then F i else G (i - n * s)) ∧ (w.alloc (.cells cs eT)).grownBy w' v.ownBlock ∧ (v.ownBlock = some g ∨ w.heap.size ≤ g) := by
  have hA : AtV (w.alloc (.cells cs eT)) (some ⟨w.heap.size, 0, none⟩) (1 * s) G := fun i hi => ⟨_, rfl, by
    rw [Addr.add_mid, Nat.zero_add]
    exact (Blk.new w eT cs).cell i (hG i (by omega))⟩
  obtain ⟨v', w', hr, hR, hg, hnil, hob⟩ := append_row E (w.alloc (.cells cs eT)) B v n 1 F G (some ⟨w.heap.size, 0, none⟩) 1 (hown.alloc _) hA (fun h => by cases h) h1 hn2 hn (by simp; omega)
  rcases hR.2 with ⟨e1, e2⟩ | ⟨g, k, cur, rfl, hgB, hG', hmk, _⟩
  · omega
  · refine ⟨g, k, w', hr, hgB, hR, hg, ?_⟩
    rcases hob with h | h
    · exact .inl (by rw [← h]; rfl)
    · right
      have : (some g : Option Nat) = some (w.alloc (.cells cs eT)).heap.size := h
      injection this with this
      rw [this]; simp
end
end Go.Proofs.YtkogbighpidfhaaDoor
