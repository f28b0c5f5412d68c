/- LinkSure's walk: what happens, as it came in; the state. -/
import Derived.Test.YteadpnododjeaaaDoorLZ3
import Derived.Test.YteadpnododjeaaaDoorLX2
import Derived.Deep.CutBlock
import Derived.Deep.DeepCutAuto
import Derived.Deep.CutRange
namespace Go.Proofs.YteadpnododjeaaaDoor
open Go.RowKit

/-- What happens, as it came in. -/
def OpAt (w : World) (ad : Addr) (kd z b : Int) (A : Option Addr) (n c : Nat) (f : Nat → Nat) : Prop := w.cell? ad = some (.int .i64 kd) ∧ w.cell? ⟨ad.block, ad.off + 1, none⟩ = some (.int .i64 z) ∧ w.cell? ⟨ad.block, ad.off + 2, none⟩ = some (.int .i64 b) ∧ w.cell? ⟨ad.block, ad.off + 3, none⟩ = some (.slice A n c) ∧
  AtBO w A n f ∧ (∀ j, f j < 256) ∧ n ≤ 140737488355328 ∧ (A = none → n = 0 ∧ c = 0)
def OpsAt (w : World) (A : Option Addr) (N : Nat) : Prop := ∀ j, j < N → ∃ ad, A = some ad ∧ ∃ kd z b B n c f, OpAt w (ad.add (j * 4)) kd z b B n c f
theorem OpAt.below {w w' : World} {ad : Addr} {kd z b : Int} {A : Option Addr} {n c : Nat} {f : Nat → Nat} (h : OpAt w ad kd z b A n c f) (hb : Below w.heap.size w w') : OpAt w' ad kd z b A n c f := by
  obtain ⟨h0, h1, h2, h3, h4, rest⟩ := h
  have hc : ∀ {q : Addr} {u : Value}, w.cell? q = some u → w'.cell? q = some u := fun h => (hb.cell (World.block_lt_of_cell? _ _ h)).trans h
  exact ⟨hc h0, hc h1, hc h2, hc h3, h4.below hb, rest⟩
/-- Within a round: what happens lies in the block g, too. -/
def OpIn (w : World) (g : Nat) (kd z b : Int) (A : Option Addr) (n c : Nat) : Prop := w.heap[g]? = some (.cells #[.int .i64 kd, .int .i64 z, .int .i64 b, .slice A n c] 41 (0, 0))
theorem heap_two (w : World) (o1 o2 : Obj) : ((w.alloc o1).alloc o2).heap[w.heap.size]? = some o1 := by
  rw [Below.heap_alloc (w.alloc o1) o2 w.heap.size (by simp)]
  exact heap_alloc_new w o1
/-- The three arrays, new. -/
theorem mem_new {w : World} {ge p0 p1 : Nat} (he : w.heap[ge]? = some (.cells #[.pointer (some ⟨p0, 0, none⟩), .pointer (some ⟨p1, 0, none⟩)] 64 (0, 0))) :
    Mem (((w.alloc (.cells #[.slice none 0 0, .slice none 0 0] 65)).alloc (.cells #[.slice none 0 0, .slice none 0 0] 65)).alloc (.cells #[.slice none 0 0, .slice none 0 0] 65)) ge w.heap.size p0 p1 (fun _ _ => .slice none 0 0) (fun _ _ => []) := by
  have hlt := (Array.getElem?_eq_some_iff.1 he).1
  refine ⟨?_, fun j hj => ?_, fun j k _ _ => Strs.nil _, fun j k j' k' b _ _ _ _ _ h => by cases h⟩
  · rw [Below.heap_alloc _ _ ge (by simp; omega), Below.heap_alloc _ _ ge (by simp; omega), Below.heap_alloc _ _ ge hlt]
    exact he
  · rcases (show j = 0 ∨ j = 1 ∨ j = 2 by omega) with rfl | rfl | rfl
    · rw [Below.heap_alloc _ _ _ (by simp; omega)]
      exact heap_two w _ _
    · have := heap_two (w.alloc (.cells #[.slice none 0 0, .slice none 0 0] 65)) (.cells #[.slice none 0 0, .slice none 0 0] 65) (.cells #[.slice none 0 0, .slice none 0 0] 65)
      simp only [World.size_alloc] at this
      exact this
    · have := heap_alloc_new ((w.alloc (.cells #[.slice none 0 0, .slice none 0 0] 65)).alloc (.cells #[.slice none 0 0, .slice none 0 0] 65)) (.cells #[.slice none 0 0, .slice none 0 0] 65)
      simp only [World.size_alloc] at this
      exact this
theorem inv_new (a b : Nat) : Inv (fun k => if k = 0 then En.new a else En.new b) (fun _ _ => []) := by
  refine ⟨fun k hk => ?_, fun k hk => ?_, fun k hk => ?_, fun k hk fr h => (by cases h), fun k hk x hx => ?_⟩
  · rcases (show k = 0 ∨ k = 1 by omega) with rfl | rfl <;> rfl
  · rcases (show k = 0 ∨ k = 1 by omega) with rfl | rfl <;> exact ⟨Nat.le_refl _, Nat.zero_le _, Nat.le_refl _⟩
  · rcases (show k = 0 ∨ k = 1 by omega) with rfl | rfl <;> rfl
  · rcases (show k = 0 ∨ k = 1 by omega) with rfl | rfl <;> cases hx
/-- The state, whatever the ends and lists are. -/
def ZZ (w0 w : World) (ge ga N : Nat) : Prop := ∃ s v L, Z w0 w ge ga s v L N
theorem Z.ends {w0 w : World} {ge ga N k : Nat} {s : Nat → En} {v : Nat → Nat → Value} {L : Lists} (h : Z w0 w ge ga s v L N) (hk : k < 2) : w.cell? ⟨ge, k, none⟩ = some (.pointer (some ⟨w0.heap.size + k, 0, none⟩)) := by
  rw [cell_of_row w ge k _ _ (0, 0) h.mem.e]
  rcases (show k = 0 ∨ k = 1 by omega) with rfl | rfl <;> rfl
end Go.Proofs.YteadpnododjeaaaDoor
