/- Frames that are answered, in new memory; fault.First. -/
import Derived.Test.YteadpnododjeaaaDoorLE5
namespace Go.Proofs.YteadpnododjeaaaDoor
open Go.RowKit

/-- A list of frames in memory from B on. -/
def Outs (w : World) (B : Nat) (v : Value) (S : List (Nat × (Nat → Nat))) : Prop :=
  ∃ F : List Fr, Way w B v F ∧ (∀ x ∈ F, Lies w B x) ∧ F.map (fun x => (x.len, x.dat)) = S
section
variable {w w' : World} {B : Nat} {v : Value} {S : List (Nat × (Nat → Nat))}
theorem Outs.heap (h : Outs w B v S) (hb : ∀ b, B ≤ b → b < w.heap.size → w'.heap[b]? = w.heap[b]?) : Outs w' B v S := by
  obtain ⟨F, h1, h2, h3⟩ := h
  refine ⟨F, h1.heap fun b e => ?_, fun x hx => (h2 x hx).heap (hb _ (h2 x hx).lo (h2 x hx).inside), h3⟩
  obtain ⟨hl, cur, hc⟩ := h1.block e
  exact hb b hl (Array.getElem?_eq_some_iff.1 hc).1
theorem Outs.below (h : Outs w B v S) (hb : Below w.heap.size w w') : Outs w' B v S := h.heap fun b _ hl => hb.block b hl
theorem Outs.nil (w : World) (B : Nat) : Outs w B (.slice none 0 0) [] := ⟨[], Way.nil _ _, fun x hx => (by cases hx), rfl⟩
theorem Outs.slice (h : Outs w B v S) : ∃ A c, v = .slice A S.length c := by
  obtain ⟨F, h1, _, h3⟩ := h
  obtain ⟨A, c, hv, _⟩ := h1.slice
  exact ⟨A, c, by rw [hv, ← h3, List.length_map]⟩
theorem Outs.get (h : Outs w B v S) {i n : Nat} {f : Nat → Nat} (hi : S[i]? = some (n, f)) : ∃ x g o c, x.len = n ∧ x.dat = f ∧ Lies w B x ∧ v = .slice (some ⟨g, o, none⟩) S.length c ∧ w.cell? ⟨g, o + i, none⟩ = some (frV x) := by
  obtain ⟨F, h1, h2, h3⟩ := h
  rw [← h3, List.getElem?_map] at hi
  obtain ⟨x, hx, e⟩ := Option.map_eq_some_iff.1 hi
  obtain ⟨g, o, c, hv, hc, _⟩ := h1.cell hx
  injection e with e1 e2
  exact ⟨x, g, o, c, e1, e2, h2 x (List.mem_of_getElem? hx), by rw [hv, ← h3, List.length_map], hc⟩
/-- One more. -/
theorem Outs.push {w0 w1 : World} {k : Nat} {x : Fr} (h : Outs w B v S) (hb0 : Below B w0 w) (hB : B ≤ w.heap.size) (hx : Lies w1 w.heap.size x) (hb : Below w.heap.size w w1) (hl : S.length ≤ k) (hk : k ≤ 1000000) :
    ∃ v' w3, (Builtin.append_ #[27, 27] 27 #[v, .slice (some ⟨w1.heap.size, 0, none⟩) 1 1]).run Tryd.prog (w1.alloc (.cells #[frV x] 23)) = .ok v' w3 ∧ Outs w3 B v' (S ++ [(x.len, x.dat)]) ∧ Below B w0 w3 ∧ (∃ A c, v' = .slice A (S.length + 1) c) ∧
      ∀ b, b < w.heap.size → v.ownBlock ≠ some b → w3.heap[b]? = w.heap[b]? := by
  obtain ⟨F, h1, h2, h3⟩ := h
  have hs := hb.size
  have hb1 : Below w1.heap.size w1 (w1.alloc (.cells #[frV x] 23)) := (Below.refl _ _).alloc (Nat.le_refl _) _
  have hb2 : Below w.heap.size w (w1.alloc (.cells #[frV x] 23)) := hb.trans (hb1.mono hs)
  have hFl : F.length ≤ 1000000 := by have := congrArg List.length h3; rw [List.length_map] at this; omega
  obtain ⟨v', w3, hr, hW, hgr, hvb⟩ := append_fr (w1.alloc (.cells #[frV x] 23)) B v F x w1.heap.size (h1.heap fun b e => by
    obtain ⟨_, cur, hc⟩ := h1.block e
    exact hb2.block b (Array.getElem?_eq_some_iff.1 hc).1) (by simp) hFl (by simp; omega)
  have hkeep : ∀ {y : Fr} {B' : Nat}, Lies (w1.alloc (.cells #[frV x] 23)) B' y → Lies w3 B' y := fun {y B'} hy => by
    obtain ⟨cur, hc⟩ := hy.block
    refine hy.heap (hgr.block _ hy.inside fun e => ?_)
    obtain ⟨_, cur2, hc2⟩ := h1.block e.symm
    have hc3 := (hb2.block y.blk (Array.getElem?_eq_some_iff.1 hc2).1).trans hc2
    exact heap_ne hc hc3 (by decide) rfl
  have hold : ∀ b, b < w.heap.size → v.ownBlock ≠ some b → w3.heap[b]? = w.heap[b]? := fun b hl hv => (hgr.block b (by simp; omega) (Ne.symm hv)).trans (hb2.block b hl)
  refine ⟨v', w3, hr, ⟨F ++ [x], hW, fun y hy => ?_, by rw [List.map_append, h3]; rfl⟩, ?_, ?_, hold⟩
  · rcases List.mem_append.1 hy with hy | hy
    · exact hkeep ((h2 y hy).below hb2)
    · obtain rfl := List.mem_singleton.1 hy
      exact hkeep ((hx.mono (Nat.le_trans hB hx.lo)).below hb1)
  · refine hb0.trans ⟨hgr.os.trans hb2.os, hgr.tape.trans hb2.tape, hgr.output.trans hb2.output, by have := hgr.size; simp at this; omega, fun b hlb => hold b (by omega) fun e => ?_⟩
    have := (h1.block e).1
    omega
  · obtain ⟨A, c, hv, _⟩ := hW.slice
    exact ⟨A, c, by rw [hv, ← h3]; simp⟩
end
/-- The acknowledgements of these numbers. -/
def acks (O : List Nat) : List (Nat × (Nat → Nat)) := O.map fun k => (9, Link.sealB 1 k 0 fun _ => 0)
/-- The data frame of a payload. -/
def dataOf (num : Nat) (x : Fr) : Nat × (Nat → Nat) := (x.len + 9, Link.sealB 0 num x.len x.dat)
set_option maxHeartbeats 1000000 in
set_option maxRecDepth 100000 in
theorem first_one (T : TypeId) (u : Value) (g : Nat) (w : World) (h0 : w.cell? ⟨g, 0, none⟩ = some (.iface T u)) :
    Calls Tryd.prog 36 #[.slice (some ⟨g, 0, none⟩) 2 2] w fun e w' => e = .returned (.iface T u) ∧ w = w' := by
  go_enter Tryd.func36, Tryd.ntmps36
  go_wp2
  go_loop [7] (fun t => t = .int .i64 0) (fun _ => 0)
  case atStart => rfl
  case round =>
    subst hrel
    go_wp2
    go_ret
    exact ⟨rfl, rfl⟩
set_option maxHeartbeats 1000000 in
set_option maxRecDepth 100000 in
theorem first_two (T : TypeId) (u : Value) (g : Nat) (w : World) (h0 : w.cell? ⟨g, 0, none⟩ = some .nilIface) (h1 : w.cell? ⟨g, 1, none⟩ = some (.iface T u)) :
    Calls Tryd.prog 36 #[.slice (some ⟨g, 0, none⟩) 2 2] w fun e w' => e = .returned (.iface T u) ∧ w = w' := by
  go_enter Tryd.func36, Tryd.ntmps36
  go_wp2
  go_loop [7] (fun t => t = .int .i64 0 ∨ t = .int .i64 1) (fun t => 2 - (intOf t).toNat)
  case atStart => exact .inl rfl
  case round =>
    rcases hrel with rfl | rfl
    · go_wp2
      go_round
      case rel => exact .inr rfl
      case measure => simp [intOf]
    · go_wp2
      go_ret
      exact ⟨rfl, rfl⟩
end Go.Proofs.YteadpnododjeaaaDoor
