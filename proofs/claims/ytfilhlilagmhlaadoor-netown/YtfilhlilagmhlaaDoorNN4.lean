/- slices.Delete at lists of frames: the library's contract, laid at this program. -/
import Derived.Test.YtfilhlilagmhlaaDoorNN3
import Derived.Shelf.SlicesE.Delete
namespace Go.Proofs.YtfilhlilagmhlaaDoor
open Go.RowKit

/-- The contract's numbers, here. -/
def renD : Go.Shelf.Ren := ⟨fun f => if f = 45 then 35 else f, fun t => if t = 22 then 51 else if t = 23 then 32 else t, fun g => g⟩
theorem delL : SlLaysE.n45 Tryd.prog renD where
  mixed := by kernel_rfl
  f45 := ⟨Tryd.f35.name, by kernel_rfl, Tryd.func35.trans (by kernel_rfl)⟩
  t0 := by kernel_rfl
  a0 := fun w => by kernel_rfl
  z0 := fun w => by kernel_rfl
  v0 := fun w => by kernel_rfl
  t3 := by kernel_rfl
  a3 := fun w => by kernel_rfl
  z3 := fun w => by kernel_rfl
  v3 := fun w => by kernel_rfl
  t4 := by kernel_rfl
  a4 := fun w => by kernel_rfl
  z4 := fun w => by kernel_rfl
  v4 := fun w => by kernel_rfl
  t22 := by kernel_rfl
  a22 := fun w => by kernel_rfl
  z22 := fun w => by kernel_rfl
  v22 := fun w => by kernel_rfl
  a23 := fun w => by kernel_rfl
  z23 := fun w => by kernel_rfl
def frO : Option Fr → Value
  | none => .slice none 0 0
  | some x => frV x
theorem frO_one : OneCell frO := fun x => by cases x <;> rfl
theorem zeroBs (w : World) : (zeroValue (renD.t 23)).run Tryd.prog w = .ok (frO none) w := by kernel_rfl
theorem holds_fr {w : World} {base g c : Nat} {L : List Fr} (h : Way w base (.slice (some ⟨g, 0, none⟩) L.length c) L) : Sort.Holds frO w g 0 (L.map some).toArray := by
  rcases h.2 with ⟨h0, _⟩ | ⟨g', cap, cur, hv, h1, h2, h3, h4, h5, h6⟩
  · cases h0
  · injection hv with e1 e2 e3
    injection e1 with e1
    injection e1 with e1
    subst e1 e3
    intro j hj
    have hj' : j < L.length := by simpa using hj
    refine ⟨?_, by simp [World.frozen?, h2]⟩
    rw [cell_of_row w g (0 + j) cur 32 (0, 0) h2, Nat.zero_add]
    have : (cur.toList.take (L.length * 1))[j]? = some (frV L[j]) := by rw [h6, List.getElem?_map, List.getElem?_eq_getElem hj']; rfl
    rw [Nat.mul_one, List.getElem?_take, if_pos hj'] at this
    have e : (L.map some).toArray[j]! = some L[j] := by simp [hj']
    rw [e]
    show cur[j]? = some (frV L[j])
    simpa using this
theorem eraseIdx_cut {α : Type} (L : List α) (i : Nat) : L.take i ++ L.drop (i + 1) = L.eraseIdx i := (List.eraseIdx_eq_take_drop_succ L i).symm
/-- What Delete leaves: the list without the frame i, in the same block. -/
def Deleted (w : World) (base g c : Nat) (L : List Fr) (i : Nat) (e : Ending) (w' : World) : Prop :=
  e = .returned (.slice (some ⟨g, 0, none⟩) (L.length - 1) c) ∧ Way w' base (.slice (some ⟨g, 0, none⟩) (L.length - 1) c) (L.eraseIdx i) ∧ w.grownBy w' (some g) ∧ w'.heap.size = w.heap.size
theorem delete_any (w : World) (base g c i : Nat) (L : List Fr) (hW : Way w base (.slice (some ⟨g, 0, none⟩) L.length c) L) (hi : i < L.length) :
    Calls Tryd.prog 35 #[.slice (some ⟨g, 0, none⟩) L.length c, .int .i64 (i : Int), .int .i64 ((i : Int) + 1)] w (Deleted w base g c L i) := by
  obtain ⟨i0, hi0, hz0, hz1, hz2⟩ := info_parts Tryd.infoBs
  rcases hW.2 with ⟨h0, _⟩ | ⟨g', cap, cur, hv, h1, h2, h3, h4, h5, h6⟩
  · cases h0
  · injection hv with e1 e2 e3
    injection e1 with e1
    injection e1 with e1
    subst e1 e3
    have hsz : (L.map some).toArray.size = L.length := by simp
    have hd := AnyE.slices_Delete delL frO frO_one none zeroBs i0 hi0 hz1 g 0 c i (i + 1) (L.map some).toArray w (holds_fr hW) (by rw [hsz]; exact h3) (by unfold maxLen at h4; omega) (by omega) (by rw [hsz]; omega)
    rw [hsz] at hd
    refine Calls.mono (show Calls Tryd.prog 35 #[.slice (some ⟨g, 0, none⟩) L.length c, .int .i64 (i : Int), .int .i64 ((i : Int) + 1)] w _ from hd) ?_
    rintro e w' ⟨rfl, q, rfl⟩
    have hrow : (Sort.putRow frO (Sort.ahead w q) g 0 ((L.map some).toArray.toList.take i ++ (L.map some).toArray.toList.drop (i + 1) ++ List.replicate (i + 1 - i) none).toArray).heap[g]? = some (.cells (Sort.putCells frO 0 ((L.map some).toArray.toList.take i ++ (L.map some).toArray.toList.drop (i + 1) ++ List.replicate (i + 1 - i) none).toArray cur) 32 (0, 0)) := by
      simp only [Sort.putRow, Sort.mapBlock, Sort.ahead, Array.getElem?_modify, h2]
      simp [Sort.onCells]
    have hlist : (L.map some).toArray.toList.take i ++ (L.map some).toArray.toList.drop (i + 1) ++ List.replicate (i + 1 - i) none = (L.eraseIdx i).map some ++ [none] := by
      rw [show i + 1 - i = 1 by omega]
      show (L.map some).take i ++ (L.map some).drop (i + 1) ++ [none] = _
      rw [← List.map_take, ← List.map_drop, ← List.map_append, eraseIdx_cut]
    rw [hlist] at hrow ⊢
    have hle : (L.eraseIdx i).length = L.length - 1 := by rw [List.length_eraseIdx, if_pos hi]
    have hn1 : L.length - (i + 1 - i) = L.length - 1 := by omega
    rw [hn1]
    refine ⟨rfl, ⟨by simp, .inr ⟨g, c, _, by rw [hle], h1, hrow, by omega, h4, by simp [Sort.putCells, h5], ?_⟩⟩, ⟨rfl, rfl, rfl, by simp [Sort.putRow, Sort.mapBlock, Sort.ahead], fun k hk hne => ?_⟩, by simp [Sort.putRow, Sort.mapBlock, Sort.ahead]⟩
    · apply List.ext_getElem?
      intro j
      rw [Nat.mul_one, hle, List.getElem?_take]
      by_cases hj : j < L.length - 1
      · rw [if_pos hj, Array.getElem?_toList]
        have hjc : j < cur.size := by omega
        simp only [Sort.putCells, Array.getElem?_mapIdx, Array.getElem?_eq_getElem hjc, Option.map_some]
        have hs2 : ((L.eraseIdx i).map some ++ [none]).toArray.size = L.length - 1 + 1 := by simp [hle]
        rw [if_pos ⟨Nat.zero_le _, by rw [hs2]; omega⟩, List.getElem?_map, List.getElem?_eq_getElem (by omega)]
        have e : ((L.eraseIdx i).map some ++ [none]).toArray[j - 0]! = some (L.eraseIdx i)[j] := by
          rw [Nat.sub_zero, getElem!_pos _ j (by rw [hs2]; omega)]
          simp [hle, hj]
        rw [e]
        rfl
      · rw [if_neg hj, List.getElem?_eq_none (by simp [hle]; omega)]
    · simp only [Sort.putRow, Sort.mapBlock, Sort.ahead, Array.getElem?_modify]
      rw [if_neg (fun e => hne (by rw [e]))]
end Go.Proofs.YtfilhlilagmhlaaDoor
