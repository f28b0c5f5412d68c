/- Lists of bytes of the call's own, by a function of the place; texts of them; the texts of LexFull. -/
import Derived.Test.YtkogbighpidfhaaDoorSX1
import Derived.Laws.IdiomStrings
namespace Go.Proofs.YtkogbighpidfhaaDoor
open Go.RowKit
open Lx

theorem umod (z m : Int) (hm : 0 < m) (hm2 : m ≤ 18446744073709551616) : ∃ k : Nat, (k : Int) < m ∧ (IntKind.u64.wrap z).tmod m = (k : Int) ∧ z % 18446744073709551616 % m = (k : Int) := by
  have h0 : 0 ≤ z % 18446744073709551616 := Int.emod_nonneg _ (by omega)
  have h1 : 0 ≤ z % 18446744073709551616 % m := Int.emod_nonneg _ (by omega)
  have h2 : z % 18446744073709551616 % m < m := Int.emod_lt_of_pos _ hm
  refine ⟨(z % 18446744073709551616 % m).toNat, by omega, ?_, by omega⟩
  rw [u64w, Int.tmod_eq_emod_of_nonneg h0]
  omega
/-- A list of bytes' cells. -/
def bcs (n : Nat) (f : Nat → Nat) : Array Value := ((List.range n).map fun i => Value.int .u8 (f i : Int)).toArray
theorem bcs_get (n : Nat) (f : Nat → Nat) (i : Nat) (hi : i < n) : (bcs n f)[i]? = some (.int .u8 (f i : Int)) := by simp [bcs, hi]
theorem bcs_congr {n : Nat} {f h : Nat → Nat} (e : ∀ i, i < n → f i = h i) : bcs n f = bcs n h := by
  unfold bcs
  congr 1
  apply List.map_congr_left
  intro i hi
  rw [e i (List.mem_range.1 hi)]
theorem bcs_size (n : Nat) (f : Nat → Nat) : (bcs n f).size = n := by simp [bcs]
theorem bcs_out (n : Nat) (f : Nat → Nat) (i : Nat) (hi : ¬ i < n) : (bcs n f)[i]? = none := Array.getElem?_eq_none (by rw [bcs_size]; omega)
theorem bcs_set (n : Nat) (f : Nat → Nat) (i x : Nat) : (bcs n f).setIfInBounds i (.int .u8 (x : Int)) = bcs n (fun j => if j = i then x else f j) := by
  apply Array.ext_getElem?
  intro j
  rw [Array.getElem?_setIfInBounds, bcs_size]
  by_cases hj : j < n
  · rw [bcs_get n (fun j => if j = i then x else f j) j hj]
    by_cases e : i = j
    · subst e
      rw [if_pos rfl, if_pos hj]
      simp
    · rw [if_neg e, bcs_get n f j hj]
      show some (Value.int .u8 (f j : Int)) = some (.int .u8 ((if j = i then x else f j : Nat) : Int))
      rw [if_neg (fun h : j = i => e h.symm)]
  · rw [bcs_out n _ j hj, bcs_out n _ j hj]
    by_cases e : i = j
    · rw [if_pos e, if_neg (by omega)]
    · rw [if_neg e]
/-- A block of such bytes. -/
abbrev BlB (w : World) (g n : Nat) (f : Nat → Nat) : Prop := Blk w g 5 (bcs n f)
theorem BlB.put {w : World} {g n : Nat} {f : Nat → Nat} (h : BlB w g n f) (i x : Nat) : BlB (w.setCell ⟨g, i, none⟩ (.int .u8 (x : Int))) g n (fun j => if j = i then x else f j) := by
  have := Blk.set h i (.int .u8 (x : Int))
  rw [bcs_set] at this
  exact this
theorem BlB.at {w : World} {g n : Nat} {f : Nat → Nat} (h : BlB w g n f) (i : Nat) (hi : i < n) : w.cell? ⟨g, i, none⟩ = some (.int .u8 (f i : Int)) := Blk.cell h i (bcs_get n f i hi)
/-- A text of such bytes. -/
def strB (n : Nat) (f : Nat → Nat) : ByteArray := ⟨((List.range n).map fun i => UInt8.ofNat (f i)).toArray⟩
theorem strB_size (n : Nat) (f : Nat → Nat) : (strB n f).size = n := by
  show ((List.range n).map fun i => UInt8.ofNat (f i)).toArray.size = n
  simp
theorem bts_strB (n : Nat) (f : Nat → Nat) (hf : ∀ i, f i < 256) : bts (strB n f) = (List.range n).map f := by
  unfold bts strB
  simp only [List.map_map]
  apply List.map_congr_left
  intro i _
  have := hf i
  show (UInt8.ofNat (f i)).toNat = f i
  simp; omega
theorem conv_B (w : World) (g n cap : Nat) (f : Nat → Nat) (h : BlB w g n f) (hf : ∀ i, f i < 256) : (convert 39 9 (.slice (some ⟨g, 0, none⟩) n cap)).run Tryd.prog w = .ok (.string (strB n f)) w := by
  have := run_convert_bytes_back (P := Tryd.prog) w 39 9 5 ⟨g, 0, none⟩ cap ((List.range n).map fun i => UInt8.ofNat (f i)) Tryd.underlying39 (by kernel_rfl) (by kernel_rfl) (fun j hj => by
    have hj' : j < n := by simpa using hj
    rw [Addr.add_mid, Nat.zero_add, h.at j hj']
    have := hf j
    simp only [List.getElem_map, List.getElem_range]
    rw [show (UInt8.ofNat (f j)).toNat = f j by simp; omega])
  simp only [List.length_map, List.length_range] at this
  exact this
theorem eltB : Elt 39 5 (.int .u8 0) 1 1 := ⟨by kernel_rfl, Tryd.underlying39, info_parts (by kernel_rfl), rfl, by omega⟩
theorem made_bytes (n : Nat) : (madeCells (Value.int .u8 0).cells (n * 1) : Array Value) = bcs n (fun _ => 0) := by
  apply Array.ext_getElem?
  intro i
  by_cases hi : i < n
  · rw [bcs_get n _ i hi]
    exact made_get (.int .u8 0) rfl (n * 1) i (by omega)
  · rw [Array.getElem?_eq_none (by rw [made_size]; omega), Array.getElem?_eq_none (by simp [bcs]; omega)]
/-- Pairs by the place. -/
theorem pl_get : ∀ (bs : List Bool) (i : Nat), i < 2 * bs.length → (pl bs)[i]? = some (if i % 2 = 0 ∧ bs.getD (i / 2) false = true then 43 else 32)
  | [], i, h => absurd h (by simp)
  | b :: bs, 0, _ => by cases b <;> rfl
  | b :: bs, 1, _ => rfl
  | b :: bs, i + 2, h => by
    have := pl_get bs i (by simp only [List.length_cons] at h; omega)
    have e1 : (i + 2) % 2 = i % 2 := by omega
    have e2 : (i + 2) / 2 = i / 2 + 1 := by omega
    rw [e1, e2]
    exact this
theorem range_pl (f : Nat → Nat) (bs : List Bool) (tail : List Nat) (n : Nat) (hn : n = 2 * bs.length + tail.length) (h1 : ∀ i, i < 2 * bs.length → f i = if i % 2 = 0 ∧ bs.getD (i / 2) false = true then 43 else 32)
    (h2 : ∀ i, i < tail.length → some (f (2 * bs.length + i)) = tail[i]?) : (List.range n).map f = pl bs ++ tail := by
  apply List.ext_getElem?
  intro i
  rw [List.getElem?_map]
  by_cases hi : i < n
  · rw [List.getElem?_range hi]
    show some (f i) = _
    by_cases h : i < 2 * bs.length
    · rw [List.getElem?_append_left (by rw [pl_length]; exact h), pl_get bs i h, h1 i h]
    · rw [List.getElem?_append_right (by rw [pl_length]; omega), pl_length, ← h2 (i - 2 * bs.length) (by omega), show 2 * bs.length + (i - 2 * bs.length) = i by omega]
  · rw [List.getElem?_eq_none (by rw [List.length_range]; omega), List.getElem?_eq_none (by rw [List.length_append, pl_length]; omega)]
    rfl
/-- The pluses: all of them, or all but one. -/
def plus (n : Option Nat) : List Bool := (List.range 512).map fun i => decide (some i ≠ n)
theorem plus_length (n : Option Nat) : (plus n).length = 512 := by simp [plus]
theorem plus_get (n : Option Nat) (i : Nat) (hi : i < 512) : (plus n).getD i false = decide (some i ≠ n) := by
  rw [List.getD_eq_getElem?_getD]
  unfold plus
  rw [List.getElem?_map, List.getElem?_range hi]
  rfl
theorem plus_all : (plus none).count true = 512 := by kernel_rfl
theorem plus_but (n : Nat) (hn : n < 512) : (plus (some n)).count true < 512 := by
  rcases Nat.lt_or_ge ((plus (some n)).count true) 512 with h | h
  · exact h
  · have h1 := List.count_le_length (a := true) (l := plus (some n))
    rw [plus_length] at h1
    have h2 : (plus (some n)).count true = (plus (some n)).length := by rw [plus_length]; omega
    have h3 := List.count_eq_length.1 h2
    have h4 := plus_get (some n) n hn
    have h5 : (plus (some n)).getD n false ∈ plus (some n) := by
      rw [List.getD_eq_getElem?_getD, List.getElem?_eq_getElem (by rw [plus_length]; exact hn)]
      exact List.getElem_mem _
    have h6 := h3 _ h5
    rw [h4] at h6
    simp at h6
/-- LexFull's bytes, its last one, which of the pluses lacks. -/
def ff (last : Nat) (n : Option Nat) (i : Nat) : Nat := if i = 4095 then last else if i % 2 = 0 ∧ i < 1024 ∧ some (i / 2) ≠ n then 43 else 32
theorem ff_lt (last : Nat) (hl : last < 256) (n : Option Nat) : ∀ i, ff last n i < 256 := fun i => by
  unfold ff
  split
  · exact hl
  · split <;> decide
theorem ff_pl (last : Nat) (n : Option Nat) : (List.range 4096).map (ff last n) = pl (plus n) ++ (List.replicate 3071 32 ++ [last]) := by
  refine range_pl _ _ _ _ (by rw [plus_length, List.length_append, List.length_replicate]; rfl) (fun i hi => ?_) (fun i hi => ?_)
  · rw [plus_length] at hi
    unfold ff
    rw [if_neg (by omega), plus_get n (i / 2) (by omega)]
    by_cases h : i % 2 = 0 ∧ some (i / 2) ≠ n
    · rw [if_pos ⟨h.1, by omega, h.2⟩, if_pos ⟨h.1, decide_eq_true h.2⟩]
    · rw [if_neg (fun e => h ⟨e.1, e.2.2⟩), if_neg (fun e => h ⟨e.1, of_decide_eq_true e.2⟩)]
  · rw [plus_length]
    simp only [List.length_append, List.length_replicate, List.length_cons, List.length_nil] at hi
    unfold ff
    by_cases h : i < 3071
    · rw [if_neg (by omega), if_neg (by omega), List.getElem?_append_left (by rw [List.length_replicate]; exact h), List.getElem?_replicate, if_pos h]
    · have : i = 3071 := by omega
      subst this
      rw [if_pos (by omega), List.getElem?_append_right (by rw [List.length_replicate]; exact Nat.le_refl _), List.length_replicate]
      rfl
theorem full_one : res (strB 4096 (ff 32 none)) = .ok (plTk 0 (plus none)) := by
  unfold res
  rw [strB_size, if_neg (by omega), bts_strB _ _ (ff_lt 32 (by omega) none), ff_pl]
  have := toks_pluses (plus none) (by rw [plus_all]; exact Nat.le_refl _) 3072
  rw [List.replicate_succ'] at this
  exact this
theorem full_two : res (strB 4096 (ff 59 none)) = .error (5, 4095) := by
  unfold res
  rw [strB_size, if_neg (by omega), bts_strB _ _ (ff_lt 59 (by omega) none), ff_pl]
  have := toks_pluses_full (plus none) plus_all 3071
  rw [plus_length] at this
  exact this
theorem full_three (n : Nat) (hn : n < 512) : ∃ ts, res (strB 4096 (ff 59 (some n))) = .ok ts := by
  unfold res
  rw [strB_size, if_neg (by omega), bts_strB _ _ (ff_lt 59 (by omega) (some n)), ff_pl]
  exact ⟨_, toks_pluses_more (plus (some n)) (plus_but n hn) 3071⟩
theorem full_four (s : ByteArray) (h : s.size = 4097) : res s = .error (3, 4097) := by
  unfold res
  rw [if_pos (by omega), h]
end Go.Proofs.YtkogbighpidfhaaDoor
