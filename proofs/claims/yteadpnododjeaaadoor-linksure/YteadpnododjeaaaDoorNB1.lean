/- Bytes: lists of them that are read, texts of them, copies, slices; make and copy. -/
import Derived.Test.YteadpnododjeaaaDoorBR2
import Derived.Laws.IdiomStrings
import Derived.Laws.CopyRow
import Derived.Laws.IdiomCopy
import Derived.Laws.MakeOwn
namespace Go.Proofs.YteadpnododjeaaaDoor
open Go.RowKit

/-- Bytes that are read from where a list begins, if it has any. -/
def AtBO (w : World) (A : Option Addr) (n : Nat) (f : Nat → Nat) : Prop := ∀ i, i < n → ∃ ad, A = some ad ∧ w.cell? (ad.add i) = some (.int .u8 (f i : Int))
theorem AtB.opt {w : World} {ad : Addr} {n : Nat} {f : Nat → Nat} (h : AtB w ad n f) : AtBO w (some ad) n f := fun i hi => ⟨ad, rfl, h i hi⟩
theorem AtBO.none {w : World} {A : Option Addr} {f : Nat → Nat} : AtBO w A 0 f := fun i hi => absurd hi (by omega)
theorem AtBO.below {w w' : World} {A : Option Addr} {n : Nat} {f : Nat → Nat} (h : AtBO w A n f) (hb : Below w.heap.size w w') : AtBO w' A n f := fun i hi => by
  obtain ⟨ad, e, hc⟩ := h i hi
  exact ⟨ad, e, (hb.cell (World.block_lt_of_cell? _ _ hc)).trans hc⟩
theorem AtBO.congr {w : World} {A : Option Addr} {n : Nat} {f g : Nat → Nat} (h : AtBO w A n f) (hf : ∀ i, i < n → f i = g i) : AtBO w A n g := fun i hi => by
  obtain ⟨ad, e, hc⟩ := h i hi
  exact ⟨ad, e, by rw [← hf i hi]; exact hc⟩
abbrev sl8 (g n c : Nat) : Value := .slice (some ⟨g, 0, none⟩) n c
/-- The first n bytes as a text. -/
def strB (n : Nat) (f : Nat → Nat) : ByteArray := ⟨((List.range n).map fun i => UInt8.ofNat (f i)).toArray⟩
theorem strB_congr {n : Nat} {f g : Nat → Nat} (h : ∀ i, i < n → f i = g i) : strB n f = strB n g := by
  unfold strB
  congr 2
  apply List.map_congr_left
  intro q hq
  rw [h q (List.mem_range.1 hq)]
theorem strB_inj {n m : Nat} {f g : Nat → Nat} (hf : ∀ i, f i < 256) (hg : ∀ i, g i < 256) (h : strB n f = strB m g) : n = m ∧ ∀ i, i < n → f i = g i := by
  have h1 : ((List.range n).map fun i => UInt8.ofNat (f i)) = ((List.range m).map fun i => UInt8.ofNat (g i)) := by
    have := congrArg (fun b : ByteArray => b.data.toList) h
    simpa [strB] using this
  have hl : n = m := by have := congrArg List.length h1; simpa using this
  subst hl
  refine ⟨rfl, fun i hi => ?_⟩
  have := congrArg (fun l => l[i]?) h1
  simp [hi] at this
  have h2 := congrArg UInt8.toNat this
  have := hf i
  have := hg i
  simp at h2
  omega
theorem conv_B (w : World) (ad : Addr) (n cap : Nat) (f : Nat → Nat) (h : AtB w ad n f) (hf : ∀ i, f i < 256) : (convert 23 9 (.slice (some ad) n cap)).run Tryd.prog w = .ok (.string (strB n f)) w := by
  have := run_convert_bytes_back (P := Tryd.prog) w 23 9 5 ad cap ((List.range n).map fun i => UInt8.ofNat (f i)) Tryd.underlying23 (by kernel_rfl) (by kernel_rfl) (fun j hj => by
    have hj' : j < n := by simpa using hj
    rw [h j hj']
    have := hf j
    simp only [List.getElem_map, List.getElem_range]
    rw [show (UInt8.ofNat (f j)).toNat = f j by simp; omega])
  simp only [List.length_map, List.length_range] at this
  exact this
theorem empty_own (w : World) (f : Nat → Nat) : OR (w.alloc (.cells #[] 5)) w.heap.size (sl8 w.heap.size 0 0) 0 f :=
  World.ownsRow_made w #[] 0 (Nat.le_refl _) (Nat.zero_le _) rfl
set_option maxRecDepth 100000 in
/-- append([]byte{}, b...) -/
theorem copyB (w : World) (A : Option Addr) (n c : Nat) (f : Nat → Nat) (hA : AtBO w A n f) (h0 : A = none → n = 0 ∧ c = 0) (hn : n ≤ 140737488355328) :
    ∃ g k w', (Builtin.append_ #[23, 23] 23 #[sl8 w.heap.size 0 0, .slice A n c]).run Tryd.prog (w.alloc (.cells #[] 5)) = .ok (sl8 g n k) w' ∧ OR w' w.heap.size (sl8 g n k) n f ∧ Below w.heap.size w w' := by
  have hb : Below w.heap.size w (w.alloc (.cells #[] 5)) := (Below.refl _ _).alloc (Nat.le_refl _) _
  obtain ⟨i0, hi, hz0, hz1, hz2⟩ := infoB
  rcases A with _ | ad
  · obtain ⟨rfl, rfl⟩ := h0 rfl
    have ho : (w.alloc (.cells #[] 5)).ownsRow w.heap.size 5 1 (sl8 w.heap.size 0 0) 0 (bys 0 f).toList := empty_own w f
    exact ⟨_, _, _, run_append_owned_none _ w.heap.size 23 23 5 i0 1 Tryd.underlying23 hi _ 0 _ ho, ho, hb⟩
  · have hA1 : AtB (w.alloc (.cells #[] 5)) ad n f := fun i hi => by
      obtain ⟨ad', e, hc⟩ := (hA.below hb) i hi
      cases e
      exact hc
    obtain ⟨v', w', hr, ho, hb2⟩ := append_ownB _ w.heap.size (sl8 w.heap.size 0 0) 0 n f f ad c (empty_own w f) hA1 (by omega) (by simp)
    rw [Nat.zero_add] at ho
    obtain ⟨v2, w2, hr2, _, _, hnil⟩ := run_append_own_wide (w.alloc (.cells #[] 5)) w.heap.size 23 23 5 i0 (.int .u8 0) 1 1 Tryd.underlying23 hi hz0 hz1 hz2 rfl (by omega) _ 0 _ (empty_own w f) ad n c (bys n f).toList (by simp [bys_size]) (newsB hA1) (bys_oneL n f) (by unfold maxLen; omega) (by omega) (by simp)
    have hv : v' = v2 := by
      have := hr.symm.trans hr2
      injection this
    rcases ho.2 with ⟨h1, _⟩ | ⟨g, k, cur, h1, rest⟩
    · exact absurd ((hnil.1 (hv ▸ h1)).1) (by simp)
    · subst h1
      exact ⟨g, k, w', hr, OR.congr ho (fun i _ => by unfold thenB; rw [if_neg (by omega), Nat.sub_zero]), hb.trans hb2⟩
/-- Where a list goes on behind l places. -/
def tl (A : Option Addr) (c l : Nat) : Option Addr := if c = l then A else A.map (·.add l)
theorem add_add (a : Addr) (l i : Nat) : (a.add l).add i = a.add (l + i) := by
  unfold Addr.add
  by_cases h1 : l = 0
  · subst h1; simp
  · by_cases h2 : i = 0
    · subst h2; simp
    · simp [h1, h2]; omega
theorem AtBO.tl {w : World} {A : Option Addr} {n c l k : Nat} {f : Nat → Nat} (h : AtBO w A n f) (hk : l + k ≤ n) (hn : n ≤ c) : AtBO w (tl A c l) k (fun i => f (l + i)) := fun i hi => by
  obtain ⟨ad, rfl, hc⟩ := h (l + i) (by omega)
  refine ⟨ad.add l, ?_, by rw [add_add]; exact hc⟩
  unfold Go.Proofs.YteadpnododjeaaaDoor.tl
  rw [if_neg (by omega)]
  rfl
theorem elemB : Tryd.prog.elem 23 = 5 := by kernel_rfl
theorem sizeB (w : World) : (sizeOf (Tryd.prog.elem 23)).run Tryd.prog w = .ok 1 w := by
  obtain ⟨i0, hi, _, hz1, _⟩ := infoB
  rw [elemB]
  simp [sizeOf, typeInfo, hi, hz1]
theorem undB : Tryd.prog.underlying 23 = some (.slice (Tryd.prog.elem 23)) := by rw [elemB]; exact Tryd.underlying23
theorem run_tailB (w : World) (A : Option Addr) (n c l : Nat) (hl : l ≤ n) :
    (Instr.slice 23 (.slice A n c) (some (.int .i64 (l : Int))) none none).run Tryd.prog w = .ok (.slice (tl A c l) (n - l) (c - l)) w := by
  have hr := run_slice_l w 23 A n c undB .i64 (l : Int) (by omega) (by omega)
  rw [sizeB] at hr
  rw [hr]
  simp only [Result.andThen, sliced, Int.toNat_natCast, Nat.mul_one]
  rfl
theorem run_midB (w : World) (A : Option Addr) (n c l h : Nat) (hl : l ≤ h) (hc : h ≤ c) :
    (Instr.slice 23 (.slice A n c) (some (.int .i64 (l : Int))) (some (.int .i64 (h : Int))) none).run Tryd.prog w = .ok (.slice (tl A c l) (h - l) (c - l)) w := by
  have hr := run_slice_lh w 23 A n c undB .i64 .i64 (l : Int) (h : Int) (by omega) (by omega) (by omega)
  rw [sizeB] at hr
  rw [hr]
  simp only [Result.andThen, sliced, Int.toNat_natCast, Nat.mul_one]
  rfl
theorem run_headB (w : World) (A : Option Addr) (n c h : Nat) (hc : h ≤ c) :
    (Instr.slice 23 (.slice A n c) none (some (.int .i64 (h : Int))) none).run Tryd.prog w = .ok (.slice A h c) w := by
  have hr := run_slice_h w 23 A n c undB .i64 (h : Int) (by omega) (by omega)
  rw [sizeB] at hr
  rw [hr]
  simp only [Result.andThen, sliced, Int.toNat_natCast, Nat.sub_zero, Nat.zero_mul]
  rcases A with _ | ad
  · simp
  · simp [Addr.add]
theorem made_bytes (n : Nat) : madeCells (Value.int .u8 0).cells n = bys n (fun _ => 0) := by
  have e : ∀ j, j < n → (madeCells (Value.int .u8 0).cells n)[j]? = some (.int .u8 0) := fun j hj => by
    simp [madeCells, hj, Value.cells, Nat.mod_one]
  apply Array.ext_getElem?
  intro j
  by_cases hj : j < n
  · rw [bys_get _ _ _ hj, e j hj]; rfl
  · rw [bys_none _ _ _ (by omega), Array.getElem?_eq_none (by rw [size_madeCells]; omega)]
theorem setRow_same {w : World} {g t : Nat} {cs : Array Value} (h : w.heap[g]? = some (.cells cs t (0, 0))) : w.setRow g cs = w := by
  have : (w.setRow g cs).heap = w.heap := by
    apply Array.ext_getElem?
    intro k
    by_cases hk : k = g
    · subst hk; rw [setRow_heap w k _ cs t _ h, h]
    · exact setRow_other w g k cs hk
  unfold World.setRow at this ⊢
  cases w
  simp only at this ⊢
  rw [this]
/-- make([]byte, n). -/
theorem makeBs (w : World) (n : Nat) (hn : n ≤ 281474976710656) : (Instr.makeSlice 23 (.int .i64 (n : Int)) (.int .i64 (n : Int))).run Tryd.prog w = .ok (sl8 w.heap.size n n) (w.alloc (.cells (bys n fun _ => 0) 5)) := by
  obtain ⟨i0, hi, hz0, hz1, hz2⟩ := infoB
  have := run_make (P := Tryd.prog) w 23 5 i0 (.int .u8 0) Tryd.underlying23 hi hz0 .i64 .i64 (n : Int) (n : Int) (by omega) (by omega) (by rw [hz2]; omega) (by omega)
  rw [hz1, Int.toNat_natCast, Nat.mul_one, made_bytes] at this
  exact this
theorem infoB1 : (Tryd.prog.info? 5).map (·.size) = some 1 := by
  obtain ⟨i0, hi, _, hz1, _⟩ := infoB
  rw [hi]; simp [hz1]
/-- copy(b, frame), b of the same length. -/
theorem run_copyB (w : World) (g n c d : Nat) (A : Option Addr) (f f0 : Nat → Nat) (ty : TypeId) (ho : OwnB w g n 5 f0) (hA : AtBO w A n f) :
    (Builtin.copy_ #[23, 23] ty #[sl8 g n d, .slice A n c]).run Tryd.prog w = .ok (goInt n) (w.setRow g (bys n f)) := by
  by_cases h0 : n = 0
  · subst h0
    have e : w.setRow g (bys 0 f) = w := by
      have he : bys 0 f = bys 0 f0 := bys_congr (fun q hq => absurd hq (by omega))
      rw [he]
      exact setRow_same ho
    rw [e]
    exact run_copy_none w 23 23 ty 5 _ _ 0 _ 0 _ Tryd.underlying23 infoB1 (by simp)
  · obtain ⟨ad, rfl, _⟩ := hA 0 (by omega)
    have hB : AtB w ad n f := fun i hi => by
      obtain ⟨ad', e, hc⟩ := hA i hi
      cases e
      exact hc
    have hl : (bys n f).toList.length = n := by simp [bys_size]
    have := run_copy_row (P := Tryd.prog) w 23 23 ty 5 g 0 n d ad n c (bys n f0) 5 (bys n f).toList Tryd.underlying23 infoB1 ho (by rw [hl]; simp) (newsB hB) (by rw [hl, bys_size]; omega) (bys_oneL n f)
    rw [hl] at this
    have e : ((bys n f0).toList.take 0 ++ (bys n f).toList ++ (bys n f0).toList.drop (0 + n)).toArray = bys n f := by
      have : (bys n f0).toList.drop (0 + n) = [] := List.drop_eq_nil_of_le (by simp [bys_size])
      rw [this, List.take_zero, List.nil_append, List.append_nil]
    rw [e] at this
    exact this
end Go.Proofs.YteadpnododjeaaaDoor
