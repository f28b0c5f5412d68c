/- A tape's memory; the contracts of take, tooShort, Next, Label, Used, Left. -/
import Derived.Test.YtecdfjcncgcegaaDoorTW
import Derived.Test.YtecdfjcncgcegaaDoorAL4a
import Derived.Test.YtecdfjcncgcegaaDoorF3
namespace Go.Proofs.YtecdfjcncgcegaaDoor
open Go.RowKit

/-- Block g is a tape's four cells. -/
def Tp (w : World) (g : Nat) (p : Option Addr) (s : Value) (u l : Int) : Prop := w.heap[g]? = some (.cells #[.pointer p, s, .int .i64 u, .int .i64 l] 51 (0, 0))
section
variable {w w' : World} {g : Nat} {p : Option Addr} {s : Value} {u l : Int}
theorem Tp.lt (h : Tp w g p s u l) : g < w.heap.size := (Array.getElem?_eq_some_iff.1 h).1
theorem Tp.c0 (h : Tp w g p s u l) : w.cell? ⟨g, 0, none⟩ = some (.pointer p) := by rw [cell_of_row w g 0 _ 51 (0, 0) h]; rfl
theorem Tp.c1 (h : Tp w g p s u l) : w.cell? ⟨g, 1, none⟩ = some s := by rw [cell_of_row w g 1 _ 51 (0, 0) h]; rfl
theorem Tp.c2 (h : Tp w g p s u l) : w.cell? ⟨g, 2, none⟩ = some (.int .i64 u) := by rw [cell_of_row w g 2 _ 51 (0, 0) h]; rfl
theorem Tp.c3 (h : Tp w g p s u l) : w.cell? ⟨g, 3, none⟩ = some (.int .i64 l) := by rw [cell_of_row w g 3 _ 51 (0, 0) h]; rfl
theorem Tp.frozen (h : Tp w g p s u l) (i : Nat) : w.frozen? ⟨g, i, none⟩ = false := by unfold Tp at h; simp [World.frozen?, h]
theorem Tp.set (h : Tp w g p s u l) (u' l' : Int) : Tp ((w.setCell ⟨g, 2, none⟩ (.int .i64 u')).setCell ⟨g, 3, none⟩ (.int .i64 l')) g p s u' l' := by
  unfold Tp at h ⊢
  simp [World.setCell, Array.getElem?_modify, h]
theorem Tp.keep {k : Nat} (h : Tp w g p s u l) (hk : Keep k w w') (hg : g ≠ k) : Tp w' g p s u l := (hk.block g h.lt hg).trans h
theorem Tp.below (h : Tp w g p s u l) (hb : Below w.heap.size w w') : Tp w' g p s u l := (hb.block g h.lt).trans h
theorem Tp.new (w : World) (p : Option Addr) (s : Value) (u l : Int) : Tp (w.alloc (.cells #[.pointer p, s, .int .i64 u, .int .i64 l] 51)) w.heap.size p s u l := heap_alloc_new w _
end

/-- What a tape has besides its own block: a stream in block h, or words there. -/
def Src (w : World) (h : Nat) (N : Nat) (f : Nat → Int) (p : Option Addr) (s : Value) : Prop :=
  (∃ k : Nat → Nat, p = some ⟨h, 0, none⟩ ∧ s = .slice none 0 0 ∧ Ciph w h k ∧ (∀ i, k i < 256) ∧ ∀ i, i < N → f i = (wordN k i : Int)) ∨
  (∃ (ad : Addr) (c : Nat), p = none ∧ s = .slice (some ad) N c ∧ ad.block = h ∧ At w ad N f)
theorem Src.keep {w w' : World} {h k N : Nat} {f : Nat → Int} {p : Option Addr} {s : Value} (hs : Src w h N f p s) (hk : Keep k w w') (hh : h ≠ k) : Src w' h N f p s := by
  rcases hs with ⟨q, h1, h2, h3, h4⟩ | ⟨ad, c, h1, h2, h3, h4⟩
  · exact .inl ⟨q, h1, h2, (hk.block h (OwnB.lt h3) hh).trans h3, h4⟩
  · exact .inr ⟨ad, c, h1, h2, h3, hk.at h4 (by rw [h3]; exact hh)⟩
/-- A tape in block g, what it is made of in block h: the words f, N of them, u used up. -/
def Tap (w : World) (g h N : Nat) (f : Nat → Int) (u : Nat) : Prop :=
  g ≠ h ∧ u ≤ N ∧ N < 9223372036854775807 ∧ ∃ p s, Tp w g p s (u : Int) ((N : Int) - (u : Int)) ∧ Src w h N f p s
theorem Tap.keep {w w' : World} {g h k N u : Nat} {f : Nat → Int} (ht : Tap w g h N f u) (hk : Keep k w w') (h1 : g ≠ k) (h2 : h ≠ k) : Tap w' g h N f u := by
  obtain ⟨a, b, c, p, s, d, e⟩ := ht
  exact ⟨a, b, c, p, s, d.keep hk h1, e.keep hk h2⟩
theorem Tap.below {w w' : World} {g h N u : Nat} {f : Nat → Int} (ht : Tap w g h N f u) (hb : Below w.heap.size w w') : Tap w' g h N f u := by
  obtain ⟨k, h1, h2⟩ : ∃ k, g ≠ k ∧ h ≠ k := ⟨g + h + 1, by omega, by omega⟩
  exact ht.keep (Keep.of_below hb (Nat.le_refl _)) h1 h2
theorem Tap.lt {w : World} {g h N u : Nat} {f : Nat → Int} (ht : Tap w g h N f u) : g < w.heap.size := by
  obtain ⟨_, _, _, _, _, d, _⟩ := ht
  exact d.lt
theorem Tap.congr {w : World} {g h N u : Nat} {f f' : Nat → Int} (ht : Tap w g h N f u) (hf : ∀ i, i < N → f i = f' i) : Tap w g h N f' u := by
  obtain ⟨a, b, c, p, s, d, e⟩ := ht
  refine ⟨a, b, c, p, s, d, ?_⟩
  rcases e with ⟨q, h1, h2, h3, h4, h5⟩ | ⟨ad, c, h1, h2, h3, h4⟩
  · exact .inl ⟨q, h1, h2, h3, h4, fun i hi => by rw [← hf i hi]; exact h5 i hi⟩
  · exact .inr ⟨ad, c, h1, h2, h3, fun i hi => by rw [← hf i hi]; exact h4 i hi⟩

/-- What take leaves. -/
def Took (g h N : Nat) (f : Nat → Int) (u : Nat) (w : World) (e : Ending) (w' : World) : Prop :=
  e = .returned (.int .u64 (f u)) ∧ Tap w' g h N f (u + 1) ∧ Keep g w w'
theorem u64_of_nat (n : Nat) (h : n < 9223372036854775807) : IntKind.u64.wrap (n : Int) = (n : Int) := by rw [u64w]; omega
set_option maxHeartbeats 1000000 in
set_option maxRecDepth 100000 in
theorem take_any (w : World) (g h N : Nat) (f : Nat → Int) (u : Nat) (ht : Tap w g h N f u) (hu : u < N) :
    Calls Tryd.prog 21 #[.pointer (some ⟨g, 0, none⟩)] w (Took g h N f u w) := by
  obtain ⟨hgh, _, hN, p, s, hT, hS⟩ := ht
  have c0 := hT.c0
  have c1 := hT.c1
  have c2 := hT.c2
  have c3 := hT.c3
  have z2 := hT.frozen 2
  have z3 := hT.frozen 3
  have hT2 := hT.set ((u : Int) + 1) ((N : Int) - u - 1)
  have hK2 := ((Keep.refl g w).set (p := ⟨g, 2, none⟩) rfl (.int .i64 ((u : Int) + 1))).set (p := ⟨g, 3, none⟩) rfl (.int .i64 ((N : Int) - u - 1))
  have e1 : IntKind.i64.wrap ((u : Int) + 1) = (u : Int) + 1 := i64_nat _ (by omega) (by omega)
  have e2 : IntKind.i64.wrap ((N : Int) - u - 1) = (N : Int) - u - 1 := i64_nat _ (by omega) (by omega)
  have e3 : IntKind.u64.wrap (u : Int) = (u : Int) := u64_of_nat u (by omega)
  have hS2 := hS.keep hK2 (fun e => hgh e.symm)
  have HH := Lib.hid (And.intro hT2 (And.intro hK2 hS2))
  clear hT hS hS2 hT2 hK2
  have d0 := HH.out.1.c0
  have d1 := HH.out.1.c1
  rcases HH.out.2.2 with ⟨k, rfl, rfl, hC, hk, hf⟩ | ⟨ad, c, rfl, rfl, hb, hA⟩
  · have HC := Lib.hid (And.intro hC (And.intro hk (hf u hu)))
    clear hC hk hf
    go_enter Tryd.func21, Tryd.ntmps21
    go_wp2_with fail
    refine (word_any h k u _ HC.out.1 HC.out.2.1 (by omega)).mono ?_
    rintro e w1 ⟨rfl, hb1⟩
    have HB := Lib.hid hb1
    clear hb1
    go_wp2
    go_ret
    have hk1 : Keep g w w1 := HH.out.2.1.trans (Keep.of_below HB.out (Nat.le_refl _))
    refine ⟨ret_int HC.out.2.2.symm, ⟨hgh, by omega, hN, _, _, ?_, (HH.out.2.2.keep (Keep.of_below HB.out (Nat.le_refl _)) (k := g) fun e => hgh e.symm)⟩, hk1⟩
    have := HH.out.1.below HB.out
    rw [show ((u + 1 : Nat) : Int) = (u : Int) + 1 by omega, show (N : Int) - ((u : Int) + 1) = (N : Int) - u - 1 by omega]
    exact this
  · have ca := hA u hu
    have lt1 : (u : Int) < (N : Int) := by omega
    have lt0 : (0 : Int) ≤ (u : Int) := by omega
    clear hA
    go_enter Tryd.func21, Tryd.ntmps21
    go_wp2
    go_ret
    refine ⟨rfl, ⟨hgh, by omega, hN, _, _, ?_, HH.out.2.2⟩, HH.out.2.1⟩
    rw [show ((u + 1 : Nat) : Int) = (u : Int) + 1 by omega, show (N : Int) - ((u : Int) + 1) = (N : Int) - u - 1 by omega]
    exact HH.out.1
end Go.Proofs.YtecdfjcncgcegaaDoor
