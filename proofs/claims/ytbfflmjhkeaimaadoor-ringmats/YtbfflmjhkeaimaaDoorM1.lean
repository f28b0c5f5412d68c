/- Memory of the program's own that is known whole: a block of words given by a function of the place; sums; the contract of ring's addRow. -/
import Derived.Test.YtbfflmjhkeaimaaDoorW1
import Derived.BigRegion
import Derived.Below
import Derived.StillTailTactics
namespace Go.Proofs.YtbfflmjhkeaimaaDoor
open Go.RowKit

/-- The words that a function tells, one behind the other. -/
def wordsOf (N : Nat) (f : Nat → Int) : List Value := (List.range N).map fun q => Value.int .u64 (f q)
theorem wordsOf_get (N : Nat) (f : Nat → Int) (i : Nat) (h : i < N) : (wordsOf N f)[i]? = some (.int .u64 (f i)) := by
  simp [wordsOf, h]
theorem wordsOf_length (N : Nat) (f : Nat → Int) : (wordsOf N f).length = N := by simp [wordsOf]
theorem wordsOf_congr {N : Nat} {f g : Nat → Int} (h : ∀ q, q < N → f q = g q) : wordsOf N f = wordsOf N g := by
  unfold wordsOf
  apply List.map_congr_left
  intro q hq
  rw [h q (List.mem_range.1 hq)]
theorem wordsOf_set (N : Nat) (f : Nat → Int) (i : Nat) (x : Int) (h : i < N) :
    (wordsOf N f).set i (.int .u64 x) = wordsOf N (fun q => if q = i then x else f q) := by
  apply List.ext_getElem?
  intro j
  rw [List.getElem?_set]
  by_cases hj : j < N
  · rw [wordsOf_get N (fun q => if q = i then x else f q) _ hj]
    by_cases e : i = j
    · subst e; rw [if_pos rfl, if_pos (by rw [wordsOf_length]; exact h), if_pos rfl]
    · rw [if_neg e, wordsOf_get _ _ _ hj, if_neg (fun h => e h.symm)]
  · have h1 : (wordsOf N fun q => if q = i then x else f q)[j]? = none := by simp [wordsOf]; omega
    rw [h1, if_neg (by omega)]
    simp [wordsOf]; omega

/-- Block g is just these words, none of them fixed. -/
def Own (w : World) (g N : Nat) (f : Nat → Int) : Prop := w.heap[g]? = some (.cells (wordsOf N f).toArray 22 (0, 0))

section
variable {w w' : World} {g N : Nat} {f f' : Nat → Int}
theorem Own.lt (h : Own w g N f) : g < w.heap.size := by
  unfold Own at h
  exact (Array.getElem?_eq_some_iff.1 h).1
theorem Own.cell (h : Own w g N f) (i : Nat) (hi : i < N) : w.cell? ⟨g, i, none⟩ = some (.int .u64 (f i)) := by
  rw [cell_of_row w g i _ 22 (0, 0) h, List.getElem?_toArray, wordsOf_get _ _ _ hi]
theorem Own.frozen (h : Own w g N f) (i : Nat) : w.frozen? ⟨g, i, none⟩ = false := by
  unfold Own at h
  simp [World.frozen?, h]
theorem Own.congr (h : Own w g N f) (hf : ∀ q, q < N → f q = f' q) : Own w g N f' := by
  unfold Own at h ⊢
  rw [h, wordsOf_congr hf]
theorem Own.set (h : Own w g N f) (i : Nat) (hi : i < N) (x : Int) : Own (w.setCell ⟨g, i, none⟩ (.int .u64 x)) g N (fun q => if q = i then x else f q) := by
  unfold Own at h ⊢
  rw [← wordsOf_set N f i x hi]
  simp [World.setCell, Array.getElem?_modify, h]
theorem Own.below {B : Nat} (h : Own w g N f) (hb : Below B w w') (hg : g < B) : Own w' g N f := (hb.block g hg).trans h
theorem Own.drew (h : Own w g N f) : Own w.drew g N f := h
theorem Own.alloc (h : Own w g N f) (o : Obj) : Own (w.alloc o) g N f := (Below.heap_alloc w o g h.lt).trans h
end

/-- Words that are read from an address on. -/
def At (w : World) (a : Addr) (n : Nat) (f : Nat → Int) : Prop := ∀ i, i < n → w.cell? (a.add i) = some (.int .u64 (f i))

/-- The sum of the first n. -/
def sumTo (f : Nat → Int) : Nat → Int
  | 0 => 0
  | n + 1 => sumTo f n + f n

/-- The word. -/
def U (n : Int) : Int := n % 18446744073709551616

/-- A row of the product, behind j rounds of addRow. -/
def rowF (f α β : Nat → Int) (o n j : Nat) (q : Nat) : Int :=
  if o ≤ q ∧ q < o + n then U (f q + sumTo (fun t => α t * β (t * n + (q - o))) j) else f q
/-- .. and behind c rounds of its inner loop. -/
def midF (f α β : Nat → Int) (o n j c : Nat) (q : Nat) : Int :=
  if q < o + c then rowF f α β o n (j + 1) q else rowF f α β o n j q

theorem U_bd (n : Int) : 0 ≤ U n ∧ U n < 18446744073709551616 := by unfold U; omega
theorem rowF_zero (f α β : Nat → Int) (o n q : Nat) (h : 0 ≤ f q ∧ f q < 18446744073709551616) : rowF f α β o n 0 q = f q := by
  unfold rowF; split
  · simp [sumTo, U]; omega
  · rfl
theorem midF_zero (f α β : Nat → Int) (o n j q : Nat) : midF f α β o n j 0 q = rowF f α β o n j q := by
  unfold midF; split
  · unfold rowF; rw [if_neg (by omega), if_neg (by omega)]
  · rfl
theorem midF_full (f α β : Nat → Int) (o n j q : Nat) : midF f α β o n j n q = rowF f α β o n (j + 1) q := by
  unfold midF; split
  · rfl
  · unfold rowF; rw [if_neg (by omega), if_neg (by omega)]
theorem midF_at (f α β : Nat → Int) (o n j c : Nat) : midF f α β o n j c (o + c) = rowF f α β o n j (o + c) := by
  unfold midF; rw [if_neg (by omega)]
theorem step_word (a b : Int) : IntKind.u64.wrap (U a + IntKind.u64.wrap b) = U (a + b) := by
  rw [u64w, u64w]; unfold U; omega
theorem midF_step (f α β : Nat → Int) (o n j c : Nat) (hc : c < n) (q : Nat) :
    (if q = o + c then IntKind.u64.wrap (rowF f α β o n j (o + c) + IntKind.u64.wrap (α j * β (j * n + c))) else midF f α β o n j c q) = midF f α β o n j (c + 1) q := by
  by_cases e : q = o + c
  · subst e
    rw [if_pos rfl]
    unfold midF
    rw [if_pos (by omega)]
    unfold rowF
    rw [if_pos (by omega), if_pos (by omega), step_word]
    congr 1
    rw [show sumTo (fun t => α t * β (t * n + (o + c - o))) (j + 1) = sumTo (fun t => α t * β (t * n + (o + c - o))) j + α j * β (j * n + (o + c - o)) from rfl, show o + c - o = c by omega]
    omega
  · rw [if_neg e]
    unfold midF
    by_cases h : q < o + c
    · rw [if_pos h, if_pos (by omega)]
    · rw [if_neg h, if_neg (by omega)]
theorem block_add (a : Addr) (n : Nat) : (a.add n).block = a.block := by unfold Addr.add; split <;> rfl
theorem At.below {w w' : World} {B n : Nat} {a : Addr} {f : Nat → Int} (h : At w a n f) (hb : Below B w w') (ha : a.block < B) : At w' a n f :=
  fun i hi => (hb.cell (by rw [block_add]; exact ha)).trans (h i hi)
theorem lin_lt {j k n c L : Nat} (hj : j < k) (hc : c < n) (h : k * n ≤ L) : j * n + c < L := by
  have : (j + 1) * n ≤ k * n := Nat.mul_le_mul_right n hj
  rw [Nat.succ_mul] at this
  omega
theorem i64_nat (x : Int) (h0 : 0 ≤ x) (h1 : x < 9223372036854775808) : IntKind.i64.wrap x = x := by
  simp [IntKind.wrap, IntKind.bits, IntKind.signed]; omega
set_option maxHeartbeats 1000000 in
set_option maxRecDepth 100000 in
theorem addRow_any (g N o n k L ca cb cp : Nat) (f α β : Nat → Int) (aa ba : Addr) (w : World) (hO : Own w g N f) (hA : At w aa k α) (hB : At w ba L β) (hf : ∀ q, q < N → 0 ≤ f q ∧ f q < 18446744073709551616)
    (hag : aa.block < g) (hbg : ba.block < g) (hon : o + n ≤ N) (hN : N ≤ maxLen) (hL : L ≤ maxLen) (hk : k ≤ maxLen) (hkn : k * n ≤ L) :
    Calls Tryd.prog 30 #[.slice (some ⟨g, o, none⟩) n cp, .slice (some aa) k ca, .slice (some ba) L cb] w fun e w' => e = .returned (.tuple #[]) ∧ Own w' g N (rowF f α β o n k) ∧ Below g w w' := by
  have HA := Lib.hid hA
  have HB := Lib.hid hB
  have HO := Lib.hid hO
  have HF := Lib.hid hf
  have HL := Lib.hid hkn
  clear hA hB hO hf hkn
  unfold maxLen at hN hL hk
  go_enter Tryd.func30, Tryd.ntmps30
  go_wp2
  go_loopw [13] (fun t wr => ∃ j : Nat, j ≤ k ∧ t = .int .i64 j ∧ Hid (Own wr g N (rowF f α β o n j)) ∧ Hid (Below g w wr)) (fun t _ => k - (intOf t).toNat)
  case atStart => exact ⟨0, by omega, rfl, HO.out.congr fun q hq => (rowF_zero f α β o n q (HF.out q hq)).symm, Below.refl _ _⟩
  case round =>
    obtain ⟨j, hj, rfl, HOw, HBw⟩ := hrel
    by_cases hlt : j < k
    · go_wp2
      go_loopw [17] (fun t w2 => ∃ c : Nat, c ≤ n ∧ t = .int .i64 c ∧ Hid (Own w2 g N (midF f α β o n j c)) ∧ Hid (Below g w w2)) (fun t _ => n - (intOf t).toNat)
      case atStart => exact ⟨0, by omega, rfl, HOw.out.congr fun q _ => (midF_zero f α β o n j q).symm, HBw⟩
      case round =>
        clear HOw HBw
        obtain ⟨c, hc, rfl, HOw, HBw⟩ := hrel
        by_cases hlc : c < n
        · have hlin := lin_lt hlt hlc HL.out
          have c1 : wr.cell? ⟨g, o + c, none⟩ = some (.int .u64 (rowF f α β o n j (o + c))) := by
            rw [HOw.out.cell (o + c) (by omega), midF_at]
          have c2 : wr.cell? (aa.add j) = some (.int .u64 (α j)) := (HA.out.below HBw.out hag) j hlt
          have c3 : wr.cell? (ba.add (j * n + c)) = some (.int .u64 (β (j * n + c))) := (HB.out.below HBw.out hbg) _ hlin
          have f1 : wr.frozen? ⟨g, o + c, none⟩ = false := HOw.out.frozen _
          have c1' : wr.drew.cell? ⟨g, o + c, none⟩ = some (.int .u64 (rowF f α β o n j (o + c))) := c1
          have f1' : wr.drew.frozen? ⟨g, o + c, none⟩ = false := f1
          have hp : (j : Int) * n = ((j * n : Nat) : Int) := by rw [Int.natCast_mul]
          have e1 : IntKind.i64.wrap ((j : Int) * n) = (j : Int) * n := i64_nat _ (by omega) (by omega)
          have e2 : IntKind.i64.wrap ((j : Int) * n + c) = (j : Int) * n + c := i64_nat _ (by omega) (by omega)
          have e3 : (0 : Int) ≤ (j : Int) * n + c := by omega
          have e4 : (j : Int) * n + c < L := by omega
          have e5 : ((j : Int) * n + c).toNat = j * n + c := by omega
          have HP := Lib.hid hp
          clear hp
          go_wp2
          go_still_tail 18, (by kernel_rfl)
          change wpList _ _ _ _ _ wr.drew
          have HD : Own wr.drew g N (midF f α β o n j c) ∧ Below g w wr.drew := ⟨HOw.out.drew, HBw.out.drew⟩
          have HE := Lib.hid HD
          clear HD
          generalize wr.drew = w2 at HE c1' f1' ⊢
          go_wp2
          go_roundw
          case rel => exact ⟨c + 1, by omega, by go_num, (HE.out.1.set (o + c) (by omega) _).congr fun q _ => midF_step f α β o n j c hlc q, HE.out.2.setCell (Nat.le_refl _) _⟩
          case measure => simp [intOf]; omega
        · go_wp2
          go_roundw
          case rel => exact ⟨j + 1, by omega, by go_num, HOw.out.congr fun q _ => by rw [show c = n by omega, midF_full], HBw⟩
          case measure => simp [intOf]; omega
    · go_wp2
      go_end0
      exact ⟨rfl, by rw [show k = j by omega]; exact HOw.out, HBw.out⟩
end Go.Proofs.YtbfflmjhkeaimaaDoor
