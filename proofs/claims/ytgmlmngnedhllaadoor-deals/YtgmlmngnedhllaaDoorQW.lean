/- Lists of words: memory known by a function of the place; lists that are only read; append; what changes but one block, or some. No function of the program, no bytes. -/
import Derived.Test.YtgmlmngnedhllaaDoorBB0
import Derived.Maps.AppendAt
import Derived.Laws.CopyRow
import Derived.Laws.MakeOwn
namespace Go.Proofs.YtgmlmngnedhllaaDoor
open Go.RowKit

structure Keep (g : Nat) (w w' : World) : Prop where
  os : w'.os = w.os
  tape : w'.tape = w.tape
  output : w'.output = w.output
  size : w.heap.size ≤ w'.heap.size
  block : ∀ k, k < w.heap.size → k ≠ g → w'.heap[k]? = w.heap[k]?
theorem Keep.below {g B : Nat} {w0 w w' : World} (h : Keep g w w') (hb : Below B w0 w) (hB : B ≤ g) (hs : B ≤ w.heap.size) : Below B w0 w' :=
  hb.trans ⟨h.os, h.tape, h.output, h.size, fun k hk => h.block k (by omega) (by omega)⟩

/-- The words that a function tells, one behind the other. -/
def wordsOf (N : Nat) (f : Nat → Int) : List Value := (List.range N).map fun q => Value.int .u64 (f q)
theorem wordsOf_get (N : Nat) (f : Nat → Int) (i : Nat) (h : i < N) : (wordsOf N f)[i]? = some (.int .u64 (f i)) := by
  simp [wordsOf, h]
theorem wordsOf_length (N : Nat) (f : Nat → Int) : (wordsOf N f).length = N := by simp [wordsOf]
theorem wordsOf_congr {N : Nat} {f g : Nat → Int} (h : ∀ q, q < N → f q = g q) : wordsOf N f = wordsOf N g := by
  unfold wordsOf
  apply List.map_congr_left
  intro q hq
  rw [h q (List.mem_range.1 hq)]
theorem wordsOf_set (N : Nat) (f : Nat → Int) (i : Nat) (x : Int) (h : i < N) :
    (wordsOf N f).set i (.int .u64 x) = wordsOf N (fun q => if q = i then x else f q) := by
  apply List.ext_getElem?
  intro j
  rw [List.getElem?_set]
  by_cases hj : j < N
  · rw [wordsOf_get N (fun q => if q = i then x else f q) _ hj]
    by_cases e : i = j
    · subst e; rw [if_pos rfl, if_pos (by rw [wordsOf_length]; exact h), if_pos rfl]
    · rw [if_neg e, wordsOf_get _ _ _ hj, if_neg (fun h => e h.symm)]
  · have h1 : (wordsOf N fun q => if q = i then x else f q)[j]? = none := by simp [wordsOf]; omega
    rw [h1, if_neg (by omega)]
    simp [wordsOf]; omega

/-- Block g is just these words, none of them fixed. -/
def Own (w : World) (g N : Nat) (f : Nat → Int) : Prop := w.heap[g]? = some (.cells (wordsOf N f).toArray 46 (0, 0))

section
variable {w w' : World} {g N : Nat} {f f' : Nat → Int}
theorem Own.lt (h : Own w g N f) : g < w.heap.size := by
  unfold Own at h
  exact (Array.getElem?_eq_some_iff.1 h).1
theorem Own.cell (h : Own w g N f) (i : Nat) (hi : i < N) : w.cell? ⟨g, i, none⟩ = some (.int .u64 (f i)) := by
  rw [cell_of_row w g i _ 46 (0, 0) h, List.getElem?_toArray, wordsOf_get _ _ _ hi]
theorem Own.frozen (h : Own w g N f) (i : Nat) : w.frozen? ⟨g, i, none⟩ = false := by
  unfold Own at h
  simp [World.frozen?, h]
theorem Own.congr (h : Own w g N f) (hf : ∀ q, q < N → f q = f' q) : Own w g N f' := by
  unfold Own at h ⊢
  rw [h, wordsOf_congr hf]
theorem Own.set (h : Own w g N f) (i : Nat) (hi : i < N) (x : Int) : Own (w.setCell ⟨g, i, none⟩ (.int .u64 x)) g N (fun q => if q = i then x else f q) := by
  unfold Own at h ⊢
  rw [← wordsOf_set N f i x hi]
  simp [World.setCell, Array.getElem?_modify, h]
theorem Own.below {B : Nat} (h : Own w g N f) (hb : Below B w w') (hg : g < B) : Own w' g N f := (hb.block g hg).trans h
theorem Own.drew (h : Own w g N f) : Own w.drew g N f := h
theorem Own.alloc (h : Own w g N f) (o : Obj) : Own (w.alloc o) g N f := (Below.heap_alloc w o g h.lt).trans h
end

/-- Words that are read from an address on. -/
def At (w : World) (a : Addr) (n : Nat) (f : Nat → Int) : Prop := ∀ i, i < n → w.cell? (a.add i) = some (.int .u64 (f i))

theorem At.own {w : World} {g N : Nat} {f : Nat → Int} (h : Own w g N f) : At w ⟨g, 0, none⟩ N f := by
  intro i hi
  have e : (⟨g, 0, none⟩ : Addr).add i = ⟨g, i, none⟩ := by
    unfold Addr.add; split
    · subst i; rfl
    · simp
  rw [e]; exact h.cell i hi
/-- Words that are read from where a list begins, if it has any. -/
def AtO (w : World) (A : Option Addr) (n : Nat) (f : Nat → Int) : Prop := ∀ i, i < n → ∃ ad, A = some ad ∧ w.cell? (ad.add i) = some (.int .u64 (f i))
theorem At.opt {w : World} {ad : Addr} {n : Nat} {f : Nat → Int} (h : At w ad n f) : AtO w (some ad) n f := fun i hi => ⟨ad, rfl, h i hi⟩
theorem AtO.none {w : World} {A : Option Addr} {f : Nat → Int} : AtO w A 0 f := fun i hi => absurd hi (by omega)
/-- A list that reads as these words. -/
def Lst (w : World) (v : Value) (n : Nat) (f : Nat → Int) : Prop := ∃ A c, v = .slice A n c ∧ n ≤ c ∧ c ≤ maxLen ∧ (A = none → c = 0) ∧ AtO w A n f
theorem AtO.below {w w' : World} {A : Option Addr} {n : Nat} {f : Nat → Int} (h : AtO w A n f) (hb : Below w.heap.size w w') : AtO w' A n f := fun i hi => by
  obtain ⟨ad, e, hc⟩ := h i hi
  exact ⟨ad, e, (hb.cell (World.block_lt_of_cell? _ _ hc)).trans hc⟩
theorem Lst.below {w w' : World} {v : Value} {n : Nat} {f : Nat → Int} (h : Lst w v n f) (hb : Below w.heap.size w w') : Lst w' v n f := by
  obtain ⟨A, c, e, h1, h2, h3, h4⟩ := h
  exact ⟨A, c, e, h1, h2, h3, h4.below hb⟩
theorem Lst.congr {w : World} {v : Value} {n : Nat} {f g : Nat → Int} (h : Lst w v n f) (hf : ∀ i, i < n → f i = g i) : Lst w v n g := by
  obtain ⟨A, c, e, h1, h2, h3, h4⟩ := h
  exact ⟨A, c, e, h1, h2, h3, fun i hi => by rw [← hf i hi]; exact h4 i hi⟩

theorem Tryd.info46 : (Tryd.prog.info? 46).map (fun i => (i.zero, i.size, i.bytes)) = some (some (.int .u64 0), 1, 8) := by kernel_rfl
theorem infoW : ∃ i, Tryd.prog.info? 46 = some i ∧ i.zero = some (.int .u64 0) ∧ i.size = 1 ∧ i.bytes = 8 := info_parts Tryd.info46
theorem news_of {w : World} {A : Option Addr} {n : Nat} {f : Nat → Int} {ad : Addr} (h : AtO w A n f) (hA : A = some ad) : ∀ j u, (wordsOf n f)[j]? = some u → w.cell? (ad.add j) = some u := by
  intro j u hu
  have hj : j < n := by
    have := (List.getElem?_eq_some_iff.1 hu).1
    rwa [wordsOf_length] at this
  rw [wordsOf_get _ _ _ hj] at hu
  obtain ⟨ad', e, hc⟩ := h j hj
  rw [hA] at e
  cases e
  rw [← hu]; exact hc
theorem words_one (n : Nat) (f : Nat → Int) : ∀ u ∈ wordsOf n f, u.oneCell' = true := by
  intro u hu
  simp only [wordsOf, List.mem_map] at hu
  obtain ⟨_, _, rfl⟩ := hu
  rfl
theorem words_app (n m : Nat) (f g : Nat → Int) : wordsOf n f ++ wordsOf m g = wordsOf (n + m) (fun i => if i < n then f i else g (i - n)) := by
  apply List.ext_getElem?
  intro i
  rcases Nat.lt_or_ge i n with hi | hi
  · rw [List.getElem?_append_left (by rw [wordsOf_length]; exact hi), wordsOf_get _ _ _ hi, wordsOf_get _ _ _ (by omega), if_pos hi]
  · rw [List.getElem?_append_right (by rw [wordsOf_length]; exact hi), wordsOf_length]
    rcases Nat.lt_or_ge i (n + m) with h | h
    · rw [wordsOf_get _ _ _ (by omega), wordsOf_get _ _ _ h, if_neg (by omega)]
    · simp only [wordsOf, List.getElem?_map]
      rw [List.getElem?_eq_none (by simp; omega), List.getElem?_eq_none (by simp; omega)]
      rfl
set_option maxRecDepth 100000 in
/-- append onto a list of the call's own. -/
theorem append_own (w : World) (base : Nat) (v : Value) (n m : Nat) (f g : Nat → Int) (A : Option Addr) (c : Nat) (hown : w.ownsRow base 46 1 v n (wordsOf n f)) (hA : AtO w A m g) (hc : A = none → m = 0 ∧ c = 0)
    (hn : (n + m) * 8 ≤ 140737488355328) (hbase : base ≤ w.heap.size) :
    ∃ v' w', (Builtin.append_ #[22, 22] 22 #[v, .slice A m c]).run Tryd.prog w = .ok v' w' ∧ w'.ownsRow base 46 1 v' (n + m) (wordsOf (n + m) (fun i => if i < n then f i else g (i - n))) ∧ Below base w w' := by
  obtain ⟨i0, hi, hz0, hz1, hz2⟩ := infoW
  rcases A with _ | ad
  · obtain ⟨rfl, rfl⟩ := hc rfl
    refine ⟨v, w, run_append_owned_none w base 22 22 46 i0 1 Tryd.underlying22 hi v n _ hown, ?_, Below.refl _ _⟩
    rw [Nat.add_zero, ← wordsOf_congr (f := f) (fun q hq => by rw [if_pos hq])]
    exact hown
  · obtain ⟨v', w', hr, h2, h3, _, h5⟩ := run_append_own_at w base 22 22 46 i0 (.int .u64 0) 1 8 Tryd.underlying22 hi hz0 hz1 hz2 rfl (by omega) v n _ hown ad m c (wordsOf m g) (by rw [wordsOf_length, Nat.mul_one]) (news_of hA rfl) (words_one m g) (by unfold maxLen; omega) (by omega) hbase
    refine ⟨v', w', hr, by rw [← words_app]; exact h2, (Below.refl base w).grown h3 hbase fun k hk => ?_⟩
    rcases hown.2 with ⟨rfl, _⟩ | ⟨g', cap, cur, rfl, hb, _⟩
    · simp [Value.ownBlock] at hk
    · simp [Value.ownBlock] at hk; omega
/-- A list of the call's own, read. -/
theorem own_lst {w : World} {base n : Nat} {v : Value} {f : Nat → Int} (h : w.ownsRow base 46 1 v n (wordsOf n f)) : Lst w v n f := by
  rcases h.2 with ⟨rfl, rfl⟩ | ⟨g, cap, cur, rfl, hb, hg, hnc, hm, hsz, ht⟩
  · exact ⟨none, 0, rfl, Nat.le_refl _, Nat.zero_le _, fun _ => rfl, AtO.none⟩
  · refine ⟨_, cap, rfl, hnc, hm, fun h => (by cases h), fun i hi => ⟨_, rfl, ?_⟩⟩
    have e : (⟨g, 0, none⟩ : Addr).add i = ⟨g, i, none⟩ := by
      unfold Addr.add; split
      · subst i; rfl
      · simp
    rw [e, cell_of_row w g i cur 46 (0, 0) hg]
    have : (cur.toList.take (n * 1))[i]? = some (.int .u64 (f i)) := by rw [ht, wordsOf_get _ _ _ hi]
    rw [Nat.mul_one, List.getElem?_take, if_pos hi] at this
    simpa using this


/-- Nothing but block g changes. -/
theorem Keep.refl (g : Nat) (w : World) : Keep g w w := ⟨rfl, rfl, rfl, Nat.le_refl _, fun _ _ _ => rfl⟩
theorem Keep.trans {g : Nat} {a b c : World} (h : Keep g a b) (h' : Keep g b c) : Keep g a c :=
  ⟨h'.os.trans h.os, h'.tape.trans h.tape, h'.output.trans h.output, Nat.le_trans h.size h'.size, fun k hk hg => (h'.block k (Nat.lt_of_lt_of_le hk h.size) hg).trans (h.block k hk hg)⟩
theorem Keep.of_below {g B : Nat} {w w' : World} (h : Below B w w') (hB : w.heap.size ≤ B) : Keep g w w' :=
  ⟨h.os, h.tape, h.output, h.size, fun k hk _ => h.block k (Nat.lt_of_lt_of_le hk hB)⟩
theorem Keep.set {g : Nat} {w w' : World} (h : Keep g w w') {p : Addr} (hp : p.block = g) (v : Value) : Keep g w (w'.setCell p v) :=
  ⟨h.os, h.tape, h.output, by have := h.size; simpa [World.setCell] using this, fun k hk hg => (Below.heap_setCell w' p v k (by omega)).trans (h.block k hk hg)⟩
theorem Keep.atO {g : Nat} {w w' : World} (h : Keep g w w') {A : Option Addr} {n : Nat} {f : Nat → Int} (ha : AtO w A n f) (hg : ∀ ad, A = some ad → 0 < n → ad.block ≠ g) : AtO w' A n f := fun i hi => by
  obtain ⟨ad, e, hc⟩ := ha i hi
  have hb : (ad.add i).block = ad.block := by unfold Addr.add; split <;> rfl
  refine ⟨ad, e, ?_⟩
  rw [World.cell?_of_block (w := w) (h.block _ (World.block_lt_of_cell? _ _ hc) (by rw [hb]; exact hg ad e (by omega)))]
  exact hc
theorem Keep.at {g : Nat} {w w' : World} (h : Keep g w w') {ad : Addr} {n : Nat} {f : Nat → Int} (ha : At w ad n f) (hg : ad.block ≠ g) : At w' ad n f := fun i hi => by
  have hc := ha i hi
  have hb : (ad.add i).block = ad.block := by unfold Addr.add; split <;> rfl
  rw [World.cell?_of_block (w := w) (h.block _ (World.block_lt_of_cell? _ _ hc) (by rw [hb]; exact hg))]
  exact hc
theorem At.below {w w' : World} {ad : Addr} {n : Nat} {f : Nat → Int} (h : At w ad n f) (hb : Below w.heap.size w w') : At w' ad n f := fun i hi => by
  have hc := h i hi
  exact (hb.cell (World.block_lt_of_cell? _ _ hc)).trans hc

/-- Nothing changes but blocks of S. -/
structure Chg (S : Nat → Prop) (w w' : World) : Prop where
  os : w'.os = w.os
  tape : w'.tape = w.tape
  output : w'.output = w.output
  size : w.heap.size ≤ w'.heap.size
  block : ∀ k, k < w.heap.size → ¬ S k → w'.heap[k]? = w.heap[k]?
theorem Chg.refl (S : Nat → Prop) (w : World) : Chg S w w := ⟨rfl, rfl, rfl, Nat.le_refl _, fun _ _ _ => rfl⟩
theorem Chg.trans {S : Nat → Prop} {a b c : World} (h : Chg S a b) (h' : Chg S b c) : Chg S a c :=
  ⟨h'.os.trans h.os, h'.tape.trans h.tape, h'.output.trans h.output, Nat.le_trans h.size h'.size, fun k hk hg => (h'.block k (Nat.lt_of_lt_of_le hk h.size) hg).trans (h.block k hk hg)⟩
theorem Chg.mono {S S' : Nat → Prop} {a b : World} (h : Chg S a b) (hs : ∀ k, k < a.heap.size → S k → S' k) : Chg S' a b := ⟨h.os, h.tape, h.output, h.size, fun k hk hg => h.block k hk fun e => hg (hs k hk e)⟩
theorem Chg.of_below {S : Nat → Prop} {w w' : World} {B : Nat} (h : Below B w w') (hB : ∀ k, k < w.heap.size → B ≤ k → S k) : Chg S w w' :=
  ⟨h.os, h.tape, h.output, h.size, fun k hk hs => h.block k (Nat.lt_of_not_le fun e => hs (hB k hk e))⟩
theorem Chg.of_keep {S : Nat → Prop} {w w' : World} {g : Nat} (h : Keep g w w') (hg : S g) : Chg S w w' :=
  ⟨h.os, h.tape, h.output, h.size, fun k hk hs => h.block k hk fun e => hs (by rw [e]; exact hg)⟩
theorem Chg.below {S : Nat → Prop} {w w' : World} (h : Chg S w w') {B : Nat} (hB : B ≤ w.heap.size) (hs : ∀ k, S k → B ≤ k) : Below B w w' :=
  ⟨h.os, h.tape, h.output, h.size, fun k hk => h.block k (by omega) fun e => by have := hs k e; omega⟩
theorem Chg.set {S : Nat → Prop} {w w' : World} (h : Chg S w w') {p : Addr} (hp : w.heap.size ≤ p.block ∨ S p.block) (v : Value) : Chg S w (w'.setCell p v) :=
  ⟨h.os, h.tape, h.output, by have := h.size; simpa [World.setCell] using this, fun k hk hg => (Below.heap_setCell w' p v k (by
    rintro rfl
    rcases hp with hp | hp
    · omega
    · exact hg hp)).trans (h.block k hk hg)⟩
theorem Chg.alloc {S : Nat → Prop} {w w' : World} (h : Chg S w w') (o : Obj) : Chg S w (w'.alloc o) :=
  h.trans (Chg.of_below ((Below.refl w'.heap.size w').alloc (Nat.le_refl _) o) (fun k hk hk' => by omega))
theorem Chg.drew {S : Nat → Prop} {w w' : World} (h : Chg S w w') : Chg S w w'.drew := ⟨h.os, h.tape, h.output, h.size, h.block⟩
theorem Chg.cell {S : Nat → Prop} {w w' : World} (h : Chg S w w') {p : Addr} {v : Value} (hc : w.cell? p = some v) (hp : ¬ S p.block) : w'.cell? p = some v :=
  (World.cell?_of_block (w := w) (h.block _ (World.block_lt_of_cell? _ _ hc) hp)).trans hc
theorem Chg.grown {S : Nat → Prop} {w w' w2 : World} {row : Option Nat} (h : Chg S w w') (hg : w'.grownBy w2 row) (hr : ∀ k, row = some k → w.heap.size ≤ k ∨ S k) : Chg S w w2 :=
  ⟨hg.os.trans h.os, hg.tape.trans h.tape, hg.output.trans h.output, Nat.le_trans h.size hg.size, fun k hk hs => (hg.block k (Nat.lt_of_lt_of_le hk h.size) (fun e => by
    rcases hr k e.symm with h1 | h1
    · omega
    · exact hs h1)).trans (h.block k hk hs)⟩
end Go.Proofs.YtgmlmngnedhllaaDoor
