/- Contracts of packages tape and corr. No condition beyond those that each theorem states. -/
import Derived.Test.YtamejhhjfnfalaaDoorMQ
import Derived.Test.YtamejhhjfnfalaaDoorME
import Derived.Maps.AppendAt
import Derived.Laws.CopyRow
import Derived.Laws.MakeOwn
import Derived.Laws.Slices
import Derived.ArgAppend
/- Lists of words: memory known by a function of the place; lists that are only read; append; what changes but one block, or some. No function of the program, no bytes. -/
namespace Go.Proofs.YtamejhhjfnfalaaDoor.Co
open Go.RowKit

structure Keep (g : Nat) (w w' : World) : Prop where
  os : w'.os = w.os
  tape : w'.tape = w.tape
  output : w'.output = w.output
  size : w.heap.size ≤ w'.heap.size
  block : ∀ k, k < w.heap.size → k ≠ g → w'.heap[k]? = w.heap[k]?
theorem Keep.below {g B : Nat} {w0 w w' : World} (h : Keep g w w') (hb : Below B w0 w) (hB : B ≤ g) (hs : B ≤ w.heap.size) : Below B w0 w' :=
  hb.trans ⟨h.os, h.tape, h.output, h.size, fun k hk => h.block k (by omega) (by omega)⟩

/-- The words that a function tells, one behind the other. -/
def wordsOf (N : Nat) (f : Nat → Int) : List Value := (List.range N).map fun q => Value.int .u64 (f q)
theorem wordsOf_get (N : Nat) (f : Nat → Int) (i : Nat) (h : i < N) : (wordsOf N f)[i]? = some (.int .u64 (f i)) := by
  simp [wordsOf, h]
theorem wordsOf_length (N : Nat) (f : Nat → Int) : (wordsOf N f).length = N := by simp [wordsOf]
theorem wordsOf_congr {N : Nat} {f g : Nat → Int} (h : ∀ q, q < N → f q = g q) : wordsOf N f = wordsOf N g := by
  unfold wordsOf
  apply List.map_congr_left
  intro q hq
  rw [h q (List.mem_range.1 hq)]
theorem wordsOf_set (N : Nat) (f : Nat → Int) (i : Nat) (x : Int) (h : i < N) :
    (wordsOf N f).set i (.int .u64 x) = wordsOf N (fun q => if q = i then x else f q) := by
  apply List.ext_getElem?
  intro j
  rw [List.getElem?_set]
  by_cases hj : j < N
  · rw [wordsOf_get N (fun q => if q = i then x else f q) _ hj]
    by_cases e : i = j
    · subst e; rw [if_pos rfl, if_pos (by rw [wordsOf_length]; exact h), if_pos rfl]
    · rw [if_neg e, wordsOf_get _ _ _ hj, if_neg (fun h => e h.symm)]
  · have h1 : (wordsOf N fun q => if q = i then x else f q)[j]? = none := by simp [wordsOf]; omega
    rw [h1, if_neg (by omega)]
    simp [wordsOf]; omega

/-- Block g is just these words, none of them fixed. -/
def Own (w : World) (g N : Nat) (f : Nat → Int) : Prop := w.heap[g]? = some (.cells (wordsOf N f).toArray 26 (0, 0))

section
variable {w w' : World} {g N : Nat} {f f' : Nat → Int}
theorem Own.lt (h : Own w g N f) : g < w.heap.size := by
  unfold Own at h
  exact (Array.getElem?_eq_some_iff.1 h).1
theorem Own.cell (h : Own w g N f) (i : Nat) (hi : i < N) : w.cell? ⟨g, i, none⟩ = some (.int .u64 (f i)) := by
  rw [cell_of_row w g i _ 26 (0, 0) h, List.getElem?_toArray, wordsOf_get _ _ _ hi]
theorem Own.frozen (h : Own w g N f) (i : Nat) : w.frozen? ⟨g, i, none⟩ = false := by
  unfold Own at h
  simp [World.frozen?, h]
theorem Own.congr (h : Own w g N f) (hf : ∀ q, q < N → f q = f' q) : Own w g N f' := by
  unfold Own at h ⊢
  rw [h, wordsOf_congr hf]
theorem Own.set (h : Own w g N f) (i : Nat) (hi : i < N) (x : Int) : Own (w.setCell ⟨g, i, none⟩ (.int .u64 x)) g N (fun q => if q = i then x else f q) := by
  unfold Own at h ⊢
  rw [← wordsOf_set N f i x hi]
  simp [World.setCell, Array.getElem?_modify, h]
theorem Own.below {B : Nat} (h : Own w g N f) (hb : Below B w w') (hg : g < B) : Own w' g N f := (hb.block g hg).trans h
theorem Own.drew (h : Own w g N f) : Own w.drew g N f := h
theorem Own.alloc (h : Own w g N f) (o : Obj) : Own (w.alloc o) g N f := (Below.heap_alloc w o g h.lt).trans h
end

/-- Words that are read from an address on. -/
def At (w : World) (a : Addr) (n : Nat) (f : Nat → Int) : Prop := ∀ i, i < n → w.cell? (a.add i) = some (.int .u64 (f i))

theorem At.own {w : World} {g N : Nat} {f : Nat → Int} (h : Own w g N f) : At w ⟨g, 0, none⟩ N f := by
  intro i hi
  have e : (⟨g, 0, none⟩ : Addr).add i = ⟨g, i, none⟩ := by
    unfold Addr.add; split
    · subst i; rfl
    · simp
  rw [e]; exact h.cell i hi
/-- Words that are read from where a list begins, if it has any. -/
def AtO (w : World) (A : Option Addr) (n : Nat) (f : Nat → Int) : Prop := ∀ i, i < n → ∃ ad, A = some ad ∧ w.cell? (ad.add i) = some (.int .u64 (f i))
theorem At.opt {w : World} {ad : Addr} {n : Nat} {f : Nat → Int} (h : At w ad n f) : AtO w (some ad) n f := fun i hi => ⟨ad, rfl, h i hi⟩
theorem AtO.none {w : World} {A : Option Addr} {f : Nat → Int} : AtO w A 0 f := fun i hi => absurd hi (by omega)
/-- A list that reads as these words. -/
def Lst (w : World) (v : Value) (n : Nat) (f : Nat → Int) : Prop := ∃ A c, v = .slice A n c ∧ n ≤ c ∧ c ≤ maxLen ∧ (A = none → c = 0) ∧ AtO w A n f
theorem AtO.below {w w' : World} {A : Option Addr} {n : Nat} {f : Nat → Int} (h : AtO w A n f) (hb : Below w.heap.size w w') : AtO w' A n f := fun i hi => by
  obtain ⟨ad, e, hc⟩ := h i hi
  exact ⟨ad, e, (hb.cell (World.block_lt_of_cell? _ _ hc)).trans hc⟩
theorem Lst.below {w w' : World} {v : Value} {n : Nat} {f : Nat → Int} (h : Lst w v n f) (hb : Below w.heap.size w w') : Lst w' v n f := by
  obtain ⟨A, c, e, h1, h2, h3, h4⟩ := h
  exact ⟨A, c, e, h1, h2, h3, h4.below hb⟩
theorem Lst.congr {w : World} {v : Value} {n : Nat} {f g : Nat → Int} (h : Lst w v n f) (hf : ∀ i, i < n → f i = g i) : Lst w v n g := by
  obtain ⟨A, c, e, h1, h2, h3, h4⟩ := h
  exact ⟨A, c, e, h1, h2, h3, fun i hi => by rw [← hf i hi]; exact h4 i hi⟩

theorem Tryd.info26 : (Tryd.prog.info? 26).map (fun i => (i.zero, i.size, i.bytes)) = some (some (.int .u64 0), 1, 8) := by kernel_rfl
theorem infoW : ∃ i, Tryd.prog.info? 26 = some i ∧ i.zero = some (.int .u64 0) ∧ i.size = 1 ∧ i.bytes = 8 := info_parts Tryd.info26
theorem news_of {w : World} {A : Option Addr} {n : Nat} {f : Nat → Int} {ad : Addr} (h : AtO w A n f) (hA : A = some ad) : ∀ j u, (wordsOf n f)[j]? = some u → w.cell? (ad.add j) = some u := by
  intro j u hu
  have hj : j < n := by
    have := (List.getElem?_eq_some_iff.1 hu).1
    rwa [wordsOf_length] at this
  rw [wordsOf_get _ _ _ hj] at hu
  obtain ⟨ad', e, hc⟩ := h j hj
  rw [hA] at e
  cases e
  rw [← hu]; exact hc
theorem words_one (n : Nat) (f : Nat → Int) : ∀ u ∈ wordsOf n f, u.oneCell' = true := by
  intro u hu
  simp only [wordsOf, List.mem_map] at hu
  obtain ⟨_, _, rfl⟩ := hu
  rfl
theorem words_app (n m : Nat) (f g : Nat → Int) : wordsOf n f ++ wordsOf m g = wordsOf (n + m) (fun i => if i < n then f i else g (i - n)) := by
  apply List.ext_getElem?
  intro i
  rcases Nat.lt_or_ge i n with hi | hi
  · rw [List.getElem?_append_left (by rw [wordsOf_length]; exact hi), wordsOf_get _ _ _ hi, wordsOf_get _ _ _ (by omega), if_pos hi]
  · rw [List.getElem?_append_right (by rw [wordsOf_length]; exact hi), wordsOf_length]
    rcases Nat.lt_or_ge i (n + m) with h | h
    · rw [wordsOf_get _ _ _ (by omega), wordsOf_get _ _ _ h, if_neg (by omega)]
    · simp only [wordsOf, List.getElem?_map]
      rw [List.getElem?_eq_none (by simp; omega), List.getElem?_eq_none (by simp; omega)]
      rfl
set_option maxRecDepth 100000 in
/-- append onto a list of the call's own. -/
theorem append_own (w : World) (base : Nat) (v : Value) (n m : Nat) (f g : Nat → Int) (A : Option Addr) (c : Nat) (hown : w.ownsRow base 26 1 v n (wordsOf n f)) (hA : AtO w A m g) (hc : A = none → m = 0 ∧ c = 0)
    (hn : (n + m) * 8 ≤ 140737488355328) (hbase : base ≤ w.heap.size) :
    ∃ v' w', (Builtin.append_ #[61, 61] 61 #[v, .slice A m c]).run Tryd.prog w = .ok v' w' ∧ w'.ownsRow base 26 1 v' (n + m) (wordsOf (n + m) (fun i => if i < n then f i else g (i - n))) ∧ Below base w w' := by
  obtain ⟨i0, hi, hz0, hz1, hz2⟩ := infoW
  rcases A with _ | ad
  · obtain ⟨rfl, rfl⟩ := hc rfl
    refine ⟨v, w, run_append_owned_none w base 61 61 26 i0 1 Tryd.underlying61 hi v n _ hown, ?_, Below.refl _ _⟩
    rw [Nat.add_zero, ← wordsOf_congr (f := f) (fun q hq => by rw [if_pos hq])]
    exact hown
  · obtain ⟨v', w', hr, h2, h3, _, h5⟩ := run_append_own_at w base 61 61 26 i0 (.int .u64 0) 1 8 Tryd.underlying61 hi hz0 hz1 hz2 rfl (by omega) v n _ hown ad m c (wordsOf m g) (by rw [wordsOf_length, Nat.mul_one]) (news_of hA rfl) (words_one m g) (by unfold maxLen; omega) (by omega) hbase
    refine ⟨v', w', hr, by rw [← words_app]; exact h2, (Below.refl base w).grown h3 hbase fun k hk => ?_⟩
    rcases hown.2 with ⟨rfl, _⟩ | ⟨g', cap, cur, rfl, hb, _⟩
    · simp [Value.ownBlock] at hk
    · simp [Value.ownBlock] at hk; omega
/-- A list of the call's own, read. -/
theorem own_lst {w : World} {base n : Nat} {v : Value} {f : Nat → Int} (h : w.ownsRow base 26 1 v n (wordsOf n f)) : Lst w v n f := by
  rcases h.2 with ⟨rfl, rfl⟩ | ⟨g, cap, cur, rfl, hb, hg, hnc, hm, hsz, ht⟩
  · exact ⟨none, 0, rfl, Nat.le_refl _, Nat.zero_le _, fun _ => rfl, AtO.none⟩
  · refine ⟨_, cap, rfl, hnc, hm, fun h => (by cases h), fun i hi => ⟨_, rfl, ?_⟩⟩
    have e : (⟨g, 0, none⟩ : Addr).add i = ⟨g, i, none⟩ := by
      unfold Addr.add; split
      · subst i; rfl
      · simp
    rw [e, cell_of_row w g i cur 26 (0, 0) hg]
    have : (cur.toList.take (n * 1))[i]? = some (.int .u64 (f i)) := by rw [ht, wordsOf_get _ _ _ hi]
    rw [Nat.mul_one, List.getElem?_take, if_pos hi] at this
    simpa using this


/-- Nothing but block g changes. -/
theorem Keep.refl (g : Nat) (w : World) : Keep g w w := ⟨rfl, rfl, rfl, Nat.le_refl _, fun _ _ _ => rfl⟩
theorem Keep.trans {g : Nat} {a b c : World} (h : Keep g a b) (h' : Keep g b c) : Keep g a c :=
  ⟨h'.os.trans h.os, h'.tape.trans h.tape, h'.output.trans h.output, Nat.le_trans h.size h'.size, fun k hk hg => (h'.block k (Nat.lt_of_lt_of_le hk h.size) hg).trans (h.block k hk hg)⟩
theorem Keep.of_below {g B : Nat} {w w' : World} (h : Below B w w') (hB : w.heap.size ≤ B) : Keep g w w' :=
  ⟨h.os, h.tape, h.output, h.size, fun k hk _ => h.block k (Nat.lt_of_lt_of_le hk hB)⟩
theorem Keep.set {g : Nat} {w w' : World} (h : Keep g w w') {p : Addr} (hp : p.block = g) (v : Value) : Keep g w (w'.setCell p v) :=
  ⟨h.os, h.tape, h.output, by have := h.size; simpa [World.setCell] using this, fun k hk hg => (Below.heap_setCell w' p v k (by omega)).trans (h.block k hk hg)⟩
theorem Keep.atO {g : Nat} {w w' : World} (h : Keep g w w') {A : Option Addr} {n : Nat} {f : Nat → Int} (ha : AtO w A n f) (hg : ∀ ad, A = some ad → 0 < n → ad.block ≠ g) : AtO w' A n f := fun i hi => by
  obtain ⟨ad, e, hc⟩ := ha i hi
  have hb : (ad.add i).block = ad.block := by unfold Addr.add; split <;> rfl
  refine ⟨ad, e, ?_⟩
  rw [World.cell?_of_block (w := w) (h.block _ (World.block_lt_of_cell? _ _ hc) (by rw [hb]; exact hg ad e (by omega)))]
  exact hc
theorem Keep.at {g : Nat} {w w' : World} (h : Keep g w w') {ad : Addr} {n : Nat} {f : Nat → Int} (ha : At w ad n f) (hg : ad.block ≠ g) : At w' ad n f := fun i hi => by
  have hc := ha i hi
  have hb : (ad.add i).block = ad.block := by unfold Addr.add; split <;> rfl
  rw [World.cell?_of_block (w := w) (h.block _ (World.block_lt_of_cell? _ _ hc) (by rw [hb]; exact hg))]
  exact hc
theorem At.below {w w' : World} {ad : Addr} {n : Nat} {f : Nat → Int} (h : At w ad n f) (hb : Below w.heap.size w w') : At w' ad n f := fun i hi => by
  have hc := h i hi
  exact (hb.cell (World.block_lt_of_cell? _ _ hc)).trans hc

/-- Nothing changes but blocks of S. -/
structure Chg (S : Nat → Prop) (w w' : World) : Prop where
  os : w'.os = w.os
  tape : w'.tape = w.tape
  output : w'.output = w.output
  size : w.heap.size ≤ w'.heap.size
  block : ∀ k, k < w.heap.size → ¬ S k → w'.heap[k]? = w.heap[k]?
theorem Chg.refl (S : Nat → Prop) (w : World) : Chg S w w := ⟨rfl, rfl, rfl, Nat.le_refl _, fun _ _ _ => rfl⟩
theorem Chg.trans {S : Nat → Prop} {a b c : World} (h : Chg S a b) (h' : Chg S b c) : Chg S a c :=
  ⟨h'.os.trans h.os, h'.tape.trans h.tape, h'.output.trans h.output, Nat.le_trans h.size h'.size, fun k hk hg => (h'.block k (Nat.lt_of_lt_of_le hk h.size) hg).trans (h.block k hk hg)⟩
theorem Chg.mono {S S' : Nat → Prop} {a b : World} (h : Chg S a b) (hs : ∀ k, k < a.heap.size → S k → S' k) : Chg S' a b := ⟨h.os, h.tape, h.output, h.size, fun k hk hg => h.block k hk fun e => hg (hs k hk e)⟩
theorem Chg.of_below {S : Nat → Prop} {w w' : World} {B : Nat} (h : Below B w w') (hB : ∀ k, k < w.heap.size → B ≤ k → S k) : Chg S w w' :=
  ⟨h.os, h.tape, h.output, h.size, fun k hk hs => h.block k (Nat.lt_of_not_le fun e => hs (hB k hk e))⟩
theorem Chg.of_keep {S : Nat → Prop} {w w' : World} {g : Nat} (h : Keep g w w') (hg : S g) : Chg S w w' :=
  ⟨h.os, h.tape, h.output, h.size, fun k hk hs => h.block k hk fun e => hs (by rw [e]; exact hg)⟩
theorem Chg.below {S : Nat → Prop} {w w' : World} (h : Chg S w w') {B : Nat} (hB : B ≤ w.heap.size) (hs : ∀ k, S k → B ≤ k) : Below B w w' :=
  ⟨h.os, h.tape, h.output, h.size, fun k hk => h.block k (by omega) fun e => by have := hs k e; omega⟩
theorem Chg.set {S : Nat → Prop} {w w' : World} (h : Chg S w w') {p : Addr} (hp : w.heap.size ≤ p.block ∨ S p.block) (v : Value) : Chg S w (w'.setCell p v) :=
  ⟨h.os, h.tape, h.output, by have := h.size; simpa [World.setCell] using this, fun k hk hg => (Below.heap_setCell w' p v k (by
    rintro rfl
    rcases hp with hp | hp
    · omega
    · exact hg hp)).trans (h.block k hk hg)⟩
theorem Chg.alloc {S : Nat → Prop} {w w' : World} (h : Chg S w w') (o : Obj) : Chg S w (w'.alloc o) :=
  h.trans (Chg.of_below ((Below.refl w'.heap.size w').alloc (Nat.le_refl _) o) (fun k hk hk' => by omega))
theorem Chg.drew {S : Nat → Prop} {w w' : World} (h : Chg S w w') : Chg S w w'.drew := ⟨h.os, h.tape, h.output, h.size, h.block⟩
theorem Chg.cell {S : Nat → Prop} {w w' : World} (h : Chg S w w') {p : Addr} {v : Value} (hc : w.cell? p = some v) (hp : ¬ S p.block) : w'.cell? p = some v :=
  (World.cell?_of_block (w := w) (h.block _ (World.block_lt_of_cell? _ _ hc) hp)).trans hc
theorem Chg.grown {S : Nat → Prop} {w w' w2 : World} {row : Option Nat} (h : Chg S w w') (hg : w'.grownBy w2 row) (hr : ∀ k, row = some k → w.heap.size ≤ k ∨ S k) : Chg S w w2 :=
  ⟨hg.os.trans h.os, hg.tape.trans h.tape, hg.output.trans h.output, Nat.le_trans h.size hg.size, fun k hk hs => (hg.block k (Nat.lt_of_lt_of_le hk h.size) (fun e => by
    rcases hr k e.symm with h1 | h1
    · omega
    · exact hs h1)).trans (h.block k hk hs)⟩
end Go.Proofs.YtamejhhjfnfalaaDoor.Co

/- A loaded tape in memory; the contracts of tape's Load, take, Next, Used, Left. -/
namespace Go.Proofs.YtamejhhjfnfalaaDoor.Co
open Go.RowKit

/-- Block g is a tape's four cells. -/
def Tp (w : World) (g : Nat) (p : Option Addr) (s : Value) (u l : Int) : Prop := w.heap[g]? = some (.cells #[.pointer p, s, .int .i64 u, .int .i64 l] 128 (0, 0))
section
variable {w w' : World} {g : Nat} {p : Option Addr} {s : Value} {u l : Int}
theorem Tp.lt (h : Tp w g p s u l) : g < w.heap.size := (Array.getElem?_eq_some_iff.1 h).1
theorem Tp.c0 (h : Tp w g p s u l) : w.cell? ⟨g, 0, none⟩ = some (.pointer p) := by rw [cell_of_row w g 0 _ 128 (0, 0) h]; rfl
theorem Tp.c1 (h : Tp w g p s u l) : w.cell? ⟨g, 1, none⟩ = some s := by rw [cell_of_row w g 1 _ 128 (0, 0) h]; rfl
theorem Tp.c2 (h : Tp w g p s u l) : w.cell? ⟨g, 2, none⟩ = some (.int .i64 u) := by rw [cell_of_row w g 2 _ 128 (0, 0) h]; rfl
theorem Tp.c3 (h : Tp w g p s u l) : w.cell? ⟨g, 3, none⟩ = some (.int .i64 l) := by rw [cell_of_row w g 3 _ 128 (0, 0) h]; rfl
theorem Tp.frozen (h : Tp w g p s u l) (i : Nat) : w.frozen? ⟨g, i, none⟩ = false := by unfold Tp at h; simp [World.frozen?, h]
theorem Tp.set (h : Tp w g p s u l) (u' l' : Int) : Tp ((w.setCell ⟨g, 2, none⟩ (.int .i64 u')).setCell ⟨g, 3, none⟩ (.int .i64 l')) g p s u' l' := by
  unfold Tp at h ⊢
  simp [World.setCell, Array.getElem?_modify, h]
theorem Tp.keep {k : Nat} (h : Tp w g p s u l) (hk : Keep k w w') (hg : g ≠ k) : Tp w' g p s u l := (hk.block g h.lt hg).trans h
theorem Tp.new (w : World) (p : Option Addr) (s : Value) (u l : Int) : Tp (w.alloc (.cells #[.pointer p, s, .int .i64 u, .int .i64 l] 128)) w.heap.size p s u l := heap_alloc_new w _
end

/-- A tape in block g that was loaded, its words in block h: the words f, N of them, u used up. -/
def Tap (w : World) (g h N : Nat) (f : Nat → Int) (u : Nat) : Prop :=
  g ≠ h ∧ u ≤ N ∧ N < 9223372036854775807 ∧ ∃ c, Tp w g none (.slice (some ⟨h, 0, none⟩) N c) (u : Int) ((N : Int) - (u : Int)) ∧ Own w h N f
section
variable {w w' : World} {g h k N u : Nat} {f f' : Nat → Int}
theorem Tap.heap (ht : Tap w g h N f u) (h1 : w'.heap[g]? = w.heap[g]?) (h2 : w'.heap[h]? = w.heap[h]?) : Tap w' g h N f u := by
  obtain ⟨a, b, c, d, e, i⟩ := ht
  exact ⟨a, b, c, d, h1.trans e, h2.trans i⟩
theorem Tap.lt (ht : Tap w g h N f u) : g < w.heap.size := by
  obtain ⟨_, _, _, _, d, _⟩ := ht
  exact d.lt
theorem Tap.src_lt (ht : Tap w g h N f u) : h < w.heap.size := by
  obtain ⟨_, _, _, _, _, d⟩ := ht
  exact d.lt
theorem Tap.chg {S : Nat → Prop} (ht : Tap w g h N f u) (hc : Chg S w w') (h1 : ¬ S g) (h2 : ¬ S h) : Tap w' g h N f u := ht.heap (hc.block _ ht.lt h1) (hc.block _ ht.src_lt h2)
theorem Tap.below (ht : Tap w g h N f u) (hb : Below w.heap.size w w') : Tap w' g h N f u := ht.heap (hb.block _ ht.lt) (hb.block _ ht.src_lt)
theorem Tap.congr (ht : Tap w g h N f u) (hf : ∀ i, i < N → f i = f' i) : Tap w g h N f' u := by
  obtain ⟨a, b, c, d, e, i⟩ := ht
  exact ⟨a, b, c, d, e, i.congr hf⟩
end

/-- What take leaves. -/
def Took (g h N : Nat) (f : Nat → Int) (u : Nat) (w : World) (e : Ending) (w' : World) : Prop :=
  e = .returned (.int .u64 (f u)) ∧ Tap w' g h N f (u + 1) ∧ Keep g w w'
set_option maxHeartbeats 1000000 in
set_option maxRecDepth 100000 in
theorem take_any (w : World) (g h N : Nat) (f : Nat → Int) (u : Nat) (ht : Tap w g h N f u) (hu : u < N) :
    Calls Tryd.prog 101 #[.pointer (some ⟨g, 0, none⟩)] w (Took g h N f u w) := by
  obtain ⟨hgh, _, hN, c, hT, hS⟩ := ht
  have c0 := hT.c0
  have c1 := hT.c1
  have c2 := hT.c2
  have c3 := hT.c3
  have z2 := hT.frozen 2
  have z3 := hT.frozen 3
  have hT2 := hT.set ((u : Int) + 1) ((N : Int) - u - 1)
  have hK2 := ((Keep.refl g w).set (p := ⟨g, 2, none⟩) rfl (.int .i64 ((u : Int) + 1))).set (p := ⟨g, 3, none⟩) rfl (.int .i64 ((N : Int) - u - 1))
  have e1 : IntKind.i64.wrap ((u : Int) + 1) = (u : Int) + 1 := i64_nat _ (by omega) (by omega)
  have e2 : IntKind.i64.wrap ((N : Int) - u - 1) = (N : Int) - u - 1 := i64_nat _ (by omega) (by omega)
  have hS2 : Own _ h N f := (hK2.block h hS.lt (fun e => hgh e.symm)).trans hS
  have HH := Lib.hid (And.intro hT2 (And.intro hK2 hS2))
  have d0 := hT2.c0
  have d1 := hT2.c1
  have ca := hS2.cell u hu
  have lt1 : (u : Int) < (N : Int) := by omega
  have lt0 : (0 : Int) ≤ (u : Int) := by omega
  clear hT hS hS2 hT2 hK2
  go_enter Tryd.func101, Tryd.ntmps101
  go_wp2
  go_ret
  refine ⟨rfl, ⟨hgh, by omega, hN, c, ?_, HH.out.2.2⟩, HH.out.2.1⟩
  rw [show ((u + 1 : Nat) : Int) = (u : Int) + 1 by omega, show (N : Int) - ((u : Int) + 1) = (N : Int) - u - 1 by omega]
  exact HH.out.1
set_option maxHeartbeats 1000000 in
theorem next_some (w : World) (g h N : Nat) (f : Nat → Int) (u : Nat) (ht : Tap w g h N f u) (hu : u < N) :
    Calls Tryd.prog 83 #[.pointer (some ⟨g, 0, none⟩)] w fun e w' => e = .returned (.tuple #[.int .u64 (f u), .nilIface]) ∧ Tap w' g h N f (u + 1) ∧ Keep g w w' := by
  have HT := Lib.hid (take_any w g h N f u ht hu)
  obtain ⟨_, _, _, c, hT, _⟩ := ht
  have c3 := hT.c3
  have l1 : ¬ ((N : Int) - (u : Int) < 1) := by omega
  clear hT
  go_enter Tryd.func83, Tryd.ntmps83
  go_wp2_with fail
  refine HT.out.mono ?_
  rintro e w1 ⟨rfl, h1, h2⟩
  have HH := Lib.hid (And.intro h1 h2)
  clear h1 h2
  go_wp2
  go_ret2
  exact ⟨rfl, HH.out.1, HH.out.2⟩
set_option maxHeartbeats 400000 in
theorem left_any (w : World) (g h N : Nat) (f : Nat → Int) (u : Nat) (ht : Tap w g h N f u) :
    Calls Tryd.prog 80 #[.pointer (some ⟨g, 0, none⟩)] w fun e w' => e = .returned (.int .i64 ((N : Int) - (u : Int))) ∧ w = w' := by
  obtain ⟨_, _, _, c, hT, _⟩ := ht
  have c3 := hT.c3
  clear hT
  go_enter Tryd.func80, Tryd.ntmps80
  go_wp2
  go_ret
  exact ⟨rfl, rfl⟩
/-- A new tape. -/
def NewT (N : Nat) (f : Nat → Int) (w : World) (e : Ending) (w' : World) : Prop :=
  ∃ g h, w.heap.size ≤ g ∧ w.heap.size ≤ h ∧ e = .returned (.pointer (some ⟨g, 0, none⟩)) ∧ Tap w' g h N f 0 ∧ Below w.heap.size w w'
theorem made_words (n : Nat) : madeCells (Value.int .u64 0).cells (n * 1) = (wordsOf n fun _ => 0).toArray := by
  rw [Nat.mul_one]
  apply Array.ext
  · simp [madeCells, wordsOf]
  · intro i h1 h2
    simp [madeCells, wordsOf, Value.cells, Nat.mod_one]
theorem run_makeWords (w : World) (n : Nat) (h : n * 8 ≤ 140737488355328) :
    (Instr.makeSlice 61 (.int .i64 (n : Int)) (.int .i64 (n : Int))).run Tryd.prog w = .ok (.slice (some ⟨w.heap.size, 0, none⟩) n n) (w.alloc (.cells (wordsOf n fun _ => 0).toArray 26)) := by
  obtain ⟨i0, hi, hz0, hz1, hz2⟩ := infoW
  have := run_make (P := Tryd.prog) w 61 26 i0 (.int .u64 0) Tryd.underlying61 hi hz0 .i64 .i64 n n (by omega) (by omega) (by rw [hz2]; omega) (by omega)
  rw [hz1, Int.toNat_natCast, made_words] at this
  exact this
set_option maxHeartbeats 1000000 in
set_option maxRecDepth 100000 in
theorem load_any (v : Value) (n : Nat) (f : Nat → Int) (w : World) (hv : Lst w v n f) (hn : n * 8 ≤ 140737488355328) :
    Calls Tryd.prog 28 #[v] w (NewT n f w) := by
  have hmk := run_makeWords w n hn
  have hO : Own (w.alloc (.cells (wordsOf n fun _ => 0).toArray 26)) w.heap.size n (fun _ => 0) := heap_alloc_new w _
  have hb : Below w.heap.size w (w.alloc (.cells (wordsOf n fun _ => 0).toArray 26)) := (Below.refl _ _).alloc (Nat.le_refl _) _
  have hi1 : (Tryd.prog.info? 26).map (·.size) = some 1 := by
    obtain ⟨i0, hi, _, hz1, _⟩ := infoW
    rw [hi]; simp [hz1]
  obtain ⟨A, c, rfl, hnc, hcm, hnil, hA⟩ := hv
  have hcp : ∃ k w2, (∀ ty, (Builtin.copy_ #[61, 61] ty #[.slice (some ⟨w.heap.size, 0, none⟩) n n, .slice A n c]).run Tryd.prog (w.alloc (.cells (wordsOf n fun _ => 0).toArray 26)) = .ok (goInt k) w2) ∧
      Own w2 w.heap.size n f ∧ Below w.heap.size w w2 := by
    rcases A with _ | ad
    · obtain rfl := hnil rfl
      obtain rfl : n = 0 := by omega
      exact ⟨0, _, fun ty => run_copy_nil Tryd.prog _ 61 61 ty 26 _ _ _ Tryd.underlying61 (by rw [hi1]; rfl), hO.congr fun q hq => absurd hq (by omega), hb⟩
    · refine ⟨_, _, fun ty => run_copy_row Tryd.prog _ 61 61 ty 26 w.heap.size 0 n n ad n c (wordsOf n fun _ => 0).toArray 26 (wordsOf n f) Tryd.underlying61 hi1 hO (by rw [wordsOf_length]; simp) ?_ ?_ (words_one n f), ?_, ?_⟩
      · intro j u hu
        have hj : j < n := by
          have := (List.getElem?_eq_some_iff.1 hu).1
          rwa [wordsOf_length] at this
        rw [wordsOf_get _ _ _ hj] at hu
        obtain ⟨ad', e, hc⟩ := hA j hj
        cases e
        rw [← hu, World.cell?_alloc_lt w _ _ (World.block_lt_of_cell? _ _ hc)]
        exact hc
      · rw [wordsOf_length]; simp [wordsOf_length]
      · unfold Own
        rw [setRow_heap _ _ _ _ _ _ hO]
        simp only [List.take_zero, List.nil_append, Nat.zero_add, wordsOf_length]
        rw [List.drop_eq_nil_of_le (by simp [wordsOf_length]), List.append_nil]
      · exact Below.row hb (Nat.le_refl _) _
  obtain ⟨k, w2, hcp, hO2, hb2⟩ := hcp
  have hlt := hO2.lt
  have FN := Lib.hid (show NewT n f w (.returned (.pointer (some ⟨w2.heap.size, 0, none⟩))) (w2.alloc (.cells #[.pointer none, .slice (some ⟨w.heap.size, 0, none⟩) n n, .int .i64 0, .int .i64 (n : Int)] 128)) by
    refine ⟨w2.heap.size, w.heap.size, hb2.size, Nat.le_refl _, rfl, ⟨by omega, by omega, by omega, n, ?_, hO2.alloc _⟩, hb2.alloc hb2.size _⟩
    have := Tp.new w2 none (.slice (some ⟨w.heap.size, 0, none⟩) n n) 0 (n : Int)
    rw [show (n : Int) - ((0 : Nat) : Int) = (n : Int) by omega]
    exact this)
  clear hO hb hO2 hb2 hi1 hA hnil hnc hcm hlt
  go_enter Tryd.func28, Tryd.ntmps28
  go_wp2
  go_ret
  exact FN.out
end Go.Proofs.YtamejhhjfnfalaaDoor.Co

/- The contracts of corr's draw, splitTriple, splitBits, splitOT. -/
namespace Go.Proofs.YtamejhhjfnfalaaDoor.Co
open Go.RowKit

abbrev tri (a b c : Int) : Value := .agg #[.int .u64 a, .int .u64 b, .int .u64 c]
abbrev otv (a b c d : Int) (k : Bool) : Value := .agg #[.int .u64 a, .int .u64 b, .int .u64 c, .int .u64 d, .bool k]
abbrev fiv (x : Nat → Int) : Array Value := #[.int .u64 (x 0), .int .u64 (x 1), .int .u64 (x 2), .int .u64 (x 3), .int .u64 (x 4)]
/-- Block b is just these cells, of type t, none of them fixed. -/
def Blk (w : World) (b t : Nat) (cs : Array Value) : Prop := w.heap[b]? = some (.cells cs t (0, 0))
section
variable {w w' : World} {b t : Nat} {cs : Array Value}
theorem Blk.lt (h : Blk w b t cs) : b < w.heap.size := (Array.getElem?_eq_some_iff.1 h).1
theorem Blk.cell (h : Blk w b t cs) (i : Nat) {v : Value} (hv : cs[i]? = some v) : w.cell? ⟨b, i, none⟩ = some v := by rw [cell_of_row w b i _ t (0, 0) h]; exact hv
theorem Blk.frozen (h : Blk w b t cs) (i : Nat) : w.frozen? ⟨b, i, none⟩ = false := by unfold Blk at h; simp [World.frozen?, h]
theorem Blk.set (h : Blk w b t cs) (i : Nat) (v : Value) : Blk (w.setCell ⟨b, i, none⟩ v) b t (cs.setIfInBounds i v) := by unfold Blk at h ⊢; simp [World.setCell, Array.getElem?_modify, h]
theorem Blk.far (h : Blk w b t cs) {p : Addr} (hp : b ≠ p.block) (u : Value) : Blk (w.setCell p u) b t cs := (Below.heap_setCell w p u b hp).trans h
theorem Blk.alloc (h : Blk w b t cs) (o : Obj) : Blk (w.alloc o) b t cs := (Below.heap_alloc w o b h.lt).trans h
theorem Blk.drew (h : Blk w b t cs) : Blk w.drew b t cs := h
theorem Blk.below (h : Blk w b t cs) (hb : Below w.heap.size w w') : Blk w' b t cs := (hb.block b h.lt).trans h
theorem Blk.chg {S : Nat → Prop} (h : Blk w b t cs) (hc : Chg S w w') (hs : ¬ S b) : Blk w' b t cs := (hc.block b h.lt hs).trans h
theorem Blk.new (w : World) (t : Nat) (cs : Array Value) : Blk (w.alloc (.cells cs t)) w.heap.size t cs := heap_alloc_new w _
end
/-- Block b is five words. -/
def Fv (w : World) (b : Nat) (x : Nat → Int) : Prop := w.heap[b]? = some (.cells (fiv x) 114 (0, 0))
section
variable {w w' : World} {b : Nat} {x : Nat → Int}
theorem Fv.lt (h : Fv w b x) : b < w.heap.size := (Array.getElem?_eq_some_iff.1 h).1
theorem Fv.c0 (h : Fv w b x) : w.cell? ⟨b, 0, none⟩ = some (.int .u64 (x 0)) := by rw [cell_of_row w b 0 _ 114 (0, 0) h]; rfl
theorem Fv.c1 (h : Fv w b x) : w.cell? ⟨b, 1, none⟩ = some (.int .u64 (x 1)) := by rw [cell_of_row w b 1 _ 114 (0, 0) h]; rfl
theorem Fv.c2 (h : Fv w b x) : w.cell? ⟨b, 2, none⟩ = some (.int .u64 (x 2)) := by rw [cell_of_row w b 2 _ 114 (0, 0) h]; rfl
theorem Fv.c3 (h : Fv w b x) : w.cell? ⟨b, 3, none⟩ = some (.int .u64 (x 3)) := by rw [cell_of_row w b 3 _ 114 (0, 0) h]; rfl
theorem Fv.c4 (h : Fv w b x) : w.cell? ⟨b, 4, none⟩ = some (.int .u64 (x 4)) := by rw [cell_of_row w b 4 _ 114 (0, 0) h]; rfl
theorem Fv.frozen (h : Fv w b x) (i : Nat) : w.frozen? ⟨b, i, none⟩ = false := by unfold Fv at h; simp [World.frozen?, h]
theorem Fv.keep {k : Nat} (h : Fv w b x) (hk : Keep k w w') (hg : b ≠ k) : Fv w' b x := (hk.block b h.lt hg).trans h
theorem Fv.cell (h : Fv w b x) (k : Nat) (hk : k < 5) : w.cell? ⟨b, k, none⟩ = some (.int .u64 (x k)) := by
  rcases (show k = 0 ∨ k = 1 ∨ k = 2 ∨ k = 3 ∨ k = 4 by omega) with rfl | rfl | rfl | rfl | rfl
  · exact h.c0
  · exact h.c1
  · exact h.c2
  · exact h.c3
  · exact h.c4
theorem Fv.set (h : Fv w b x) (k : Nat) (hk : k < 5) (y : Int) : Fv (w.setCell ⟨b, k, none⟩ (.int .u64 y)) b (fun q => if q = k then y else x q) := by
  unfold Fv at h ⊢
  rcases (show k = 0 ∨ k = 1 ∨ k = 2 ∨ k = 3 ∨ k = 4 by omega) with rfl | rfl | rfl | rfl | rfl <;> simp [World.setCell, Array.getElem?_modify, h, fiv]
theorem Fv.congr {y : Nat → Int} (h : Fv w b x) (hx : ∀ q, q < 5 → x q = y q) : Fv w b y := by
  unfold Fv fiv at h ⊢
  rw [h, hx 0 (by omega), hx 1 (by omega), hx 2 (by omega), hx 3 (by omega), hx 4 (by omega)]
end
theorem Keep.alloc {g : Nat} {w w' : World} (h : Keep g w w') (o : Obj) : Keep g w (w'.alloc o) :=
  h.trans (Keep.of_below ((Below.refl w'.heap.size w').alloc (Nat.le_refl _) o) (Nat.le_refl _))
theorem Keep.fresh {g : Nat} {w w' : World} (h : Keep g w w') {p : Addr} (hp : w.heap.size ≤ p.block) (v : Value) : Keep g w (w'.setCell p v) :=
  ⟨h.os, h.tape, h.output, by have := h.size; simpa [World.setCell] using this, fun k hk hg => (Below.heap_setCell w' p v k (by omega)).trans (h.block k hk hg)⟩
theorem Tap.keep {w w' : World} {g h k N u : Nat} {f : Nat → Int} (ht : Tap w g h N f u) (hk : Keep k w w') (h1 : g ≠ k) (h2 : h ≠ k) : Tap w' g h N f u := ht.heap (hk.block _ ht.lt h1) (hk.block _ ht.src_lt h2)

set_option maxHeartbeats 2000000 in
set_option maxRecDepth 100000 in
theorem draw_any (w : World) (g h N : Nat) (f : Nat → Int) (u : Nat) (ht : Tap w g h N f u) (hu : u + 5 ≤ N) :
    Calls Tryd.prog 56 #[.pointer (some ⟨g, 0, none⟩)] w fun e w' => e = .returned (.agg (fiv fun q => f (u + q))) ∧ Tap w' g h N f (u + 5) ∧ Keep g w w' := by
  have hlg := ht.lt
  have hlh := ht.src_lt
  have hb0 : Below w.heap.size w ((w.alloc (.cells (fiv fun _ => 0) 114)).alloc (.cells (fiv fun _ => 0) 114)) := ((Below.refl _ w).alloc (Nat.le_refl _) _).alloc (by simp) _
  have ha : Fv (w.alloc (.cells (fiv fun _ => 0) 114)) w.heap.size (fun _ => 0) := heap_alloc_new w _
  have ha1 : Fv ((w.alloc (.cells (fiv fun _ => 0) 114)).alloc (.cells (fiv fun _ => 0) 114)) w.heap.size (fun _ => 0) := (Below.heap_alloc _ _ _ ha.lt).trans ha
  have hb : Fv ((w.alloc (.cells (fiv fun _ => 0) 114)).alloc (.cells (fiv fun _ => 0) 114)) (w.heap.size + 1) (fun _ => 0) := by
    have := heap_alloc_new (w.alloc (.cells (fiv fun _ => 0) 114)) (.cells (fiv fun _ => 0) 114)
    rwa [World.size_alloc] at this
  have H0 := Lib.hid (And.intro (ht.below hb0) (And.intro ha1 (And.intro hb (And.intro (Keep.of_below (g := g) hb0 (Nat.le_refl _)) hu))))
  clear ht hu ha hb ha1 hb0
  go_enter Tryd.func56, Tryd.ntmps56
  go_wp2
  go_loopw [5] (fun i wr => ∃ k : Nat, k ≤ 5 ∧ i = .int .i64 k ∧ Hid (Tap wr g h N f (u + k) ∧ Fv wr w.heap.size (fun _ => 0) ∧ Fv wr (w.heap.size + 1) (fun q => if q < k then f (u + q) else 0) ∧ Keep g w wr)) (fun i _ => 5 - (intOf i).toNat)
  case atStart => exact ⟨0, by omega, rfl, H0.out.1, H0.out.2.1, H0.out.2.2.1.congr fun q _ => by simp, H0.out.2.2.2.1⟩
  case round =>
    obtain ⟨k, hk, rfl, HI⟩ := hrel
    have hu := H0.out.2.2.2.2
    by_cases hlt : k < 5
    · have e1 : IntKind.i64.wrap ((k : Int) + 1) = (k : Int) + 1 := i64_nat _ (by omega) (by omega)
      go_wp2_with fail
      refine (next_some _ g h N f (u + k) HI.out.1 (by omega)).mono ?_
      rintro e w1 ⟨rfl, h1, h2⟩
      have hb1 := HI.out.2.2.1.keep h2 (by omega)
      have ha1 := HI.out.2.1.keep h2 (by omega)
      have ck := hb1.cell k hlt
      have fk := hb1.frozen k
      have H1 := Lib.hid (And.intro h1 (And.intro ha1 (And.intro (hb1.set k hlt (f (u + k))) (HI.out.2.2.2.trans h2))))
      have hs1 := h2.size
      have hs2 := HI.out.2.2.2.size
      clear h1 h2 hb1 ha1 HI
      go_wp2
      go_roundw
      case rel =>
        refine ⟨k + 1, by omega, by go_num, H1.out.1.keep ((Keep.refl (w.heap.size + 1) w1).set (p := ⟨w.heap.size + 1, k, none⟩) rfl _) (by omega) (by omega), (Below.heap_setCell _ _ _ _ (by show w.heap.size ≠ w.heap.size + 1; omega)).trans H1.out.2.1, H1.out.2.2.1.congr fun q hq => ?_, Keep.fresh H1.out.2.2.2 (by show _ ≤ w.heap.size + 1; omega) _⟩
        by_cases e : q = k
        · subst e; rw [if_pos rfl, if_pos (by omega)]
        · rw [if_neg e]
          by_cases e2 : q < k
          · rw [if_pos e2, if_pos (by omega)]
          · rw [if_neg e2, if_neg (by omega)]
      case measure => simp [intOf]; omega
    · obtain rfl : k = 5 := by omega
      have hf := HI.out.2.2.1.congr (y := fun q => f (u + q)) (fun q hq => by rw [if_pos hq])
      have c0 := hf.c0
      have c1 := hf.c1
      have c2 := hf.c2
      have c3 := hf.c3
      have c4 := hf.c4
      have hr := HI.out.2.1
      have z0 := hr.frozen 0
      have z1 := hr.frozen 1
      have z2 := hr.frozen 2
      have z3 := hr.frozen 3
      have z4 := hr.frozen 4
      have r0 := hr.c0
      have r1 := hr.c1
      have r2 := hr.c2
      have r3 := hr.c3
      have r4 := hr.c4
      have HF := Lib.hid hr
      clear hf hr
      go_wp2
      have hs := ((((((HF.out.set 0 (by omega) (f u)).set 1 (by omega) (f (u + 1))).set 2 (by omega) (f (u + 2))).set 3 (by omega) (f (u + 3))).set 4 (by omega) (f (u + 4)))).congr (y := fun q => f (u + q)) (fun q hq => by
        rcases (show q = 0 ∨ q = 1 ∨ q = 2 ∨ q = 3 ∨ q = 4 by omega) with rfl | rfl | rfl | rfl | rfl <;> simp)
      have s0 := hs.c0
      have s1 := hs.c1
      have s2 := hs.c2
      have s3 := hs.c3
      have s4 := hs.c4
      simp only [Nat.add_zero] at s0
      have hK : Keep w.heap.size wr (((((wr.setCell ⟨w.heap.size, 0, none⟩ (.int .u64 (f u))).setCell ⟨w.heap.size, 1, none⟩ (.int .u64 (f (u + 1)))).setCell ⟨w.heap.size, 2, none⟩ (.int .u64 (f (u + 2)))).setCell ⟨w.heap.size, 3, none⟩ (.int .u64 (f (u + 3)))).setCell ⟨w.heap.size, 4, none⟩ (.int .u64 (f (u + 4)))) :=
        (((((Keep.refl w.heap.size wr).set (p := ⟨w.heap.size, 0, none⟩) rfl _).set (p := ⟨w.heap.size, 1, none⟩) rfl _).set (p := ⟨w.heap.size, 2, none⟩) rfl _).set (p := ⟨w.heap.size, 3, none⟩) rfl _).set (p := ⟨w.heap.size, 4, none⟩) rfl _
      refine bodyPost_ret (v := .agg (fiv fun q => f (u + q))) (by simp [results, Tryd.results56, go_sem, s0, s1, s2, s3, s4, fiv]) rfl ⟨rfl, HI.out.1.keep hK (by omega) (by omega), ?_⟩
      exact Keep.fresh (Keep.fresh (Keep.fresh (Keep.fresh (Keep.fresh HI.out.2.2.2 (Nat.le_refl _) _) (Nat.le_refl _) _) (Nat.le_refl _) _) (Nat.le_refl _) _) (Nat.le_refl _) _
set_option maxHeartbeats 4000000 in
set_option maxRecDepth 100000 in
theorem splitT_any (w : World) (x : Nat → Int) :
    Calls Tryd.prog 55 #[.agg (fiv x)] w fun e w' => e = .returned (.tuple #[tri (x 0) (x 2) (x 4), tri (x 1) (x 3) (IntKind.u64.wrap (IntKind.u64.wrap (IntKind.u64.wrap (x 0 + x 1) * IntKind.u64.wrap (x 2 + x 3)) - x 4))]) ∧ Below w.heap.size w w' := by
  go_enter Tryd.func55, Tryd.ntmps55
  go_wp2
  have hF : Blk (((w.alloc (.cells (fiv x) 114)).alloc (.cells #[.int .u64 0, .int .u64 0, .int .u64 0] 111)).alloc (.cells #[.int .u64 0, .int .u64 0, .int .u64 0] 111)) w.heap.size 114 (fiv x) := ((Blk.new w _ _).alloc _).alloc _
  have hA : Blk (((w.alloc (.cells (fiv x) 114)).alloc (.cells #[.int .u64 0, .int .u64 0, .int .u64 0] 111)).alloc (.cells #[.int .u64 0, .int .u64 0, .int .u64 0] 111)) (w.heap.size + 1) 111 #[.int .u64 0, .int .u64 0, .int .u64 0] := by
    have := (Blk.new (w.alloc (.cells (fiv x) 114)) 111 #[.int .u64 0, .int .u64 0, .int .u64 0]).alloc (.cells #[.int .u64 0, .int .u64 0, .int .u64 0] 111)
    rwa [World.size_alloc] at this
  have hB : Blk (((w.alloc (.cells (fiv x) 114)).alloc (.cells #[.int .u64 0, .int .u64 0, .int .u64 0] 111)).alloc (.cells #[.int .u64 0, .int .u64 0, .int .u64 0] 111)) (w.heap.size + 1 + 1) 111 #[.int .u64 0, .int .u64 0, .int .u64 0] := by
    have := Blk.new ((w.alloc (.cells (fiv x) 114)).alloc (.cells #[.int .u64 0, .int .u64 0, .int .u64 0] 111)) 111 #[.int .u64 0, .int .u64 0, .int .u64 0]
    rwa [World.size_alloc, World.size_alloc] at this
  have hb : Below w.heap.size w (((w.alloc (.cells (fiv x) 114)).alloc (.cells #[.int .u64 0, .int .u64 0, .int .u64 0] 111)).alloc (.cells #[.int .u64 0, .int .u64 0, .int .u64 0] 111)) := (((Below.refl _ w).alloc (Nat.le_refl _) _).alloc (by simp) _).alloc (by simp; omega) _
  have HD := Lib.hid (And.intro hF.drew (And.intro hA.drew (And.intro hB.drew hb.drew)))
  clear hF hA hB hb
  generalize (((w.alloc (.cells (fiv x) 114)).alloc (.cells #[.int .u64 0, .int .u64 0, .int .u64 0] 111)).alloc (.cells #[.int .u64 0, .int .u64 0, .int .u64 0] 111)) = w0 at *
  refine region_z 17 (fun w' => w'.cell? ⟨w.heap.size, 0, none⟩ = some (.int .u64 (x 0)) ∧ w'.cell? ⟨w.heap.size, 1, none⟩ = some (.int .u64 (x 1)) ∧ w'.cell? ⟨w.heap.size, 2, none⟩ = some (.int .u64 (x 2)) ∧ w'.cell? ⟨w.heap.size, 3, none⟩ = some (.int .u64 (x 3)) ∧ w'.cell? ⟨w.heap.size, 4, none⟩ = some (.int .u64 (x 4))) (by kernel_rfl) ?_
  generalize w0.drew = w1 at *
  have hS : (fun w' => w'.cell? ⟨w.heap.size, 0, none⟩ = some (.int .u64 (x 0)) ∧ w'.cell? ⟨w.heap.size, 1, none⟩ = some (.int .u64 (x 1)) ∧ w'.cell? ⟨w.heap.size, 2, none⟩ = some (.int .u64 (x 2)) ∧ w'.cell? ⟨w.heap.size, 3, none⟩ = some (.int .u64 (x 3)) ∧ w'.cell? ⟨w.heap.size, 4, none⟩ = some (.int .u64 (x 4))) w1 := ⟨HD.out.1.cell 0 rfl, HD.out.1.cell 1 rfl, HD.out.1.cell 2 rfl, HD.out.1.cell 3 rfl, HD.out.1.cell 4 rfl⟩
  refine zt [17] (i := 0) rfl (.pointer (some ⟨w.heap.size, 0, none⟩)) (by kernel_rfl) (by kernel_rfl) (by kernel_rfl) (by kernel_rfl) (fun _ _ _ h => h) hS (fun w' d1 => by obtain ⟨d1, d2, d3, d4, d5⟩ := d1; go_simp) ?_
  try simp only [Act.put, List.setIfInBounds_toArray, List.set_cons_zero, List.set_cons_succ]
  refine zt [17] (i := 1) rfl (.int .u64 (x 0)) (by kernel_rfl) (by kernel_rfl) (by kernel_rfl) (by kernel_rfl) (fun _ _ _ h => h) hS (fun w' d1 => by obtain ⟨d1, d2, d3, d4, d5⟩ := d1; go_simp) ?_
  try simp only [Act.put, List.setIfInBounds_toArray, List.set_cons_zero, List.set_cons_succ]
  refine zt [17] (i := 2) rfl (.pointer (some ⟨w.heap.size, 2, none⟩)) (by kernel_rfl) (by kernel_rfl) (by kernel_rfl) (by kernel_rfl) (fun _ _ _ h => h) hS (fun w' d1 => by obtain ⟨d1, d2, d3, d4, d5⟩ := d1; go_simp) ?_
  try simp only [Act.put, List.setIfInBounds_toArray, List.set_cons_zero, List.set_cons_succ]
  refine zt [17] (i := 3) rfl (.int .u64 (x 2)) (by kernel_rfl) (by kernel_rfl) (by kernel_rfl) (by kernel_rfl) (fun _ _ _ h => h) hS (fun w' d1 => by obtain ⟨d1, d2, d3, d4, d5⟩ := d1; go_simp) ?_
  try simp only [Act.put, List.setIfInBounds_toArray, List.set_cons_zero, List.set_cons_succ]
  refine zt [17] (i := 4) rfl (.pointer (some ⟨w.heap.size, 4, none⟩)) (by kernel_rfl) (by kernel_rfl) (by kernel_rfl) (by kernel_rfl) (fun _ _ _ h => h) hS (fun w' d1 => by obtain ⟨d1, d2, d3, d4, d5⟩ := d1; go_simp) ?_
  try simp only [Act.put, List.setIfInBounds_toArray, List.set_cons_zero, List.set_cons_succ]
  refine zt [17] (i := 5) rfl (.int .u64 (x 4)) (by kernel_rfl) (by kernel_rfl) (by kernel_rfl) (by kernel_rfl) (fun _ _ _ h => h) hS (fun w' d1 => by obtain ⟨d1, d2, d3, d4, d5⟩ := d1; go_simp) ?_
  try simp only [Act.put, List.setIfInBounds_toArray, List.set_cons_zero, List.set_cons_succ]
  refine zt [17] (i := 6) rfl (tri (x 0) (x 2) (x 4)) (by kernel_rfl) (by kernel_rfl) (by kernel_rfl) (by kernel_rfl) (fun _ _ _ h => h) hS (fun w' d1 => by obtain ⟨d1, d2, d3, d4, d5⟩ := d1; go_simp) ?_
  try simp only [Act.put, List.setIfInBounds_toArray, List.set_cons_zero, List.set_cons_succ]
  refine zt [17] (i := 7) rfl (.pointer (some ⟨w.heap.size, 1, none⟩)) (by kernel_rfl) (by kernel_rfl) (by kernel_rfl) (by kernel_rfl) (fun _ _ _ h => h) hS (fun w' d1 => by obtain ⟨d1, d2, d3, d4, d5⟩ := d1; go_simp) ?_
  try simp only [Act.put, List.setIfInBounds_toArray, List.set_cons_zero, List.set_cons_succ]
  refine zt [17] (i := 8) rfl (.int .u64 (x 1)) (by kernel_rfl) (by kernel_rfl) (by kernel_rfl) (by kernel_rfl) (fun _ _ _ h => h) hS (fun w' d1 => by obtain ⟨d1, d2, d3, d4, d5⟩ := d1; go_simp) ?_
  try simp only [Act.put, List.setIfInBounds_toArray, List.set_cons_zero, List.set_cons_succ]
  refine zt [17] (i := 9) rfl (.pointer (some ⟨w.heap.size, 3, none⟩)) (by kernel_rfl) (by kernel_rfl) (by kernel_rfl) (by kernel_rfl) (fun _ _ _ h => h) hS (fun w' d1 => by obtain ⟨d1, d2, d3, d4, d5⟩ := d1; go_simp) ?_
  try simp only [Act.put, List.setIfInBounds_toArray, List.set_cons_zero, List.set_cons_succ]
  refine zt [17] (i := 10) rfl (.int .u64 (x 3)) (by kernel_rfl) (by kernel_rfl) (by kernel_rfl) (by kernel_rfl) (fun _ _ _ h => h) hS (fun w' d1 => by obtain ⟨d1, d2, d3, d4, d5⟩ := d1; go_simp) ?_
  try simp only [Act.put, List.setIfInBounds_toArray, List.set_cons_zero, List.set_cons_succ]
  refine zt [17] (i := 11) rfl (.int .u64 (IntKind.u64.wrap (IntKind.u64.wrap (x 0 + x 1) * IntKind.u64.wrap (x 2 + x 3)))) (by kernel_rfl) (by kernel_rfl) (by kernel_rfl) (by kernel_rfl) (fun _ _ _ h => h) hS (fun w' d1 => by obtain ⟨d1, d2, d3, d4, d5⟩ := d1; go_simp) ?_
  try simp only [Act.put, List.setIfInBounds_toArray, List.set_cons_zero, List.set_cons_succ]
  refine zt [17] (i := 12) rfl (.pointer (some ⟨w.heap.size, 4, none⟩)) (by kernel_rfl) (by kernel_rfl) (by kernel_rfl) (by kernel_rfl) (fun _ _ _ h => h) hS (fun w' d1 => by obtain ⟨d1, d2, d3, d4, d5⟩ := d1; go_simp) ?_
  try simp only [Act.put, List.setIfInBounds_toArray, List.set_cons_zero, List.set_cons_succ]
  refine zt [17] (i := 13) rfl (.int .u64 (x 4)) (by kernel_rfl) (by kernel_rfl) (by kernel_rfl) (by kernel_rfl) (fun _ _ _ h => h) hS (fun w' d1 => by obtain ⟨d1, d2, d3, d4, d5⟩ := d1; go_simp) ?_
  try simp only [Act.put, List.setIfInBounds_toArray, List.set_cons_zero, List.set_cons_succ]
  refine zt [17] (i := 14) rfl (.int .u64 (IntKind.u64.wrap (IntKind.u64.wrap (IntKind.u64.wrap (x 0 + x 1) * IntKind.u64.wrap (x 2 + x 3)) - x 4))) (by kernel_rfl) (by kernel_rfl) (by kernel_rfl) (by kernel_rfl) (fun _ _ _ h => h) hS (fun w' d1 => by obtain ⟨d1, d2, d3, d4, d5⟩ := d1; go_simp) ?_
  try simp only [Act.put, List.setIfInBounds_toArray, List.set_cons_zero, List.set_cons_succ]
  refine zt [17] (i := 15) rfl (tri (x 1) (x 3) (IntKind.u64.wrap (IntKind.u64.wrap (IntKind.u64.wrap (x 0 + x 1) * IntKind.u64.wrap (x 2 + x 3)) - x 4))) (by kernel_rfl) (by kernel_rfl) (by kernel_rfl) (by kernel_rfl) (fun _ _ _ h => h) hS (fun w' d1 => by obtain ⟨d1, d2, d3, d4, d5⟩ := d1; go_simp) ?_
  try simp only [Act.put, List.setIfInBounds_toArray, List.set_cons_zero, List.set_cons_succ]
  have a0 := HD.out.2.1.cell 0 rfl
  have a1 := HD.out.2.1.cell 1 rfl
  have a2 := HD.out.2.1.cell 2 rfl
  have za := HD.out.2.1.frozen
  refine z1 (i := 16) (by kernel_rfl) rfl (fun K hK => ?_)
  go_simp
  have H2 := Lib.hid (And.intro (((HD.out.1.far (p := ⟨w.heap.size + 1, 0, none⟩) (by show w.heap.size ≠ w.heap.size + 1; omega) (.int .u64 (x 0))).far (p := ⟨w.heap.size + 1, 1, none⟩) (by show w.heap.size ≠ w.heap.size + 1; omega) (.int .u64 (x 2))).far (p := ⟨w.heap.size + 1, 2, none⟩) (by show w.heap.size ≠ w.heap.size + 1; omega) (.int .u64 (x 4))) (And.intro (((HD.out.2.1.set 0 (.int .u64 (x 0))).set 1 (.int .u64 (x 2))).set 2 (.int .u64 (x 4))) (And.intro (((HD.out.2.2.1.far (p := ⟨w.heap.size + 1, 0, none⟩) (by show w.heap.size + 1 + 1 ≠ w.heap.size + 1; omega) (.int .u64 (x 0))).far (p := ⟨w.heap.size + 1, 1, none⟩) (by show w.heap.size + 1 + 1 ≠ w.heap.size + 1; omega) (.int .u64 (x 2))).far (p := ⟨w.heap.size + 1, 2, none⟩) (by show w.heap.size + 1 + 1 ≠ w.heap.size + 1; omega) (.int .u64 (x 4))) (((HD.out.2.2.2.setCell (p := ⟨w.heap.size + 1, 0, none⟩) (by show w.heap.size ≤ w.heap.size + 1; omega) (.int .u64 (x 0))).setCell (p := ⟨w.heap.size + 1, 1, none⟩) (by show w.heap.size ≤ w.heap.size + 1; omega) (.int .u64 (x 2))).setCell (p := ⟨w.heap.size + 1, 2, none⟩) (by show w.heap.size ≤ w.heap.size + 1; omega) (.int .u64 (x 4))))))
  clear a0 a1 a2 za HD hS
  generalize (((w1.setCell ⟨w.heap.size + 1, 0, none⟩ (.int .u64 (x 0))).setCell ⟨w.heap.size + 1, 1, none⟩ (.int .u64 (x 2))).setCell ⟨w.heap.size + 1, 2, none⟩ (.int .u64 (x 4))) = w2 at *
  have hS : (fun w' => w'.cell? ⟨w.heap.size, 0, none⟩ = some (.int .u64 (x 0)) ∧ w'.cell? ⟨w.heap.size, 1, none⟩ = some (.int .u64 (x 1)) ∧ w'.cell? ⟨w.heap.size, 2, none⟩ = some (.int .u64 (x 2)) ∧ w'.cell? ⟨w.heap.size, 3, none⟩ = some (.int .u64 (x 3)) ∧ w'.cell? ⟨w.heap.size, 4, none⟩ = some (.int .u64 (x 4))) w2 := ⟨H2.out.1.cell 0 rfl, H2.out.1.cell 1 rfl, H2.out.1.cell 2 rfl, H2.out.1.cell 3 rfl, H2.out.1.cell 4 rfl⟩
  refine hK.out _ _ (.inr hS) ?_
  clear hK K
  try simp only [Act.put, List.setIfInBounds_toArray, List.set_cons_zero, List.set_cons_succ]
  have b0 := H2.out.2.2.1.cell 0 rfl
  have b1 := H2.out.2.2.1.cell 1 rfl
  have b2 := H2.out.2.2.1.cell 2 rfl
  have zb := H2.out.2.2.1.frozen
  refine z1 (i := 17) (by kernel_rfl) rfl (fun K hK => ?_)
  go_simp
  refine hK.out _ _ (.inl rfl) ?_
  clear hK K
  refine wpAnyZ_done (by kernel_rfl) ?_ _
  go_wp2
  have hA3 := (((H2.out.2.1.far (p := ⟨w.heap.size + 1 + 1, 0, none⟩) (by show w.heap.size + 1 ≠ w.heap.size + 1 + 1; omega) (.int .u64 (x 1))).far (p := ⟨w.heap.size + 1 + 1, 1, none⟩) (by show w.heap.size + 1 ≠ w.heap.size + 1 + 1; omega) (.int .u64 (x 3))).far (p := ⟨w.heap.size + 1 + 1, 2, none⟩) (by show w.heap.size + 1 ≠ w.heap.size + 1 + 1; omega) (.int .u64 (IntKind.u64.wrap (IntKind.u64.wrap (IntKind.u64.wrap (x 0 + x 1) * IntKind.u64.wrap (x 2 + x 3)) - x 4))))
  have hB3 := (((H2.out.2.2.1.set 0 (.int .u64 (x 1))).set 1 (.int .u64 (x 3))).set 2 (.int .u64 (IntKind.u64.wrap (IntKind.u64.wrap (IntKind.u64.wrap (x 0 + x 1) * IntKind.u64.wrap (x 2 + x 3)) - x 4))))
  have p0 := hA3.cell 0 rfl
  have q0 := hB3.cell 0 rfl
  have p1 := hA3.cell 1 rfl
  have q1 := hB3.cell 1 rfl
  have p2 := hA3.cell 2 rfl
  have q2 := hB3.cell 2 rfl
  exact bodyPost_ret (v := .tuple #[tri (x 0) (x 2) (x 4), tri (x 1) (x 3) (IntKind.u64.wrap (IntKind.u64.wrap (IntKind.u64.wrap (x 0 + x 1) * IntKind.u64.wrap (x 2 + x 3)) - x 4))]) (by simp [results, Tryd.results55, go_sem, p0, q0, p1, q1, p2, q2]) rfl
    ⟨rfl, (((H2.out.2.2.2.setCell (p := ⟨w.heap.size + 1 + 1, 0, none⟩) (by show w.heap.size ≤ w.heap.size + 1 + 1; omega) (.int .u64 (x 1))).setCell (p := ⟨w.heap.size + 1 + 1, 1, none⟩) (by show w.heap.size ≤ w.heap.size + 1 + 1; omega) (.int .u64 (x 3))).setCell (p := ⟨w.heap.size + 1 + 1, 2, none⟩) (by show w.heap.size ≤ w.heap.size + 1 + 1; omega) (.int .u64 (IntKind.u64.wrap (IntKind.u64.wrap (IntKind.u64.wrap (x 0 + x 1) * IntKind.u64.wrap (x 2 + x 3)) - x 4))))⟩
set_option maxHeartbeats 4000000 in
set_option maxRecDepth 100000 in
theorem splitB_any (w : World) (x : Nat → Int) :
    Calls Tryd.prog 58 #[.agg (fiv x)] w fun e w' => e = .returned (.tuple #[tri (x 0) (x 2) (x 4), tri (x 1) (x 3) (bits .xor .u64 (bits .and .u64 (bits .xor .u64 (x 0) (x 1)) (bits .xor .u64 (x 2) (x 3))) (x 4))]) ∧ Below w.heap.size w w' := by
  go_enter Tryd.func58, Tryd.ntmps58
  go_wp2
  have hF : Blk (((w.alloc (.cells (fiv x) 114)).alloc (.cells #[.int .u64 0, .int .u64 0, .int .u64 0] 111)).alloc (.cells #[.int .u64 0, .int .u64 0, .int .u64 0] 111)) w.heap.size 114 (fiv x) := ((Blk.new w _ _).alloc _).alloc _
  have hA : Blk (((w.alloc (.cells (fiv x) 114)).alloc (.cells #[.int .u64 0, .int .u64 0, .int .u64 0] 111)).alloc (.cells #[.int .u64 0, .int .u64 0, .int .u64 0] 111)) (w.heap.size + 1) 111 #[.int .u64 0, .int .u64 0, .int .u64 0] := by
    have := (Blk.new (w.alloc (.cells (fiv x) 114)) 111 #[.int .u64 0, .int .u64 0, .int .u64 0]).alloc (.cells #[.int .u64 0, .int .u64 0, .int .u64 0] 111)
    rwa [World.size_alloc] at this
  have hB : Blk (((w.alloc (.cells (fiv x) 114)).alloc (.cells #[.int .u64 0, .int .u64 0, .int .u64 0] 111)).alloc (.cells #[.int .u64 0, .int .u64 0, .int .u64 0] 111)) (w.heap.size + 1 + 1) 111 #[.int .u64 0, .int .u64 0, .int .u64 0] := by
    have := Blk.new ((w.alloc (.cells (fiv x) 114)).alloc (.cells #[.int .u64 0, .int .u64 0, .int .u64 0] 111)) 111 #[.int .u64 0, .int .u64 0, .int .u64 0]
    rwa [World.size_alloc, World.size_alloc] at this
  have hb : Below w.heap.size w (((w.alloc (.cells (fiv x) 114)).alloc (.cells #[.int .u64 0, .int .u64 0, .int .u64 0] 111)).alloc (.cells #[.int .u64 0, .int .u64 0, .int .u64 0] 111)) := (((Below.refl _ w).alloc (Nat.le_refl _) _).alloc (by simp) _).alloc (by simp; omega) _
  have HD := Lib.hid (And.intro hF.drew (And.intro hA.drew (And.intro hB.drew hb.drew)))
  clear hF hA hB hb
  generalize (((w.alloc (.cells (fiv x) 114)).alloc (.cells #[.int .u64 0, .int .u64 0, .int .u64 0] 111)).alloc (.cells #[.int .u64 0, .int .u64 0, .int .u64 0] 111)) = w0 at *
  refine region_z 17 (fun w' => w'.cell? ⟨w.heap.size, 0, none⟩ = some (.int .u64 (x 0)) ∧ w'.cell? ⟨w.heap.size, 1, none⟩ = some (.int .u64 (x 1)) ∧ w'.cell? ⟨w.heap.size, 2, none⟩ = some (.int .u64 (x 2)) ∧ w'.cell? ⟨w.heap.size, 3, none⟩ = some (.int .u64 (x 3)) ∧ w'.cell? ⟨w.heap.size, 4, none⟩ = some (.int .u64 (x 4))) (by kernel_rfl) ?_
  generalize w0.drew = w1 at *
  have hS : (fun w' => w'.cell? ⟨w.heap.size, 0, none⟩ = some (.int .u64 (x 0)) ∧ w'.cell? ⟨w.heap.size, 1, none⟩ = some (.int .u64 (x 1)) ∧ w'.cell? ⟨w.heap.size, 2, none⟩ = some (.int .u64 (x 2)) ∧ w'.cell? ⟨w.heap.size, 3, none⟩ = some (.int .u64 (x 3)) ∧ w'.cell? ⟨w.heap.size, 4, none⟩ = some (.int .u64 (x 4))) w1 := ⟨HD.out.1.cell 0 rfl, HD.out.1.cell 1 rfl, HD.out.1.cell 2 rfl, HD.out.1.cell 3 rfl, HD.out.1.cell 4 rfl⟩
  refine zt [17] (i := 0) rfl (.pointer (some ⟨w.heap.size, 0, none⟩)) (by kernel_rfl) (by kernel_rfl) (by kernel_rfl) (by kernel_rfl) (fun _ _ _ h => h) hS (fun w' d1 => by obtain ⟨d1, d2, d3, d4, d5⟩ := d1; go_simp) ?_
  try simp only [Act.put, List.setIfInBounds_toArray, List.set_cons_zero, List.set_cons_succ]
  refine zt [17] (i := 1) rfl (.int .u64 (x 0)) (by kernel_rfl) (by kernel_rfl) (by kernel_rfl) (by kernel_rfl) (fun _ _ _ h => h) hS (fun w' d1 => by obtain ⟨d1, d2, d3, d4, d5⟩ := d1; go_simp) ?_
  try simp only [Act.put, List.setIfInBounds_toArray, List.set_cons_zero, List.set_cons_succ]
  refine zt [17] (i := 2) rfl (.pointer (some ⟨w.heap.size, 2, none⟩)) (by kernel_rfl) (by kernel_rfl) (by kernel_rfl) (by kernel_rfl) (fun _ _ _ h => h) hS (fun w' d1 => by obtain ⟨d1, d2, d3, d4, d5⟩ := d1; go_simp) ?_
  try simp only [Act.put, List.setIfInBounds_toArray, List.set_cons_zero, List.set_cons_succ]
  refine zt [17] (i := 3) rfl (.int .u64 (x 2)) (by kernel_rfl) (by kernel_rfl) (by kernel_rfl) (by kernel_rfl) (fun _ _ _ h => h) hS (fun w' d1 => by obtain ⟨d1, d2, d3, d4, d5⟩ := d1; go_simp) ?_
  try simp only [Act.put, List.setIfInBounds_toArray, List.set_cons_zero, List.set_cons_succ]
  refine zt [17] (i := 4) rfl (.pointer (some ⟨w.heap.size, 4, none⟩)) (by kernel_rfl) (by kernel_rfl) (by kernel_rfl) (by kernel_rfl) (fun _ _ _ h => h) hS (fun w' d1 => by obtain ⟨d1, d2, d3, d4, d5⟩ := d1; go_simp) ?_
  try simp only [Act.put, List.setIfInBounds_toArray, List.set_cons_zero, List.set_cons_succ]
  refine zt [17] (i := 5) rfl (.int .u64 (x 4)) (by kernel_rfl) (by kernel_rfl) (by kernel_rfl) (by kernel_rfl) (fun _ _ _ h => h) hS (fun w' d1 => by obtain ⟨d1, d2, d3, d4, d5⟩ := d1; go_simp) ?_
  try simp only [Act.put, List.setIfInBounds_toArray, List.set_cons_zero, List.set_cons_succ]
  refine zt [17] (i := 6) rfl (tri (x 0) (x 2) (x 4)) (by kernel_rfl) (by kernel_rfl) (by kernel_rfl) (by kernel_rfl) (fun _ _ _ h => h) hS (fun w' d1 => by obtain ⟨d1, d2, d3, d4, d5⟩ := d1; go_simp) ?_
  try simp only [Act.put, List.setIfInBounds_toArray, List.set_cons_zero, List.set_cons_succ]
  refine zt [17] (i := 7) rfl (.pointer (some ⟨w.heap.size, 1, none⟩)) (by kernel_rfl) (by kernel_rfl) (by kernel_rfl) (by kernel_rfl) (fun _ _ _ h => h) hS (fun w' d1 => by obtain ⟨d1, d2, d3, d4, d5⟩ := d1; go_simp) ?_
  try simp only [Act.put, List.setIfInBounds_toArray, List.set_cons_zero, List.set_cons_succ]
  refine zt [17] (i := 8) rfl (.int .u64 (x 1)) (by kernel_rfl) (by kernel_rfl) (by kernel_rfl) (by kernel_rfl) (fun _ _ _ h => h) hS (fun w' d1 => by obtain ⟨d1, d2, d3, d4, d5⟩ := d1; go_simp) ?_
  try simp only [Act.put, List.setIfInBounds_toArray, List.set_cons_zero, List.set_cons_succ]
  refine zt [17] (i := 9) rfl (.pointer (some ⟨w.heap.size, 3, none⟩)) (by kernel_rfl) (by kernel_rfl) (by kernel_rfl) (by kernel_rfl) (fun _ _ _ h => h) hS (fun w' d1 => by obtain ⟨d1, d2, d3, d4, d5⟩ := d1; go_simp) ?_
  try simp only [Act.put, List.setIfInBounds_toArray, List.set_cons_zero, List.set_cons_succ]
  refine zt [17] (i := 10) rfl (.int .u64 (x 3)) (by kernel_rfl) (by kernel_rfl) (by kernel_rfl) (by kernel_rfl) (fun _ _ _ h => h) hS (fun w' d1 => by obtain ⟨d1, d2, d3, d4, d5⟩ := d1; go_simp) ?_
  try simp only [Act.put, List.setIfInBounds_toArray, List.set_cons_zero, List.set_cons_succ]
  refine zt [17] (i := 11) rfl (.int .u64 (bits .and .u64 (bits .xor .u64 (x 0) (x 1)) (bits .xor .u64 (x 2) (x 3)))) (by kernel_rfl) (by kernel_rfl) (by kernel_rfl) (by kernel_rfl) (fun _ _ _ h => h) hS (fun w' d1 => by obtain ⟨d1, d2, d3, d4, d5⟩ := d1; go_simp) ?_
  try simp only [Act.put, List.setIfInBounds_toArray, List.set_cons_zero, List.set_cons_succ]
  refine zt [17] (i := 12) rfl (.pointer (some ⟨w.heap.size, 4, none⟩)) (by kernel_rfl) (by kernel_rfl) (by kernel_rfl) (by kernel_rfl) (fun _ _ _ h => h) hS (fun w' d1 => by obtain ⟨d1, d2, d3, d4, d5⟩ := d1; go_simp) ?_
  try simp only [Act.put, List.setIfInBounds_toArray, List.set_cons_zero, List.set_cons_succ]
  refine zt [17] (i := 13) rfl (.int .u64 (x 4)) (by kernel_rfl) (by kernel_rfl) (by kernel_rfl) (by kernel_rfl) (fun _ _ _ h => h) hS (fun w' d1 => by obtain ⟨d1, d2, d3, d4, d5⟩ := d1; go_simp) ?_
  try simp only [Act.put, List.setIfInBounds_toArray, List.set_cons_zero, List.set_cons_succ]
  refine zt [17] (i := 14) rfl (.int .u64 (bits .xor .u64 (bits .and .u64 (bits .xor .u64 (x 0) (x 1)) (bits .xor .u64 (x 2) (x 3))) (x 4))) (by kernel_rfl) (by kernel_rfl) (by kernel_rfl) (by kernel_rfl) (fun _ _ _ h => h) hS (fun w' d1 => by obtain ⟨d1, d2, d3, d4, d5⟩ := d1; go_simp) ?_
  try simp only [Act.put, List.setIfInBounds_toArray, List.set_cons_zero, List.set_cons_succ]
  refine zt [17] (i := 15) rfl (tri (x 1) (x 3) (bits .xor .u64 (bits .and .u64 (bits .xor .u64 (x 0) (x 1)) (bits .xor .u64 (x 2) (x 3))) (x 4))) (by kernel_rfl) (by kernel_rfl) (by kernel_rfl) (by kernel_rfl) (fun _ _ _ h => h) hS (fun w' d1 => by obtain ⟨d1, d2, d3, d4, d5⟩ := d1; go_simp) ?_
  try simp only [Act.put, List.setIfInBounds_toArray, List.set_cons_zero, List.set_cons_succ]
  have a0 := HD.out.2.1.cell 0 rfl
  have a1 := HD.out.2.1.cell 1 rfl
  have a2 := HD.out.2.1.cell 2 rfl
  have za := HD.out.2.1.frozen
  refine z1 (i := 16) (by kernel_rfl) rfl (fun K hK => ?_)
  go_simp
  have H2 := Lib.hid (And.intro (((HD.out.1.far (p := ⟨w.heap.size + 1, 0, none⟩) (by show w.heap.size ≠ w.heap.size + 1; omega) (.int .u64 (x 0))).far (p := ⟨w.heap.size + 1, 1, none⟩) (by show w.heap.size ≠ w.heap.size + 1; omega) (.int .u64 (x 2))).far (p := ⟨w.heap.size + 1, 2, none⟩) (by show w.heap.size ≠ w.heap.size + 1; omega) (.int .u64 (x 4))) (And.intro (((HD.out.2.1.set 0 (.int .u64 (x 0))).set 1 (.int .u64 (x 2))).set 2 (.int .u64 (x 4))) (And.intro (((HD.out.2.2.1.far (p := ⟨w.heap.size + 1, 0, none⟩) (by show w.heap.size + 1 + 1 ≠ w.heap.size + 1; omega) (.int .u64 (x 0))).far (p := ⟨w.heap.size + 1, 1, none⟩) (by show w.heap.size + 1 + 1 ≠ w.heap.size + 1; omega) (.int .u64 (x 2))).far (p := ⟨w.heap.size + 1, 2, none⟩) (by show w.heap.size + 1 + 1 ≠ w.heap.size + 1; omega) (.int .u64 (x 4))) (((HD.out.2.2.2.setCell (p := ⟨w.heap.size + 1, 0, none⟩) (by show w.heap.size ≤ w.heap.size + 1; omega) (.int .u64 (x 0))).setCell (p := ⟨w.heap.size + 1, 1, none⟩) (by show w.heap.size ≤ w.heap.size + 1; omega) (.int .u64 (x 2))).setCell (p := ⟨w.heap.size + 1, 2, none⟩) (by show w.heap.size ≤ w.heap.size + 1; omega) (.int .u64 (x 4))))))
  clear a0 a1 a2 za HD hS
  generalize (((w1.setCell ⟨w.heap.size + 1, 0, none⟩ (.int .u64 (x 0))).setCell ⟨w.heap.size + 1, 1, none⟩ (.int .u64 (x 2))).setCell ⟨w.heap.size + 1, 2, none⟩ (.int .u64 (x 4))) = w2 at *
  have hS : (fun w' => w'.cell? ⟨w.heap.size, 0, none⟩ = some (.int .u64 (x 0)) ∧ w'.cell? ⟨w.heap.size, 1, none⟩ = some (.int .u64 (x 1)) ∧ w'.cell? ⟨w.heap.size, 2, none⟩ = some (.int .u64 (x 2)) ∧ w'.cell? ⟨w.heap.size, 3, none⟩ = some (.int .u64 (x 3)) ∧ w'.cell? ⟨w.heap.size, 4, none⟩ = some (.int .u64 (x 4))) w2 := ⟨H2.out.1.cell 0 rfl, H2.out.1.cell 1 rfl, H2.out.1.cell 2 rfl, H2.out.1.cell 3 rfl, H2.out.1.cell 4 rfl⟩
  refine hK.out _ _ (.inr hS) ?_
  clear hK K
  try simp only [Act.put, List.setIfInBounds_toArray, List.set_cons_zero, List.set_cons_succ]
  have b0 := H2.out.2.2.1.cell 0 rfl
  have b1 := H2.out.2.2.1.cell 1 rfl
  have b2 := H2.out.2.2.1.cell 2 rfl
  have zb := H2.out.2.2.1.frozen
  refine z1 (i := 17) (by kernel_rfl) rfl (fun K hK => ?_)
  go_simp
  refine hK.out _ _ (.inl rfl) ?_
  clear hK K
  refine wpAnyZ_done (by kernel_rfl) ?_ _
  go_wp2
  have hA3 := (((H2.out.2.1.far (p := ⟨w.heap.size + 1 + 1, 0, none⟩) (by show w.heap.size + 1 ≠ w.heap.size + 1 + 1; omega) (.int .u64 (x 1))).far (p := ⟨w.heap.size + 1 + 1, 1, none⟩) (by show w.heap.size + 1 ≠ w.heap.size + 1 + 1; omega) (.int .u64 (x 3))).far (p := ⟨w.heap.size + 1 + 1, 2, none⟩) (by show w.heap.size + 1 ≠ w.heap.size + 1 + 1; omega) (.int .u64 (bits .xor .u64 (bits .and .u64 (bits .xor .u64 (x 0) (x 1)) (bits .xor .u64 (x 2) (x 3))) (x 4))))
  have hB3 := (((H2.out.2.2.1.set 0 (.int .u64 (x 1))).set 1 (.int .u64 (x 3))).set 2 (.int .u64 (bits .xor .u64 (bits .and .u64 (bits .xor .u64 (x 0) (x 1)) (bits .xor .u64 (x 2) (x 3))) (x 4))))
  have p0 := hA3.cell 0 rfl
  have q0 := hB3.cell 0 rfl
  have p1 := hA3.cell 1 rfl
  have q1 := hB3.cell 1 rfl
  have p2 := hA3.cell 2 rfl
  have q2 := hB3.cell 2 rfl
  exact bodyPost_ret (v := .tuple #[tri (x 0) (x 2) (x 4), tri (x 1) (x 3) (bits .xor .u64 (bits .and .u64 (bits .xor .u64 (x 0) (x 1)) (bits .xor .u64 (x 2) (x 3))) (x 4))]) (by simp [results, Tryd.results58, go_sem, p0, q0, p1, q1, p2, q2]) rfl
    ⟨rfl, (((H2.out.2.2.2.setCell (p := ⟨w.heap.size + 1 + 1, 0, none⟩) (by show w.heap.size ≤ w.heap.size + 1 + 1; omega) (.int .u64 (x 1))).setCell (p := ⟨w.heap.size + 1 + 1, 1, none⟩) (by show w.heap.size ≤ w.heap.size + 1 + 1; omega) (.int .u64 (x 3))).setCell (p := ⟨w.heap.size + 1 + 1, 2, none⟩) (by show w.heap.size ≤ w.heap.size + 1 + 1; omega) (.int .u64 (bits .xor .u64 (bits .and .u64 (bits .xor .u64 (x 0) (x 1)) (bits .xor .u64 (x 2) (x 3))) (x 4))))⟩
end Go.Proofs.YtamejhhjfnfalaaDoor.Co

/- The contract of corr's splitOT. -/
namespace Go.Proofs.YtamejhhjfnfalaaDoor.Co
open Go.RowKit

theorem and_one_mod (a : Int) : bits .and .u64 a 1 = a % 2 := by
  show IntKind.u64.wrap ((BitVec.ofInt 64 a &&& BitVec.ofInt 64 1).toNat : Int) = _
  have h1 : (BitVec.ofInt 64 1).toNat = 1 := by decide
  rw [BitVec.toNat_and, h1, Nat.and_one_is_mod, BitVec.toNat_ofInt, u64w]
  omega
theorem and_one (a : Int) : bits .and .u64 a 1 = 0 ∨ bits .and .u64 a 1 = 1 := by
  rw [and_one_mod]; omega
set_option maxHeartbeats 4000000 in
set_option maxRecDepth 100000 in
theorem splitO_any0 (w : World) (x : Nat → Int) (hk : bits .and .u64 (x 4) 1 = 0) :
    Calls Tryd.prog 59 #[.agg (fiv x)] w fun e w' => e = .returned (.tuple #[otv (x 0) (x 1) (x 2) (x 3) false, otv (x 0) (x 1) 0 0 false]) ∧ Below w.heap.size w w' := by
  go_enter Tryd.func59, Tryd.ntmps59
  go_wp2
  have hL : Blk ((((w.alloc (.cells (fiv x) 114)).alloc (.cells #[.int .u64 0, .int .u64 0, .int .u64 0, .int .u64 0, .bool false] 71)).alloc (.cells #[.int .u64 0, .int .u64 0, .int .u64 0, .int .u64 0, .bool false] 71)).alloc (.cells #[.int .u64 (x 0), .int .u64 (x 1), .int .u64 (x 2), .int .u64 (x 3)] 69)) (w.heap.size + 1 + 1 + 1) 69 #[.int .u64 (x 0), .int .u64 (x 1), .int .u64 (x 2), .int .u64 (x 3)] := by
    have := Blk.new (((w.alloc (.cells (fiv x) 114)).alloc (.cells #[.int .u64 0, .int .u64 0, .int .u64 0, .int .u64 0, .bool false] 71)).alloc (.cells #[.int .u64 0, .int .u64 0, .int .u64 0, .int .u64 0, .bool false] 71)) 69 #[.int .u64 (x 0), .int .u64 (x 1), .int .u64 (x 2), .int .u64 (x 3)]
    rwa [World.size_alloc, World.size_alloc, World.size_alloc] at this
  have hA : Blk ((((w.alloc (.cells (fiv x) 114)).alloc (.cells #[.int .u64 0, .int .u64 0, .int .u64 0, .int .u64 0, .bool false] 71)).alloc (.cells #[.int .u64 0, .int .u64 0, .int .u64 0, .int .u64 0, .bool false] 71)).alloc (.cells #[.int .u64 (x 0), .int .u64 (x 1), .int .u64 (x 2), .int .u64 (x 3)] 69)) (w.heap.size + 1) 71 #[.int .u64 0, .int .u64 0, .int .u64 0, .int .u64 0, .bool false] := by
    have := ((Blk.new (w.alloc (.cells (fiv x) 114)) 71 #[.int .u64 0, .int .u64 0, .int .u64 0, .int .u64 0, .bool false]).alloc (.cells #[.int .u64 0, .int .u64 0, .int .u64 0, .int .u64 0, .bool false] 71)).alloc (.cells #[.int .u64 (x 0), .int .u64 (x 1), .int .u64 (x 2), .int .u64 (x 3)] 69)
    rwa [World.size_alloc] at this
  have hB : Blk ((((w.alloc (.cells (fiv x) 114)).alloc (.cells #[.int .u64 0, .int .u64 0, .int .u64 0, .int .u64 0, .bool false] 71)).alloc (.cells #[.int .u64 0, .int .u64 0, .int .u64 0, .int .u64 0, .bool false] 71)).alloc (.cells #[.int .u64 (x 0), .int .u64 (x 1), .int .u64 (x 2), .int .u64 (x 3)] 69)) (w.heap.size + 1 + 1) 71 #[.int .u64 0, .int .u64 0, .int .u64 0, .int .u64 0, .bool false] := by
    have := (Blk.new ((w.alloc (.cells (fiv x) 114)).alloc (.cells #[.int .u64 0, .int .u64 0, .int .u64 0, .int .u64 0, .bool false] 71)) 71 #[.int .u64 0, .int .u64 0, .int .u64 0, .int .u64 0, .bool false]).alloc (.cells #[.int .u64 (x 0), .int .u64 (x 1), .int .u64 (x 2), .int .u64 (x 3)] 69)
    rwa [World.size_alloc, World.size_alloc] at this
  have hb : Below w.heap.size w ((((w.alloc (.cells (fiv x) 114)).alloc (.cells #[.int .u64 0, .int .u64 0, .int .u64 0, .int .u64 0, .bool false] 71)).alloc (.cells #[.int .u64 0, .int .u64 0, .int .u64 0, .int .u64 0, .bool false] 71)).alloc (.cells #[.int .u64 (x 0), .int .u64 (x 1), .int .u64 (x 2), .int .u64 (x 3)] 69)) := ((((Below.refl _ w).alloc (Nat.le_refl _) _).alloc (by simp) _).alloc (by simp; omega) _).alloc (by simp; omega) _
  have HD := Lib.hid (And.intro hL.drew (And.intro hA.drew (And.intro hB.drew hb.drew)))
  clear hL hA hB hb
  generalize ((((w.alloc (.cells (fiv x) 114)).alloc (.cells #[.int .u64 0, .int .u64 0, .int .u64 0, .int .u64 0, .bool false] 71)).alloc (.cells #[.int .u64 0, .int .u64 0, .int .u64 0, .int .u64 0, .bool false] 71)).alloc (.cells #[.int .u64 (x 0), .int .u64 (x 1), .int .u64 (x 2), .int .u64 (x 3)] 69)) = w0 at *
  refine region_z 10 (fun w' => w'.cell? ⟨w.heap.size + 1 + 1 + 1, 0, none⟩ = some (.int .u64 (x 0)) ∧ w'.cell? ⟨w.heap.size + 1 + 1 + 1, 1, none⟩ = some (.int .u64 (x 1)) ∧ w'.cell? ⟨w.heap.size + 1 + 1 + 1, 2, none⟩ = some (.int .u64 (x 2)) ∧ w'.cell? ⟨w.heap.size + 1 + 1 + 1, 3, none⟩ = some (.int .u64 (x 3))) (by kernel_rfl) ?_
  generalize w0.drew = w1 at *
  have hS : (fun w' => w'.cell? ⟨w.heap.size + 1 + 1 + 1, 0, none⟩ = some (.int .u64 (x 0)) ∧ w'.cell? ⟨w.heap.size + 1 + 1 + 1, 1, none⟩ = some (.int .u64 (x 1)) ∧ w'.cell? ⟨w.heap.size + 1 + 1 + 1, 2, none⟩ = some (.int .u64 (x 2)) ∧ w'.cell? ⟨w.heap.size + 1 + 1 + 1, 3, none⟩ = some (.int .u64 (x 3))) w1 := ⟨HD.out.1.cell 0 rfl, HD.out.1.cell 1 rfl, HD.out.1.cell 2 rfl, HD.out.1.cell 3 rfl⟩
  refine zt [10] (i := 0) rfl (.agg #[.int .u64 (x 0), .int .u64 (x 1), .int .u64 (x 2), .int .u64 (x 3)]) (by kernel_rfl) (by kernel_rfl) (by kernel_rfl) (by kernel_rfl) (fun _ _ _ h => h) hS (fun w' d1 => by obtain ⟨d1, d2, d3, d4⟩ := d1; go_simp) ?_
  try simp only [Act.put, List.setIfInBounds_toArray, List.set_cons_zero, List.set_cons_succ]
  refine zt [10] (i := 1) rfl (otv (x 0) (x 1) (x 2) (x 3) false) (by kernel_rfl) (by kernel_rfl) (by kernel_rfl) (by kernel_rfl) (fun _ _ _ h => h) hS (fun w' d1 => by obtain ⟨d1, d2, d3, d4⟩ := d1; go_simp) ?_
  try simp only [Act.put, List.setIfInBounds_toArray, List.set_cons_zero, List.set_cons_succ]
  refine zt [10] (i := 2) rfl (.int .u64 0) (by kernel_rfl) (by kernel_rfl) (by kernel_rfl) (by kernel_rfl) (fun _ _ _ h => h) hS (fun w' d1 => by obtain ⟨d1, d2, d3, d4⟩ := d1; go_simp) ?_
  try simp only [Act.put, List.setIfInBounds_toArray, List.set_cons_zero, List.set_cons_succ]
  refine zt [10] (i := 3) rfl (.pointer (some ⟨w.heap.size + 1 + 1 + 1, 0, none⟩)) (by kernel_rfl) (by kernel_rfl) (by kernel_rfl) (by kernel_rfl) (fun _ _ _ h => h) hS (fun w' d1 => by obtain ⟨d1, d2, d3, d4⟩ := d1; go_simp) ?_
  try simp only [Act.put, List.setIfInBounds_toArray, List.set_cons_zero, List.set_cons_succ]
  refine zt [10] (i := 4) rfl (.agg #[.int .u64 (x 0), .int .u64 (x 1)]) (by kernel_rfl) (by kernel_rfl) (by kernel_rfl) (by kernel_rfl) (fun _ _ _ h => h) hS (fun w' d1 => by obtain ⟨d1, d2, d3, d4⟩ := d1; go_simp) ?_
  try simp only [Act.put, List.setIfInBounds_toArray, List.set_cons_zero, List.set_cons_succ]
  refine zt [10] (i := 5) rfl (.agg #[.int .u64 (x 0), .int .u64 (x 1), .int .u64 0, .int .u64 0]) (by kernel_rfl) (by kernel_rfl) (by kernel_rfl) (by kernel_rfl) (fun _ _ _ h => h) hS (fun w' d1 => by obtain ⟨d1, d2, d3, d4⟩ := d1; go_simp) ?_
  try simp only [Act.put, List.setIfInBounds_toArray, List.set_cons_zero, List.set_cons_succ]
  refine zt [10] (i := 6) rfl (.int .u64 0) (by kernel_rfl) (by kernel_rfl) (by kernel_rfl) (by kernel_rfl) (fun _ _ _ h => h) hS (fun w' d1 => by obtain ⟨d1, d2, d3, d4⟩ := d1; go_simp) ?_
  try simp only [Act.put, List.setIfInBounds_toArray, List.set_cons_zero, List.set_cons_succ]
  refine zt [10] (i := 7) rfl (.bool false) (by kernel_rfl) (by kernel_rfl) (by kernel_rfl) (by kernel_rfl) (fun _ _ _ h => h) hS (fun w' d1 => by obtain ⟨d1, d2, d3, d4⟩ := d1; go_simp) ?_
  try simp only [Act.put, List.setIfInBounds_toArray, List.set_cons_zero, List.set_cons_succ]
  refine zt [10] (i := 8) rfl (otv (x 0) (x 1) 0 0 false) (by kernel_rfl) (by kernel_rfl) (by kernel_rfl) (by kernel_rfl) (fun _ _ _ h => h) hS (fun w' d1 => by obtain ⟨d1, d2, d3, d4⟩ := d1; go_simp) ?_
  try simp only [Act.put, List.setIfInBounds_toArray, List.set_cons_zero, List.set_cons_succ]
  have a0 := HD.out.2.1.cell 0 rfl
  have a1 := HD.out.2.1.cell 1 rfl
  have a2 := HD.out.2.1.cell 2 rfl
  have a3 := HD.out.2.1.cell 3 rfl
  have a4 := HD.out.2.1.cell 4 rfl
  have za := HD.out.2.1.frozen
  refine z1 (i := 9) (by kernel_rfl) rfl (fun K hK => ?_)
  go_simp
  have H2 := Lib.hid (And.intro (((((HD.out.1.far (p := ⟨w.heap.size + 1, 0, none⟩) (by show w.heap.size + 1 + 1 + 1 ≠ w.heap.size + 1; omega) (.int .u64 (x 0))).far (p := ⟨w.heap.size + 1, 1, none⟩) (by show w.heap.size + 1 + 1 + 1 ≠ w.heap.size + 1; omega) (.int .u64 (x 1))).far (p := ⟨w.heap.size + 1, 2, none⟩) (by show w.heap.size + 1 + 1 + 1 ≠ w.heap.size + 1; omega) (.int .u64 (x 2))).far (p := ⟨w.heap.size + 1, 3, none⟩) (by show w.heap.size + 1 + 1 + 1 ≠ w.heap.size + 1; omega) (.int .u64 (x 3))).far (p := ⟨w.heap.size + 1, 4, none⟩) (by show w.heap.size + 1 + 1 + 1 ≠ w.heap.size + 1; omega) (.bool false)) (And.intro (((((HD.out.2.1.set 0 (.int .u64 (x 0))).set 1 (.int .u64 (x 1))).set 2 (.int .u64 (x 2))).set 3 (.int .u64 (x 3))).set 4 (.bool false)) (And.intro (((((HD.out.2.2.1.far (p := ⟨w.heap.size + 1, 0, none⟩) (by show w.heap.size + 1 + 1 ≠ w.heap.size + 1; omega) (.int .u64 (x 0))).far (p := ⟨w.heap.size + 1, 1, none⟩) (by show w.heap.size + 1 + 1 ≠ w.heap.size + 1; omega) (.int .u64 (x 1))).far (p := ⟨w.heap.size + 1, 2, none⟩) (by show w.heap.size + 1 + 1 ≠ w.heap.size + 1; omega) (.int .u64 (x 2))).far (p := ⟨w.heap.size + 1, 3, none⟩) (by show w.heap.size + 1 + 1 ≠ w.heap.size + 1; omega) (.int .u64 (x 3))).far (p := ⟨w.heap.size + 1, 4, none⟩) (by show w.heap.size + 1 + 1 ≠ w.heap.size + 1; omega) (.bool false)) (((((HD.out.2.2.2.setCell (p := ⟨w.heap.size + 1, 0, none⟩) (by show w.heap.size ≤ w.heap.size + 1; omega) (.int .u64 (x 0))).setCell (p := ⟨w.heap.size + 1, 1, none⟩) (by show w.heap.size ≤ w.heap.size + 1; omega) (.int .u64 (x 1))).setCell (p := ⟨w.heap.size + 1, 2, none⟩) (by show w.heap.size ≤ w.heap.size + 1; omega) (.int .u64 (x 2))).setCell (p := ⟨w.heap.size + 1, 3, none⟩) (by show w.heap.size ≤ w.heap.size + 1; omega) (.int .u64 (x 3))).setCell (p := ⟨w.heap.size + 1, 4, none⟩) (by show w.heap.size ≤ w.heap.size + 1; omega) (.bool false)))))
  clear a0 a1 a2 a3 a4 za HD hS
  generalize (((((w1.setCell ⟨w.heap.size + 1, 0, none⟩ (.int .u64 (x 0))).setCell ⟨w.heap.size + 1, 1, none⟩ (.int .u64 (x 1))).setCell ⟨w.heap.size + 1, 2, none⟩ (.int .u64 (x 2))).setCell ⟨w.heap.size + 1, 3, none⟩ (.int .u64 (x 3))).setCell ⟨w.heap.size + 1, 4, none⟩ (.bool false)) = w2 at *
  have hS : (fun w' => w'.cell? ⟨w.heap.size + 1 + 1 + 1, 0, none⟩ = some (.int .u64 (x 0)) ∧ w'.cell? ⟨w.heap.size + 1 + 1 + 1, 1, none⟩ = some (.int .u64 (x 1)) ∧ w'.cell? ⟨w.heap.size + 1 + 1 + 1, 2, none⟩ = some (.int .u64 (x 2)) ∧ w'.cell? ⟨w.heap.size + 1 + 1 + 1, 3, none⟩ = some (.int .u64 (x 3))) w2 := ⟨H2.out.1.cell 0 rfl, H2.out.1.cell 1 rfl, H2.out.1.cell 2 rfl, H2.out.1.cell 3 rfl⟩
  refine hK.out _ _ (.inr hS) ?_
  clear hK K
  try simp only [Act.put, List.setIfInBounds_toArray, List.set_cons_zero, List.set_cons_succ]
  have b0 := H2.out.2.2.1.cell 0 rfl
  have b1 := H2.out.2.2.1.cell 1 rfl
  have b2 := H2.out.2.2.1.cell 2 rfl
  have b3 := H2.out.2.2.1.cell 3 rfl
  have b4 := H2.out.2.2.1.cell 4 rfl
  have zb := H2.out.2.2.1.frozen
  refine z1 (i := 10) (by kernel_rfl) rfl (fun K hK => ?_)
  go_simp
  refine hK.out _ _ (.inl rfl) ?_
  clear hK K
  refine wpAnyZ_done (by kernel_rfl) ?_ _
  go_wp2
  have hA3 := (((((H2.out.2.1.far (p := ⟨w.heap.size + 1 + 1, 0, none⟩) (by show w.heap.size + 1 ≠ w.heap.size + 1 + 1; omega) (.int .u64 (x 0))).far (p := ⟨w.heap.size + 1 + 1, 1, none⟩) (by show w.heap.size + 1 ≠ w.heap.size + 1 + 1; omega) (.int .u64 (x 1))).far (p := ⟨w.heap.size + 1 + 1, 2, none⟩) (by show w.heap.size + 1 ≠ w.heap.size + 1 + 1; omega) (.int .u64 0)).far (p := ⟨w.heap.size + 1 + 1, 3, none⟩) (by show w.heap.size + 1 ≠ w.heap.size + 1 + 1; omega) (.int .u64 0)).far (p := ⟨w.heap.size + 1 + 1, 4, none⟩) (by show w.heap.size + 1 ≠ w.heap.size + 1 + 1; omega) (.bool false))
  have hB3 := (((((H2.out.2.2.1.set 0 (.int .u64 (x 0))).set 1 (.int .u64 (x 1))).set 2 (.int .u64 0)).set 3 (.int .u64 0)).set 4 (.bool false))
  have p0 := hA3.cell 0 rfl
  have q0 := hB3.cell 0 rfl
  have p1 := hA3.cell 1 rfl
  have q1 := hB3.cell 1 rfl
  have p2 := hA3.cell 2 rfl
  have q2 := hB3.cell 2 rfl
  have p3 := hA3.cell 3 rfl
  have q3 := hB3.cell 3 rfl
  have p4 := hA3.cell 4 rfl
  have q4 := hB3.cell 4 rfl
  exact bodyPost_ret (v := .tuple #[otv (x 0) (x 1) (x 2) (x 3) false, otv (x 0) (x 1) 0 0 false]) (by simp [results, Tryd.results59, go_sem, p0, q0, p1, q1, p2, q2, p3, q3, p4, q4]) rfl
    ⟨rfl, (((((H2.out.2.2.2.setCell (p := ⟨w.heap.size + 1 + 1, 0, none⟩) (by show w.heap.size ≤ w.heap.size + 1 + 1; omega) (.int .u64 (x 0))).setCell (p := ⟨w.heap.size + 1 + 1, 1, none⟩) (by show w.heap.size ≤ w.heap.size + 1 + 1; omega) (.int .u64 (x 1))).setCell (p := ⟨w.heap.size + 1 + 1, 2, none⟩) (by show w.heap.size ≤ w.heap.size + 1 + 1; omega) (.int .u64 0)).setCell (p := ⟨w.heap.size + 1 + 1, 3, none⟩) (by show w.heap.size ≤ w.heap.size + 1 + 1; omega) (.int .u64 0)).setCell (p := ⟨w.heap.size + 1 + 1, 4, none⟩) (by show w.heap.size ≤ w.heap.size + 1 + 1; omega) (.bool false))⟩
set_option maxHeartbeats 4000000 in
set_option maxRecDepth 100000 in
theorem splitO_any1 (w : World) (x : Nat → Int) (hk : bits .and .u64 (x 4) 1 = 1) :
    Calls Tryd.prog 59 #[.agg (fiv x)] w fun e w' => e = .returned (.tuple #[otv (x 0) (x 1) (x 2) (x 3) false, otv (x 2) (x 3) 0 0 true]) ∧ Below w.heap.size w w' := by
  go_enter Tryd.func59, Tryd.ntmps59
  go_wp2
  have hL : Blk ((((w.alloc (.cells (fiv x) 114)).alloc (.cells #[.int .u64 0, .int .u64 0, .int .u64 0, .int .u64 0, .bool false] 71)).alloc (.cells #[.int .u64 0, .int .u64 0, .int .u64 0, .int .u64 0, .bool false] 71)).alloc (.cells #[.int .u64 (x 0), .int .u64 (x 1), .int .u64 (x 2), .int .u64 (x 3)] 69)) (w.heap.size + 1 + 1 + 1) 69 #[.int .u64 (x 0), .int .u64 (x 1), .int .u64 (x 2), .int .u64 (x 3)] := by
    have := Blk.new (((w.alloc (.cells (fiv x) 114)).alloc (.cells #[.int .u64 0, .int .u64 0, .int .u64 0, .int .u64 0, .bool false] 71)).alloc (.cells #[.int .u64 0, .int .u64 0, .int .u64 0, .int .u64 0, .bool false] 71)) 69 #[.int .u64 (x 0), .int .u64 (x 1), .int .u64 (x 2), .int .u64 (x 3)]
    rwa [World.size_alloc, World.size_alloc, World.size_alloc] at this
  have hA : Blk ((((w.alloc (.cells (fiv x) 114)).alloc (.cells #[.int .u64 0, .int .u64 0, .int .u64 0, .int .u64 0, .bool false] 71)).alloc (.cells #[.int .u64 0, .int .u64 0, .int .u64 0, .int .u64 0, .bool false] 71)).alloc (.cells #[.int .u64 (x 0), .int .u64 (x 1), .int .u64 (x 2), .int .u64 (x 3)] 69)) (w.heap.size + 1) 71 #[.int .u64 0, .int .u64 0, .int .u64 0, .int .u64 0, .bool false] := by
    have := ((Blk.new (w.alloc (.cells (fiv x) 114)) 71 #[.int .u64 0, .int .u64 0, .int .u64 0, .int .u64 0, .bool false]).alloc (.cells #[.int .u64 0, .int .u64 0, .int .u64 0, .int .u64 0, .bool false] 71)).alloc (.cells #[.int .u64 (x 0), .int .u64 (x 1), .int .u64 (x 2), .int .u64 (x 3)] 69)
    rwa [World.size_alloc] at this
  have hB : Blk ((((w.alloc (.cells (fiv x) 114)).alloc (.cells #[.int .u64 0, .int .u64 0, .int .u64 0, .int .u64 0, .bool false] 71)).alloc (.cells #[.int .u64 0, .int .u64 0, .int .u64 0, .int .u64 0, .bool false] 71)).alloc (.cells #[.int .u64 (x 0), .int .u64 (x 1), .int .u64 (x 2), .int .u64 (x 3)] 69)) (w.heap.size + 1 + 1) 71 #[.int .u64 0, .int .u64 0, .int .u64 0, .int .u64 0, .bool false] := by
    have := (Blk.new ((w.alloc (.cells (fiv x) 114)).alloc (.cells #[.int .u64 0, .int .u64 0, .int .u64 0, .int .u64 0, .bool false] 71)) 71 #[.int .u64 0, .int .u64 0, .int .u64 0, .int .u64 0, .bool false]).alloc (.cells #[.int .u64 (x 0), .int .u64 (x 1), .int .u64 (x 2), .int .u64 (x 3)] 69)
    rwa [World.size_alloc, World.size_alloc] at this
  have hb : Below w.heap.size w ((((w.alloc (.cells (fiv x) 114)).alloc (.cells #[.int .u64 0, .int .u64 0, .int .u64 0, .int .u64 0, .bool false] 71)).alloc (.cells #[.int .u64 0, .int .u64 0, .int .u64 0, .int .u64 0, .bool false] 71)).alloc (.cells #[.int .u64 (x 0), .int .u64 (x 1), .int .u64 (x 2), .int .u64 (x 3)] 69)) := ((((Below.refl _ w).alloc (Nat.le_refl _) _).alloc (by simp) _).alloc (by simp; omega) _).alloc (by simp; omega) _
  have HD := Lib.hid (And.intro hL.drew (And.intro hA.drew (And.intro hB.drew hb.drew)))
  clear hL hA hB hb
  generalize ((((w.alloc (.cells (fiv x) 114)).alloc (.cells #[.int .u64 0, .int .u64 0, .int .u64 0, .int .u64 0, .bool false] 71)).alloc (.cells #[.int .u64 0, .int .u64 0, .int .u64 0, .int .u64 0, .bool false] 71)).alloc (.cells #[.int .u64 (x 0), .int .u64 (x 1), .int .u64 (x 2), .int .u64 (x 3)] 69)) = w0 at *
  refine region_z 10 (fun w' => w'.cell? ⟨w.heap.size + 1 + 1 + 1, 0, none⟩ = some (.int .u64 (x 0)) ∧ w'.cell? ⟨w.heap.size + 1 + 1 + 1, 1, none⟩ = some (.int .u64 (x 1)) ∧ w'.cell? ⟨w.heap.size + 1 + 1 + 1, 2, none⟩ = some (.int .u64 (x 2)) ∧ w'.cell? ⟨w.heap.size + 1 + 1 + 1, 3, none⟩ = some (.int .u64 (x 3))) (by kernel_rfl) ?_
  generalize w0.drew = w1 at *
  have hS : (fun w' => w'.cell? ⟨w.heap.size + 1 + 1 + 1, 0, none⟩ = some (.int .u64 (x 0)) ∧ w'.cell? ⟨w.heap.size + 1 + 1 + 1, 1, none⟩ = some (.int .u64 (x 1)) ∧ w'.cell? ⟨w.heap.size + 1 + 1 + 1, 2, none⟩ = some (.int .u64 (x 2)) ∧ w'.cell? ⟨w.heap.size + 1 + 1 + 1, 3, none⟩ = some (.int .u64 (x 3))) w1 := ⟨HD.out.1.cell 0 rfl, HD.out.1.cell 1 rfl, HD.out.1.cell 2 rfl, HD.out.1.cell 3 rfl⟩
  refine zt [10] (i := 0) rfl (.agg #[.int .u64 (x 0), .int .u64 (x 1), .int .u64 (x 2), .int .u64 (x 3)]) (by kernel_rfl) (by kernel_rfl) (by kernel_rfl) (by kernel_rfl) (fun _ _ _ h => h) hS (fun w' d1 => by obtain ⟨d1, d2, d3, d4⟩ := d1; go_simp) ?_
  try simp only [Act.put, List.setIfInBounds_toArray, List.set_cons_zero, List.set_cons_succ]
  refine zt [10] (i := 1) rfl (otv (x 0) (x 1) (x 2) (x 3) false) (by kernel_rfl) (by kernel_rfl) (by kernel_rfl) (by kernel_rfl) (fun _ _ _ h => h) hS (fun w' d1 => by obtain ⟨d1, d2, d3, d4⟩ := d1; go_simp) ?_
  try simp only [Act.put, List.setIfInBounds_toArray, List.set_cons_zero, List.set_cons_succ]
  refine zt [10] (i := 2) rfl (.int .u64 1) (by kernel_rfl) (by kernel_rfl) (by kernel_rfl) (by kernel_rfl) (fun _ _ _ h => h) hS (fun w' d1 => by obtain ⟨d1, d2, d3, d4⟩ := d1; go_simp) ?_
  try simp only [Act.put, List.setIfInBounds_toArray, List.set_cons_zero, List.set_cons_succ]
  refine zt [10] (i := 3) rfl (.pointer (some ⟨w.heap.size + 1 + 1 + 1, 2, none⟩)) (by kernel_rfl) (by kernel_rfl) (by kernel_rfl) (by kernel_rfl) (fun _ _ _ h => h) hS (fun w' d1 => by obtain ⟨d1, d2, d3, d4⟩ := d1; go_simp) ?_
  try simp only [Act.put, List.setIfInBounds_toArray, List.set_cons_zero, List.set_cons_succ]
  refine zt [10] (i := 4) rfl (.agg #[.int .u64 (x 2), .int .u64 (x 3)]) (by kernel_rfl) (by kernel_rfl) (by kernel_rfl) (by kernel_rfl) (fun _ _ _ h => h) hS (fun w' d1 => by obtain ⟨d1, d2, d3, d4⟩ := d1; go_simp) ?_
  try simp only [Act.put, List.setIfInBounds_toArray, List.set_cons_zero, List.set_cons_succ]
  refine zt [10] (i := 5) rfl (.agg #[.int .u64 (x 2), .int .u64 (x 3), .int .u64 0, .int .u64 0]) (by kernel_rfl) (by kernel_rfl) (by kernel_rfl) (by kernel_rfl) (fun _ _ _ h => h) hS (fun w' d1 => by obtain ⟨d1, d2, d3, d4⟩ := d1; go_simp) ?_
  try simp only [Act.put, List.setIfInBounds_toArray, List.set_cons_zero, List.set_cons_succ]
  refine zt [10] (i := 6) rfl (.int .u64 1) (by kernel_rfl) (by kernel_rfl) (by kernel_rfl) (by kernel_rfl) (fun _ _ _ h => h) hS (fun w' d1 => by obtain ⟨d1, d2, d3, d4⟩ := d1; go_simp) ?_
  try simp only [Act.put, List.setIfInBounds_toArray, List.set_cons_zero, List.set_cons_succ]
  refine zt [10] (i := 7) rfl (.bool true) (by kernel_rfl) (by kernel_rfl) (by kernel_rfl) (by kernel_rfl) (fun _ _ _ h => h) hS (fun w' d1 => by obtain ⟨d1, d2, d3, d4⟩ := d1; go_simp) ?_
  try simp only [Act.put, List.setIfInBounds_toArray, List.set_cons_zero, List.set_cons_succ]
  refine zt [10] (i := 8) rfl (otv (x 2) (x 3) 0 0 true) (by kernel_rfl) (by kernel_rfl) (by kernel_rfl) (by kernel_rfl) (fun _ _ _ h => h) hS (fun w' d1 => by obtain ⟨d1, d2, d3, d4⟩ := d1; go_simp) ?_
  try simp only [Act.put, List.setIfInBounds_toArray, List.set_cons_zero, List.set_cons_succ]
  have a0 := HD.out.2.1.cell 0 rfl
  have a1 := HD.out.2.1.cell 1 rfl
  have a2 := HD.out.2.1.cell 2 rfl
  have a3 := HD.out.2.1.cell 3 rfl
  have a4 := HD.out.2.1.cell 4 rfl
  have za := HD.out.2.1.frozen
  refine z1 (i := 9) (by kernel_rfl) rfl (fun K hK => ?_)
  go_simp
  have H2 := Lib.hid (And.intro (((((HD.out.1.far (p := ⟨w.heap.size + 1, 0, none⟩) (by show w.heap.size + 1 + 1 + 1 ≠ w.heap.size + 1; omega) (.int .u64 (x 0))).far (p := ⟨w.heap.size + 1, 1, none⟩) (by show w.heap.size + 1 + 1 + 1 ≠ w.heap.size + 1; omega) (.int .u64 (x 1))).far (p := ⟨w.heap.size + 1, 2, none⟩) (by show w.heap.size + 1 + 1 + 1 ≠ w.heap.size + 1; omega) (.int .u64 (x 2))).far (p := ⟨w.heap.size + 1, 3, none⟩) (by show w.heap.size + 1 + 1 + 1 ≠ w.heap.size + 1; omega) (.int .u64 (x 3))).far (p := ⟨w.heap.size + 1, 4, none⟩) (by show w.heap.size + 1 + 1 + 1 ≠ w.heap.size + 1; omega) (.bool false)) (And.intro (((((HD.out.2.1.set 0 (.int .u64 (x 0))).set 1 (.int .u64 (x 1))).set 2 (.int .u64 (x 2))).set 3 (.int .u64 (x 3))).set 4 (.bool false)) (And.intro (((((HD.out.2.2.1.far (p := ⟨w.heap.size + 1, 0, none⟩) (by show w.heap.size + 1 + 1 ≠ w.heap.size + 1; omega) (.int .u64 (x 0))).far (p := ⟨w.heap.size + 1, 1, none⟩) (by show w.heap.size + 1 + 1 ≠ w.heap.size + 1; omega) (.int .u64 (x 1))).far (p := ⟨w.heap.size + 1, 2, none⟩) (by show w.heap.size + 1 + 1 ≠ w.heap.size + 1; omega) (.int .u64 (x 2))).far (p := ⟨w.heap.size + 1, 3, none⟩) (by show w.heap.size + 1 + 1 ≠ w.heap.size + 1; omega) (.int .u64 (x 3))).far (p := ⟨w.heap.size + 1, 4, none⟩) (by show w.heap.size + 1 + 1 ≠ w.heap.size + 1; omega) (.bool false)) (((((HD.out.2.2.2.setCell (p := ⟨w.heap.size + 1, 0, none⟩) (by show w.heap.size ≤ w.heap.size + 1; omega) (.int .u64 (x 0))).setCell (p := ⟨w.heap.size + 1, 1, none⟩) (by show w.heap.size ≤ w.heap.size + 1; omega) (.int .u64 (x 1))).setCell (p := ⟨w.heap.size + 1, 2, none⟩) (by show w.heap.size ≤ w.heap.size + 1; omega) (.int .u64 (x 2))).setCell (p := ⟨w.heap.size + 1, 3, none⟩) (by show w.heap.size ≤ w.heap.size + 1; omega) (.int .u64 (x 3))).setCell (p := ⟨w.heap.size + 1, 4, none⟩) (by show w.heap.size ≤ w.heap.size + 1; omega) (.bool false)))))
  clear a0 a1 a2 a3 a4 za HD hS
  generalize (((((w1.setCell ⟨w.heap.size + 1, 0, none⟩ (.int .u64 (x 0))).setCell ⟨w.heap.size + 1, 1, none⟩ (.int .u64 (x 1))).setCell ⟨w.heap.size + 1, 2, none⟩ (.int .u64 (x 2))).setCell ⟨w.heap.size + 1, 3, none⟩ (.int .u64 (x 3))).setCell ⟨w.heap.size + 1, 4, none⟩ (.bool false)) = w2 at *
  have hS : (fun w' => w'.cell? ⟨w.heap.size + 1 + 1 + 1, 0, none⟩ = some (.int .u64 (x 0)) ∧ w'.cell? ⟨w.heap.size + 1 + 1 + 1, 1, none⟩ = some (.int .u64 (x 1)) ∧ w'.cell? ⟨w.heap.size + 1 + 1 + 1, 2, none⟩ = some (.int .u64 (x 2)) ∧ w'.cell? ⟨w.heap.size + 1 + 1 + 1, 3, none⟩ = some (.int .u64 (x 3))) w2 := ⟨H2.out.1.cell 0 rfl, H2.out.1.cell 1 rfl, H2.out.1.cell 2 rfl, H2.out.1.cell 3 rfl⟩
  refine hK.out _ _ (.inr hS) ?_
  clear hK K
  try simp only [Act.put, List.setIfInBounds_toArray, List.set_cons_zero, List.set_cons_succ]
  have b0 := H2.out.2.2.1.cell 0 rfl
  have b1 := H2.out.2.2.1.cell 1 rfl
  have b2 := H2.out.2.2.1.cell 2 rfl
  have b3 := H2.out.2.2.1.cell 3 rfl
  have b4 := H2.out.2.2.1.cell 4 rfl
  have zb := H2.out.2.2.1.frozen
  refine z1 (i := 10) (by kernel_rfl) rfl (fun K hK => ?_)
  go_simp
  refine hK.out _ _ (.inl rfl) ?_
  clear hK K
  refine wpAnyZ_done (by kernel_rfl) ?_ _
  go_wp2
  have hA3 := (((((H2.out.2.1.far (p := ⟨w.heap.size + 1 + 1, 0, none⟩) (by show w.heap.size + 1 ≠ w.heap.size + 1 + 1; omega) (.int .u64 (x 2))).far (p := ⟨w.heap.size + 1 + 1, 1, none⟩) (by show w.heap.size + 1 ≠ w.heap.size + 1 + 1; omega) (.int .u64 (x 3))).far (p := ⟨w.heap.size + 1 + 1, 2, none⟩) (by show w.heap.size + 1 ≠ w.heap.size + 1 + 1; omega) (.int .u64 0)).far (p := ⟨w.heap.size + 1 + 1, 3, none⟩) (by show w.heap.size + 1 ≠ w.heap.size + 1 + 1; omega) (.int .u64 0)).far (p := ⟨w.heap.size + 1 + 1, 4, none⟩) (by show w.heap.size + 1 ≠ w.heap.size + 1 + 1; omega) (.bool true))
  have hB3 := (((((H2.out.2.2.1.set 0 (.int .u64 (x 2))).set 1 (.int .u64 (x 3))).set 2 (.int .u64 0)).set 3 (.int .u64 0)).set 4 (.bool true))
  have p0 := hA3.cell 0 rfl
  have q0 := hB3.cell 0 rfl
  have p1 := hA3.cell 1 rfl
  have q1 := hB3.cell 1 rfl
  have p2 := hA3.cell 2 rfl
  have q2 := hB3.cell 2 rfl
  have p3 := hA3.cell 3 rfl
  have q3 := hB3.cell 3 rfl
  have p4 := hA3.cell 4 rfl
  have q4 := hB3.cell 4 rfl
  exact bodyPost_ret (v := .tuple #[otv (x 0) (x 1) (x 2) (x 3) false, otv (x 2) (x 3) 0 0 true]) (by simp [results, Tryd.results59, go_sem, p0, q0, p1, q1, p2, q2, p3, q3, p4, q4]) rfl
    ⟨rfl, (((((H2.out.2.2.2.setCell (p := ⟨w.heap.size + 1 + 1, 0, none⟩) (by show w.heap.size ≤ w.heap.size + 1 + 1; omega) (.int .u64 (x 2))).setCell (p := ⟨w.heap.size + 1 + 1, 1, none⟩) (by show w.heap.size ≤ w.heap.size + 1 + 1; omega) (.int .u64 (x 3))).setCell (p := ⟨w.heap.size + 1 + 1, 2, none⟩) (by show w.heap.size ≤ w.heap.size + 1 + 1; omega) (.int .u64 0)).setCell (p := ⟨w.heap.size + 1 + 1, 3, none⟩) (by show w.heap.size ≤ w.heap.size + 1 + 1; omega) (.int .u64 0)).setCell (p := ⟨w.heap.size + 1 + 1, 4, none⟩) (by show w.heap.size ≤ w.heap.size + 1 + 1; omega) (.bool true))⟩
end Go.Proofs.YtamejhhjfnfalaaDoor.Co

/- Piles in memory; the contracts of pile's take. -/
namespace Go.Proofs.YtamejhhjfnfalaaDoor.Co
open Go.RowKit

/-- A pile of n things, its cells in block b. -/
def PilT (w : World) (b : Nat) (v : Value) (n : Nat) (y : Nat → Nat → Int) : Prop :=
  ∃ o cap cur, v = .slice (some ⟨b, o, none⟩) n cap ∧ Blk w b 111 cur ∧ n ≤ cap ∧ cap ≤ maxLen ∧ o + cap * 3 ≤ cur.size ∧ ∀ i, i < n → cur[o + i * 3 + 0]? = some (.int .u64 (y i 0)) ∧ cur[o + i * 3 + 1]? = some (.int .u64 (y i 1)) ∧ cur[o + i * 3 + 2]? = some (.int .u64 (y i 2))
section
variable {w w' : World} {b : Nat} {v : Value} {n : Nat} {y : Nat → Nat → Int}
theorem PilT.heap (h : PilT w b v n y) (hb : w'.heap[b]? = w.heap[b]?) : PilT w' b v n y := by
  obtain ⟨o, cap, cur, h1, h2, h3⟩ := h
  exact ⟨o, cap, cur, h1, hb.trans h2, h3⟩
theorem PilT.lt (h : PilT w b v n y) : b < w.heap.size := by
  obtain ⟨o, cap, cur, h1, h2, h3⟩ := h
  exact h2.lt
theorem PilT.chg {S : Nat → Prop} (h : PilT w b v n y) (hc : Chg S w w') (hs : ¬ S b) : PilT w' b v n y := h.heap (hc.block b h.lt hs)
theorem PilT.blk (h : PilT w b v n y) : ∃ cur, Blk w b 111 cur := by
  obtain ⟨o, cap, cur, h1, h2, h3⟩ := h
  exact ⟨cur, h2⟩
theorem PilT.slice (h : PilT w b v n y) : ∃ A cap, v = .slice A n cap := by
  obtain ⟨o, cap, cur, h1, h2, h3⟩ := h
  exact ⟨_, _, h1⟩
end
theorem elemT : Tryd.prog.elem 116 = 111 := by kernel_rfl
theorem undT : Tryd.prog.underlying 116 = some (.slice (Tryd.prog.elem 116)) := by rw [elemT]; exact Tryd.underlying116
theorem sizeT (w : World) : (sizeOf (Tryd.prog.elem 116)).run Tryd.prog w = .ok 3 w := by
  rw [elemT]
  have h : (Tryd.prog.info? 111).map (·.size) = some 3 := by kernel_rfl
  cases hq : Tryd.prog.info? 111 with
  | none => simp [hq] at h
  | some i =>
    rw [hq] at h
    simp at h
    simp [sizeOf, typeInfo, hq, h]
def tlT (b o cap : Nat) : Addr := if cap = 1 then ⟨b, o, none⟩ else ⟨b, o + 3, none⟩
theorem run_tailT (w : World) (b o n cap : Nat) :
    (Instr.slice 116 (.slice (some ⟨b, o, none⟩) (n + 1) cap) (some (.int .i64 1)) none none).run Tryd.prog w = .ok (.slice (some (tlT b o cap)) n (cap - 1)) w := by
  have hr := run_slice_l w 116 (some ⟨b, o, none⟩) (n + 1) cap undT .i64 1 (by omega) (by omega)
  rw [sizeT] at hr
  rw [hr]
  unfold tlT
  by_cases h : cap = 1
  · subst h
    simp [Result.andThen, sliced]
  · simp [Result.andThen, sliced, h, Addr.add]
/-- What is left behind a take. -/
theorem PilT.cut {w' : World} {b o cap n : Nat} {cur cur' : Array Value} {y : Nat → Nat → Int} (h3 : n + 1 ≤ cap) (h4 : cap ≤ maxLen) (h5 : o + cap * 3 ≤ cur.size) (h6 : ∀ i, i < n + 1 → cur[o + i * 3 + 0]? = some (.int .u64 (y i 0)) ∧ cur[o + i * 3 + 1]? = some (.int .u64 (y i 1)) ∧ cur[o + i * 3 + 2]? = some (.int .u64 (y i 2)))
    (hw : Blk w' b 111 cur') (hs : cur'.size = cur.size) (he : ∀ q, o + 3 ≤ q → cur'[q]? = cur[q]?) : PilT w' b (.slice (some (tlT b o cap)) n (cap - 1)) n (fun i => y (i + 1)) := by
  unfold tlT
  by_cases h : cap = 1
  · subst h
    obtain rfl : n = 0 := by omega
    exact ⟨o, 0, cur', by simp, hw, Nat.le_refl _, Nat.zero_le _, by omega, fun i hi => absurd hi (by omega)⟩
  · refine ⟨o + 3, cap - 1, cur', by rw [if_neg h], hw, by omega, by omega, by omega, fun i hi => ?_⟩
    have := h6 (i + 1) (by omega)
    refine ⟨?_, ?_, ?_⟩
    · rw [he _ (by omega), show o + 3 + i * 3 + 0 = o + (i + 1) * 3 + 0 by omega]; exact this.1
    · rw [he _ (by omega), show o + 3 + i * 3 + 1 = o + (i + 1) * 3 + 1 by omega]; exact this.2.1
    · rw [he _ (by omega), show o + 3 + i * 3 + 2 = o + (i + 1) * 3 + 2 by omega]; exact this.2.2
/-- A pile of n things, its cells in block b. -/
def PilO (w : World) (b : Nat) (v : Value) (n : Nat) (y : Nat → Nat → Int) (c : Nat → Bool) : Prop :=
  ∃ o cap cur, v = .slice (some ⟨b, o, none⟩) n cap ∧ Blk w b 71 cur ∧ n ≤ cap ∧ cap ≤ maxLen ∧ o + cap * 5 ≤ cur.size ∧ ∀ i, i < n → cur[o + i * 5 + 0]? = some (.int .u64 (y i 0)) ∧ cur[o + i * 5 + 1]? = some (.int .u64 (y i 1)) ∧ cur[o + i * 5 + 2]? = some (.int .u64 (y i 2)) ∧ cur[o + i * 5 + 3]? = some (.int .u64 (y i 3)) ∧ cur[o + i * 5 + 4]? = some (.bool (c i))
section
variable {w w' : World} {b : Nat} {v : Value} {n : Nat} {y : Nat → Nat → Int} {c : Nat → Bool}
theorem PilO.heap (h : PilO w b v n y c) (hb : w'.heap[b]? = w.heap[b]?) : PilO w' b v n y c := by
  obtain ⟨o, cap, cur, h1, h2, h3⟩ := h
  exact ⟨o, cap, cur, h1, hb.trans h2, h3⟩
theorem PilO.lt (h : PilO w b v n y c) : b < w.heap.size := by
  obtain ⟨o, cap, cur, h1, h2, h3⟩ := h
  exact h2.lt
theorem PilO.chg {S : Nat → Prop} (h : PilO w b v n y c) (hc : Chg S w w') (hs : ¬ S b) : PilO w' b v n y c := h.heap (hc.block b h.lt hs)
theorem PilO.blk (h : PilO w b v n y c) : ∃ cur, Blk w b 71 cur := by
  obtain ⟨o, cap, cur, h1, h2, h3⟩ := h
  exact ⟨cur, h2⟩
theorem PilO.slice (h : PilO w b v n y c) : ∃ A cap, v = .slice A n cap := by
  obtain ⟨o, cap, cur, h1, h2, h3⟩ := h
  exact ⟨_, _, h1⟩
end
theorem elemO : Tryd.prog.elem 68 = 71 := by kernel_rfl
theorem undO : Tryd.prog.underlying 68 = some (.slice (Tryd.prog.elem 68)) := by rw [elemO]; exact Tryd.underlying68
theorem sizeO (w : World) : (sizeOf (Tryd.prog.elem 68)).run Tryd.prog w = .ok 5 w := by
  rw [elemO]
  have h : (Tryd.prog.info? 71).map (·.size) = some 5 := by kernel_rfl
  cases hq : Tryd.prog.info? 71 with
  | none => simp [hq] at h
  | some i =>
    rw [hq] at h
    simp at h
    simp [sizeOf, typeInfo, hq, h]
def tlO (b o cap : Nat) : Addr := if cap = 1 then ⟨b, o, none⟩ else ⟨b, o + 5, none⟩
theorem run_tailO (w : World) (b o n cap : Nat) :
    (Instr.slice 68 (.slice (some ⟨b, o, none⟩) (n + 1) cap) (some (.int .i64 1)) none none).run Tryd.prog w = .ok (.slice (some (tlO b o cap)) n (cap - 1)) w := by
  have hr := run_slice_l w 68 (some ⟨b, o, none⟩) (n + 1) cap undO .i64 1 (by omega) (by omega)
  rw [sizeO] at hr
  rw [hr]
  unfold tlO
  by_cases h : cap = 1
  · subst h
    simp [Result.andThen, sliced]
  · simp [Result.andThen, sliced, h, Addr.add]
/-- What is left behind a take. -/
theorem PilO.cut {w' : World} {b o cap n : Nat} {cur cur' : Array Value} {y : Nat → Nat → Int} {c : Nat → Bool} (h3 : n + 1 ≤ cap) (h4 : cap ≤ maxLen) (h5 : o + cap * 5 ≤ cur.size) (h6 : ∀ i, i < n + 1 → cur[o + i * 5 + 0]? = some (.int .u64 (y i 0)) ∧ cur[o + i * 5 + 1]? = some (.int .u64 (y i 1)) ∧ cur[o + i * 5 + 2]? = some (.int .u64 (y i 2)) ∧ cur[o + i * 5 + 3]? = some (.int .u64 (y i 3)) ∧ cur[o + i * 5 + 4]? = some (.bool (c i)))
    (hw : Blk w' b 71 cur') (hs : cur'.size = cur.size) (he : ∀ q, o + 5 ≤ q → cur'[q]? = cur[q]?) : PilO w' b (.slice (some (tlO b o cap)) n (cap - 1)) n (fun i => y (i + 1)) (fun i => c (i + 1)) := by
  unfold tlO
  by_cases h : cap = 1
  · subst h
    obtain rfl : n = 0 := by omega
    exact ⟨o, 0, cur', by simp, hw, Nat.le_refl _, Nat.zero_le _, by omega, fun i hi => absurd hi (by omega)⟩
  · refine ⟨o + 5, cap - 1, cur', by rw [if_neg h], hw, by omega, by omega, by omega, fun i hi => ?_⟩
    have := h6 (i + 1) (by omega)
    refine ⟨?_, ?_, ?_, ?_, ?_⟩
    · rw [he _ (by omega), show o + 5 + i * 5 + 0 = o + (i + 1) * 5 + 0 by omega]; exact this.1
    · rw [he _ (by omega), show o + 5 + i * 5 + 1 = o + (i + 1) * 5 + 1 by omega]; exact this.2.1
    · rw [he _ (by omega), show o + 5 + i * 5 + 2 = o + (i + 1) * 5 + 2 by omega]; exact this.2.2.1
    · rw [he _ (by omega), show o + 5 + i * 5 + 3 = o + (i + 1) * 5 + 3 by omega]; exact this.2.2.2.1
    · rw [he _ (by omega), show o + 5 + i * 5 + 4 = o + (i + 1) * 5 + 4 by omega]; exact this.2.2.2.2
set_option maxHeartbeats 4000000 in
set_option maxRecDepth 100000 in
theorem takeO_some (w : World) (g j b : Nat) (cs : Array Value) (v : Value) (n : Nat) (y : Nat → Nat → Int) (c : Nat → Bool) (name : ByteArray) (hs : Blk w g 122 cs) (hj : cs[j]? = some v) (hp : PilO w b v (n + 1) y c) :
    Calls Tryd.prog 61 #[.pointer (some ⟨g, j, none⟩), .string name] w fun e w' => e = .returned (.tuple #[.agg #[.int .u64 (y 0 0), .int .u64 (y 0 1), .int .u64 (y 0 2), .int .u64 (y 0 3), .bool (c 0)], .nilIface]) ∧ ∃ v', Blk w' g 122 (cs.setIfInBounds j v') ∧ PilO w' b v' n (fun i => y (i + 1)) (fun i => c (i + 1)) ∧ Chg (fun q => q = g ∨ q = b) w w' := by
  obtain ⟨o, cap, cur, rfl, hb, h3, h4, h5, h6⟩ := hp
  have hgb : g ≠ b := fun e => by
    subst e
    have := hs.symm.trans hb
    injection this with this
    injection this with _ e2
    exact absurd e2 (by decide)
  have hjs : j < cs.size := (Array.getElem?_eq_some_iff.1 hj).1
  have e0 := h6 0 (by omega)
  simp only [Nat.zero_mul, Nat.add_zero] at e0
  have hlg := hs.lt
  have hlb := hb.lt
  have cg : ((w.alloc (.cells #[.int .u64 0, .int .u64 0, .int .u64 0, .int .u64 0, .bool false] 71)).alloc (.cells #[.int .u64 0, .int .u64 0, .int .u64 0, .int .u64 0, .bool false] 71)).cell? ⟨g, j, none⟩ = some (.slice (some ⟨b, o, none⟩) (n + 1) cap) := ((hs.alloc _).alloc _).cell j hj
  have cb0 : ((w.alloc (.cells #[.int .u64 0, .int .u64 0, .int .u64 0, .int .u64 0, .bool false] 71)).alloc (.cells #[.int .u64 0, .int .u64 0, .int .u64 0, .int .u64 0, .bool false] 71)).cell? ⟨b, o, none⟩ = some (.int .u64 (y 0 0)) := ((hb.alloc _).alloc _).cell (o) e0.1
  have cb1 : ((w.alloc (.cells #[.int .u64 0, .int .u64 0, .int .u64 0, .int .u64 0, .bool false] 71)).alloc (.cells #[.int .u64 0, .int .u64 0, .int .u64 0, .int .u64 0, .bool false] 71)).cell? ⟨b, o + 1, none⟩ = some (.int .u64 (y 0 1)) := ((hb.alloc _).alloc _).cell (o + 1) e0.2.1
  have cb2 : ((w.alloc (.cells #[.int .u64 0, .int .u64 0, .int .u64 0, .int .u64 0, .bool false] 71)).alloc (.cells #[.int .u64 0, .int .u64 0, .int .u64 0, .int .u64 0, .bool false] 71)).cell? ⟨b, o + 2, none⟩ = some (.int .u64 (y 0 2)) := ((hb.alloc _).alloc _).cell (o + 2) e0.2.2.1
  have cb3 : ((w.alloc (.cells #[.int .u64 0, .int .u64 0, .int .u64 0, .int .u64 0, .bool false] 71)).alloc (.cells #[.int .u64 0, .int .u64 0, .int .u64 0, .int .u64 0, .bool false] 71)).cell? ⟨b, o + 3, none⟩ = some (.int .u64 (y 0 3)) := ((hb.alloc _).alloc _).cell (o + 3) e0.2.2.2.1
  have cb4 : ((w.alloc (.cells #[.int .u64 0, .int .u64 0, .int .u64 0, .int .u64 0, .bool false] 71)).alloc (.cells #[.int .u64 0, .int .u64 0, .int .u64 0, .int .u64 0, .bool false] 71)).cell? ⟨b, o + 4, none⟩ = some (.bool (c 0)) := ((hb.alloc _).alloc _).cell (o + 4) e0.2.2.2.2
  have l1 : (0 : Int) < (n : Int) + 1 := by omega
  have l2 : ¬ ((n : Int) + 1 = 0) := by omega
  have hR : Blk (((w.alloc (.cells #[.int .u64 0, .int .u64 0, .int .u64 0, .int .u64 0, .bool false] 71)).alloc (.cells #[.int .u64 0, .int .u64 0, .int .u64 0, .int .u64 0, .bool false] 71)).alloc (.cells #[.int .u64 (y 0 0), .int .u64 (y 0 1), .int .u64 (y 0 2), .int .u64 (y 0 3), .bool (c 0)] 71)) w.heap.size 71 #[.int .u64 0, .int .u64 0, .int .u64 0, .int .u64 0, .bool false] := ((Blk.new w _ _).alloc _).alloc _
  have hN : Blk (((w.alloc (.cells #[.int .u64 0, .int .u64 0, .int .u64 0, .int .u64 0, .bool false] 71)).alloc (.cells #[.int .u64 0, .int .u64 0, .int .u64 0, .int .u64 0, .bool false] 71)).alloc (.cells #[.int .u64 (y 0 0), .int .u64 (y 0 1), .int .u64 (y 0 2), .int .u64 (y 0 3), .bool (c 0)] 71)) (w.heap.size + 1) 71 #[.int .u64 0, .int .u64 0, .int .u64 0, .int .u64 0, .bool false] := by
    have := (Blk.new (w.alloc (.cells #[.int .u64 0, .int .u64 0, .int .u64 0, .int .u64 0, .bool false] 71)) 71 #[.int .u64 0, .int .u64 0, .int .u64 0, .int .u64 0, .bool false]).alloc (.cells #[.int .u64 (y 0 0), .int .u64 (y 0 1), .int .u64 (y 0 2), .int .u64 (y 0 3), .bool (c 0)] 71)
    rwa [World.size_alloc] at this
  have hX : Blk (((w.alloc (.cells #[.int .u64 0, .int .u64 0, .int .u64 0, .int .u64 0, .bool false] 71)).alloc (.cells #[.int .u64 0, .int .u64 0, .int .u64 0, .int .u64 0, .bool false] 71)).alloc (.cells #[.int .u64 (y 0 0), .int .u64 (y 0 1), .int .u64 (y 0 2), .int .u64 (y 0 3), .bool (c 0)] 71)) (w.heap.size + 1 + 1) 71 #[.int .u64 (y 0 0), .int .u64 (y 0 1), .int .u64 (y 0 2), .int .u64 (y 0 3), .bool (c 0)] := by
    have := Blk.new ((w.alloc (.cells #[.int .u64 0, .int .u64 0, .int .u64 0, .int .u64 0, .bool false] 71)).alloc (.cells #[.int .u64 0, .int .u64 0, .int .u64 0, .int .u64 0, .bool false] 71)) 71 #[.int .u64 (y 0 0), .int .u64 (y 0 1), .int .u64 (y 0 2), .int .u64 (y 0 3), .bool (c 0)]
    rwa [World.size_alloc, World.size_alloc] at this
  have hC : Chg (fun q => q = g ∨ q = b) w (((w.alloc (.cells #[.int .u64 0, .int .u64 0, .int .u64 0, .int .u64 0, .bool false] 71)).alloc (.cells #[.int .u64 0, .int .u64 0, .int .u64 0, .int .u64 0, .bool false] 71)).alloc (.cells #[.int .u64 (y 0 0), .int .u64 (y 0 1), .int .u64 (y 0 2), .int .u64 (y 0 3), .bool (c 0)] 71)) := (((Chg.refl _ w).alloc _).alloc _).alloc _
  have HD := Lib.hid (And.intro hR (And.intro hN (And.intro hX (And.intro (((hs.alloc _).alloc _).alloc _ : Blk (((w.alloc (.cells #[.int .u64 0, .int .u64 0, .int .u64 0, .int .u64 0, .bool false] 71)).alloc (.cells #[.int .u64 0, .int .u64 0, .int .u64 0, .int .u64 0, .bool false] 71)).alloc (.cells #[.int .u64 (y 0 0), .int .u64 (y 0 1), .int .u64 (y 0 2), .int .u64 (y 0 3), .bool (c 0)] 71)) g _ cs) (And.intro (((hb.alloc _).alloc _).alloc _ : Blk (((w.alloc (.cells #[.int .u64 0, .int .u64 0, .int .u64 0, .int .u64 0, .bool false] 71)).alloc (.cells #[.int .u64 0, .int .u64 0, .int .u64 0, .int .u64 0, .bool false] 71)).alloc (.cells #[.int .u64 (y 0 0), .int .u64 (y 0 1), .int .u64 (y 0 2), .int .u64 (y 0 3), .bool (c 0)] 71)) b _ cur) hC)))))
  have HP := Lib.hid (And.intro h3 (And.intro h4 (And.intro h5 (And.intro h6 (And.intro hj (And.intro hjs hgb))))))
  have HE := Lib.hid e0
  clear hR hN hX hC hs hb h3 h4 h5 h6 e0 hj hjs
  go_enter Tryd.func61, Tryd.ntmps61
  go_wp2
  clear cg cb0 cb1 cb2 cb3 cb4 hgb
  generalize (((w.alloc (.cells #[.int .u64 0, .int .u64 0, .int .u64 0, .int .u64 0, .bool false] 71)).alloc (.cells #[.int .u64 0, .int .u64 0, .int .u64 0, .int .u64 0, .bool false] 71)).alloc (.cells #[.int .u64 (y 0 0), .int .u64 (y 0 1), .int .u64 (y 0 2), .int .u64 (y 0 3), .bool (c 0)] 71)) = w0 at *
  have cg := HD.out.2.2.2.1.cell j HP.out.2.2.2.2.1
  have n0 := HD.out.2.1.cell 0 rfl
  have n1 := HD.out.2.1.cell 1 rfl
  have n2 := HD.out.2.1.cell 2 rfl
  have n3 := HD.out.2.1.cell 3 rfl
  have n4 := HD.out.2.1.cell 4 rfl
  go_still_tail 6, (by kernel_rfl)
  change wpList _ _ _ _ _ (World.drew _)
  have H1 := Lib.hid (And.intro HD.out.1.drew (And.intro HD.out.2.1.drew (And.intro HD.out.2.2.1.drew (And.intro HD.out.2.2.2.1.drew (And.intro HD.out.2.2.2.2.1.drew HD.out.2.2.2.2.2.drew)))))
  clear HD cg n0 n1 n2 n3 n4
  generalize w0.drew = w1 at *
  have e0 := HE.out
  have cb0 : w1.cell? ⟨b, o, none⟩ = some (.int .u64 (y 0 0)) := H1.out.2.2.2.2.1.cell (o) e0.1
  have cb1 : w1.cell? ⟨b, o + 1, none⟩ = some (.int .u64 (y 0 1)) := H1.out.2.2.2.2.1.cell (o + 1) e0.2.1
  have cb2 : w1.cell? ⟨b, o + 2, none⟩ = some (.int .u64 (y 0 2)) := H1.out.2.2.2.2.1.cell (o + 2) e0.2.2.1
  have cb3 : w1.cell? ⟨b, o + 3, none⟩ = some (.int .u64 (y 0 3)) := H1.out.2.2.2.2.1.cell (o + 3) e0.2.2.2.1
  have cb4 : w1.cell? ⟨b, o + 4, none⟩ = some (.bool (c 0)) := H1.out.2.2.2.2.1.cell (o + 4) e0.2.2.2.2
  clear e0
  have cg := H1.out.2.2.2.1.cell j HP.out.2.2.2.2.1
  have zg := H1.out.2.2.2.1.frozen j
  have zb := H1.out.2.2.2.2.1.frozen
  have hgb := HP.out.2.2.2.2.2.2
  have hbg : b ≠ g := fun e => hgb e.symm
  have hsl := fun wx => run_tailO wx b o n cap
  have H3 := Lib.hid (And.intro ((((((H1.out.1.far (p := ⟨b, o, none⟩) (by show w.heap.size ≠ b; omega) (.int .u64 0)).far (p := ⟨b, o + 1, none⟩) (by show w.heap.size ≠ b; omega) (.int .u64 0)).far (p := ⟨b, o + 2, none⟩) (by show w.heap.size ≠ b; omega) (.int .u64 0)).far (p := ⟨b, o + 3, none⟩) (by show w.heap.size ≠ b; omega) (.int .u64 0)).far (p := ⟨b, o + 4, none⟩) (by show w.heap.size ≠ b; omega) (.bool false)).far (p := ⟨g, j, none⟩) (by show w.heap.size ≠ g; omega) (.slice (some (tlO b o cap)) n (cap - 1))) (And.intro ((((((H1.out.2.2.1.far (p := ⟨b, o, none⟩) (by show w.heap.size + 1 + 1 ≠ b; omega) (.int .u64 0)).far (p := ⟨b, o + 1, none⟩) (by show w.heap.size + 1 + 1 ≠ b; omega) (.int .u64 0)).far (p := ⟨b, o + 2, none⟩) (by show w.heap.size + 1 + 1 ≠ b; omega) (.int .u64 0)).far (p := ⟨b, o + 3, none⟩) (by show w.heap.size + 1 + 1 ≠ b; omega) (.int .u64 0)).far (p := ⟨b, o + 4, none⟩) (by show w.heap.size + 1 + 1 ≠ b; omega) (.bool false)).far (p := ⟨g, j, none⟩) (by show w.heap.size + 1 + 1 ≠ g; omega) (.slice (some (tlO b o cap)) n (cap - 1))) (And.intro ((((((H1.out.2.2.2.1.far (p := ⟨b, o, none⟩) (hgb) (.int .u64 0)).far (p := ⟨b, o + 1, none⟩) (hgb) (.int .u64 0)).far (p := ⟨b, o + 2, none⟩) (hgb) (.int .u64 0)).far (p := ⟨b, o + 3, none⟩) (hgb) (.int .u64 0)).far (p := ⟨b, o + 4, none⟩) (hgb) (.bool false)).set j (.slice (some (tlO b o cap)) n (cap - 1))) (And.intro ((((((H1.out.2.2.2.2.1.set (o) (.int .u64 0)).set (o + 1) (.int .u64 0)).set (o + 2) (.int .u64 0)).set (o + 3) (.int .u64 0)).set (o + 4) (.bool false)).far (p := ⟨g, j, none⟩) hbg (.slice (some (tlO b o cap)) n (cap - 1))) ((((((H1.out.2.2.2.2.2.set (p := ⟨b, o, none⟩) (.inr (.inr rfl)) (.int .u64 0)).set (p := ⟨b, o + 1, none⟩) (.inr (.inr rfl)) (.int .u64 0)).set (p := ⟨b, o + 2, none⟩) (.inr (.inr rfl)) (.int .u64 0)).set (p := ⟨b, o + 3, none⟩) (.inr (.inr rfl)) (.int .u64 0)).set (p := ⟨b, o + 4, none⟩) (.inr (.inr rfl)) (.bool false)).set (p := ⟨g, j, none⟩) (.inr (.inl rfl)) (.slice (some (tlO b o cap)) n (cap - 1)))))))
  have x0 := H3.out.2.1.cell 0 rfl
  have r0 := H3.out.1.cell 0 rfl
  have x1 := H3.out.2.1.cell 1 rfl
  have r1 := H3.out.1.cell 1 rfl
  have x2 := H3.out.2.1.cell 2 rfl
  have r2 := H3.out.1.cell 2 rfl
  have x3 := H3.out.2.1.cell 3 rfl
  have r3 := H3.out.1.cell 3 rfl
  have x4 := H3.out.2.1.cell 4 rfl
  have r4 := H3.out.1.cell 4 rfl
  have zr := H3.out.1.frozen
  go_wp2
  have hR4 := (((((H3.out.1.set 0 (.int .u64 (y 0 0))).set 1 (.int .u64 (y 0 1))).set 2 (.int .u64 (y 0 2))).set 3 (.int .u64 (y 0 3))).set 4 (.bool (c 0)))
  have p0 := hR4.cell 0 rfl
  have p1 := hR4.cell 1 rfl
  have p2 := hR4.cell 2 rfl
  have p3 := hR4.cell 3 rfl
  have p4 := hR4.cell 4 rfl
  refine bodyPost_ret (v := .tuple #[.agg #[.int .u64 (y 0 0), .int .u64 (y 0 1), .int .u64 (y 0 2), .int .u64 (y 0 3), .bool (c 0)], .nilIface]) (by simp [results, Tryd.results61, go_sem, p0, p1, p2, p3, p4]) rfl ⟨rfl, .slice (some (tlO b o cap)) n (cap - 1), (((((H3.out.2.2.1.far (p := ⟨w.heap.size, 0, none⟩) (by show g ≠ w.heap.size; omega) (.int .u64 (y 0 0))).far (p := ⟨w.heap.size, 1, none⟩) (by show g ≠ w.heap.size; omega) (.int .u64 (y 0 1))).far (p := ⟨w.heap.size, 2, none⟩) (by show g ≠ w.heap.size; omega) (.int .u64 (y 0 2))).far (p := ⟨w.heap.size, 3, none⟩) (by show g ≠ w.heap.size; omega) (.int .u64 (y 0 3))).far (p := ⟨w.heap.size, 4, none⟩) (by show g ≠ w.heap.size; omega) (.bool (c 0))), ?_, (((((H3.out.2.2.2.2.set (p := ⟨w.heap.size, 0, none⟩) (.inl (Nat.le_refl _)) (.int .u64 (y 0 0))).set (p := ⟨w.heap.size, 1, none⟩) (.inl (Nat.le_refl _)) (.int .u64 (y 0 1))).set (p := ⟨w.heap.size, 2, none⟩) (.inl (Nat.le_refl _)) (.int .u64 (y 0 2))).set (p := ⟨w.heap.size, 3, none⟩) (.inl (Nat.le_refl _)) (.int .u64 (y 0 3))).set (p := ⟨w.heap.size, 4, none⟩) (.inl (Nat.le_refl _)) (.bool (c 0)))⟩
  refine PilO.cut HP.out.1 HP.out.2.1 HP.out.2.2.1 HP.out.2.2.2.1 ((((((H3.out.2.2.2.1.far (p := ⟨w.heap.size, 0, none⟩) (by show b ≠ w.heap.size; omega) (.int .u64 (y 0 0))).far (p := ⟨w.heap.size, 1, none⟩) (by show b ≠ w.heap.size; omega) (.int .u64 (y 0 1))).far (p := ⟨w.heap.size, 2, none⟩) (by show b ≠ w.heap.size; omega) (.int .u64 (y 0 2))).far (p := ⟨w.heap.size, 3, none⟩) (by show b ≠ w.heap.size; omega) (.int .u64 (y 0 3))).far (p := ⟨w.heap.size, 4, none⟩) (by show b ≠ w.heap.size; omega) (.bool (c 0)))) (by simp) (fun q hq => ?_)
  simp only [Array.getElem?_setIfInBounds]
  rw [if_neg (by omega), if_neg (by omega), if_neg (by omega), if_neg (by omega), if_neg (by omega)]
set_option maxHeartbeats 4000000 in
set_option maxRecDepth 100000 in
theorem takeO_none (w : World) (g j : Nat) (cs : Array Value) (A : Option Addr) (cap : Nat) (name : ByteArray) (hs : Blk w g 122 cs) (hj : cs[j]? = some (.slice A 0 cap)) (hh : Handle w) :
    Calls Tryd.prog 61 #[.pointer (some ⟨g, j, none⟩), .string name] w fun e w' => e = .returned (.tuple #[.agg #[.int .u64 0, .int .u64 0, .int .u64 0, .int .u64 0, .bool false], chain [(name, 0)] 80]) ∧ Below w.heap.size w w' := by
  have cg : ((w.alloc (.cells #[.int .u64 0, .int .u64 0, .int .u64 0, .int .u64 0, .bool false] 71)).alloc (.cells #[.int .u64 0, .int .u64 0, .int .u64 0, .int .u64 0, .bool false] 71)).cell? ⟨g, j, none⟩ = some (.slice A 0 cap) := ((hs.alloc _).alloc _).cell j hj
  have hR : Blk ((w.alloc (.cells #[.int .u64 0, .int .u64 0, .int .u64 0, .int .u64 0, .bool false] 71)).alloc (.cells #[.int .u64 0, .int .u64 0, .int .u64 0, .int .u64 0, .bool false] 71)) w.heap.size 71 #[.int .u64 0, .int .u64 0, .int .u64 0, .int .u64 0, .bool false] := (Blk.new w _ _).alloc _
  have hN : Blk ((w.alloc (.cells #[.int .u64 0, .int .u64 0, .int .u64 0, .int .u64 0, .bool false] 71)).alloc (.cells #[.int .u64 0, .int .u64 0, .int .u64 0, .int .u64 0, .bool false] 71)) (w.heap.size + 1) 71 #[.int .u64 0, .int .u64 0, .int .u64 0, .int .u64 0, .bool false] := by
    have := Blk.new (w.alloc (.cells #[.int .u64 0, .int .u64 0, .int .u64 0, .int .u64 0, .bool false] 71)) 71 #[.int .u64 0, .int .u64 0, .int .u64 0, .int .u64 0, .bool false]
    rwa [World.size_alloc] at this
  have hb : Below w.heap.size w ((w.alloc (.cells #[.int .u64 0, .int .u64 0, .int .u64 0, .int .u64 0, .bool false] 71)).alloc (.cells #[.int .u64 0, .int .u64 0, .int .u64 0, .int .u64 0, .bool false] 71)) := ((Below.refl _ w).alloc (Nat.le_refl _) _).alloc (by simp) _
  have HD := Lib.hid (And.intro hR.drew (And.intro hN.drew (And.intro hb.drew (hh.below hb.drew hh.pos))))
  clear hR hN hb hs hj hh
  go_enter Tryd.func61, Tryd.ntmps61
  go_wp2
  clear cg
  generalize ((w.alloc (.cells #[.int .u64 0, .int .u64 0, .int .u64 0, .int .u64 0, .bool false] 71)).alloc (.cells #[.int .u64 0, .int .u64 0, .int .u64 0, .int .u64 0, .bool false] 71)) = w0 at *
  refine region_z 5 (fun w' => w'.cell? ⟨w.heap.size + 1, 0, none⟩ = some (.int .u64 0) ∧ w'.cell? ⟨w.heap.size + 1, 1, none⟩ = some (.int .u64 0) ∧ w'.cell? ⟨w.heap.size + 1, 2, none⟩ = some (.int .u64 0) ∧ w'.cell? ⟨w.heap.size + 1, 3, none⟩ = some (.int .u64 0) ∧ w'.cell? ⟨w.heap.size + 1, 4, none⟩ = some (.bool false)) (by kernel_rfl) ?_
  generalize w0.drew = w1 at *
  have hS : (fun w' : World => w'.cell? ⟨w.heap.size + 1, 0, none⟩ = some (.int .u64 0) ∧ w'.cell? ⟨w.heap.size + 1, 1, none⟩ = some (.int .u64 0) ∧ w'.cell? ⟨w.heap.size + 1, 2, none⟩ = some (.int .u64 0) ∧ w'.cell? ⟨w.heap.size + 1, 3, none⟩ = some (.int .u64 0) ∧ w'.cell? ⟨w.heap.size + 1, 4, none⟩ = some (.bool false)) w1 := ⟨HD.out.2.1.cell 0 rfl, HD.out.2.1.cell 1 rfl, HD.out.2.1.cell 2 rfl, HD.out.2.1.cell 3 rfl, HD.out.2.1.cell 4 rfl⟩
  refine zt [5] (i := 0) rfl (.agg #[.int .u64 0, .int .u64 0, .int .u64 0, .int .u64 0, .bool false]) (by kernel_rfl) (by kernel_rfl) (by kernel_rfl) (by kernel_rfl) (fun _ _ _ h => h) hS (fun w' d => by obtain ⟨d0, d1, d2, d3, d4⟩ := d; go_simp) ?_
  try simp only [Act.put, List.setIfInBounds_toArray, List.set_cons_zero, List.set_cons_succ]
  refine zt [5] (i := 1) rfl (.iface 43 (.int .i64 80)) (by kernel_rfl) (by kernel_rfl) (by kernel_rfl) (by kernel_rfl) (fun _ _ _ h => h) hS (fun w' d => by go_simp) ?_
  try simp only [Act.put, List.setIfInBounds_toArray, List.set_cons_zero, List.set_cons_succ]
  refine zt [5] (i := 2) rfl (.string name) (by kernel_rfl) (by kernel_rfl) (by kernel_rfl) (by kernel_rfl) (fun _ _ _ h => h) hS (fun w' d => by go_simp) ?_
  try simp only [Act.put, List.setIfInBounds_toArray, List.set_cons_zero, List.set_cons_succ]
  refine z1 (i := 3) (by kernel_rfl) rfl (fun K hK => ?_)
  go_simp
  refine (wrap_bare 80 0 name w1 HD.out.2.2.2).mono ?_
  rintro e w2 ⟨rfl, hb2⟩
  have H2 := Lib.hid (And.intro (HD.out.1.below hb2) (And.intro (HD.out.2.1.below hb2) (HD.out.2.2.1.trans (hb2.mono HD.out.2.2.1.size))))
  obtain ⟨T0, v0, hT⟩ := chain_iface [(name, 0)] 80
  have HT := Lib.hid hT
  rw [hT]
  clear hb2 HD hS hT
  refine hK.out _ _ (.inr ⟨H2.out.2.1.cell 0 rfl, H2.out.2.1.cell 1 rfl, H2.out.2.1.cell 2 rfl, H2.out.2.1.cell 3 rfl, H2.out.2.1.cell 4 rfl⟩) ?_
  clear hK K
  try simp only [Act.put, List.setIfInBounds_toArray, List.set_cons_zero, List.set_cons_succ]
  have b0 := H2.out.1.cell 0 rfl
  have b1 := H2.out.1.cell 1 rfl
  have b2 := H2.out.1.cell 2 rfl
  have b3 := H2.out.1.cell 3 rfl
  have b4 := H2.out.1.cell 4 rfl
  have zb := H2.out.1.frozen
  refine z1 (i := 4) (by kernel_rfl) rfl (fun K hK => ?_)
  go_simp
  have H3 := Lib.hid (And.intro (((((H2.out.1.set 0 (.int .u64 0)).set 1 (.int .u64 0)).set 2 (.int .u64 0)).set 3 (.int .u64 0)).set 4 (.bool false)) (And.intro (((((H2.out.2.1.far (p := ⟨w.heap.size, 0, none⟩) (by show w.heap.size + 1 ≠ w.heap.size; omega) (.int .u64 0)).far (p := ⟨w.heap.size, 1, none⟩) (by show w.heap.size + 1 ≠ w.heap.size; omega) (.int .u64 0)).far (p := ⟨w.heap.size, 2, none⟩) (by show w.heap.size + 1 ≠ w.heap.size; omega) (.int .u64 0)).far (p := ⟨w.heap.size, 3, none⟩) (by show w.heap.size + 1 ≠ w.heap.size; omega) (.int .u64 0)).far (p := ⟨w.heap.size, 4, none⟩) (by show w.heap.size + 1 ≠ w.heap.size; omega) (.bool false)) (((((H2.out.2.2.setCell (p := ⟨w.heap.size, 0, none⟩) (Nat.le_refl _) (.int .u64 0)).setCell (p := ⟨w.heap.size, 1, none⟩) (Nat.le_refl _) (.int .u64 0)).setCell (p := ⟨w.heap.size, 2, none⟩) (Nat.le_refl _) (.int .u64 0)).setCell (p := ⟨w.heap.size, 3, none⟩) (Nat.le_refl _) (.int .u64 0)).setCell (p := ⟨w.heap.size, 4, none⟩) (Nat.le_refl _) (.bool false))))
  clear b0 b1 b2 b3 b4 zb H2
  generalize (((((w2.setCell ⟨w.heap.size, 0, none⟩ (.int .u64 0)).setCell ⟨w.heap.size, 1, none⟩ (.int .u64 0)).setCell ⟨w.heap.size, 2, none⟩ (.int .u64 0)).setCell ⟨w.heap.size, 3, none⟩ (.int .u64 0)).setCell ⟨w.heap.size, 4, none⟩ (.bool false)) = w3 at *
  refine hK.out _ _ (.inr ⟨H3.out.2.1.cell 0 rfl, H3.out.2.1.cell 1 rfl, H3.out.2.1.cell 2 rfl, H3.out.2.1.cell 3 rfl, H3.out.2.1.cell 4 rfl⟩) ?_
  clear hK K
  try simp only [Act.put, List.setIfInBounds_toArray, List.set_cons_zero, List.set_cons_succ]
  refine z1 (i := 5) (by kernel_rfl) rfl (fun K hK => ?_)
  go_simp
  refine hK.out _ _ (.inl rfl) ?_
  clear hK K
  refine wpAnyZ_done (by kernel_rfl) ?_ _
  go_wp2
  have p0 := H3.out.1.cell 0 rfl
  have p1 := H3.out.1.cell 1 rfl
  have p2 := H3.out.1.cell 2 rfl
  have p3 := H3.out.1.cell 3 rfl
  have p4 := H3.out.1.cell 4 rfl
  refine bodyPost_ret (v := .tuple #[.agg #[.int .u64 0, .int .u64 0, .int .u64 0, .int .u64 0, .bool false], .iface T0 v0]) (by simp [results, Tryd.results61, go_sem, p0, p1, p2, p3, p4]) rfl ⟨by rw [HT.out], H3.out.2.2⟩
end Go.Proofs.YtamejhhjfnfalaaDoor.Co

/- A stock in memory; the contracts of Triple, Bits, OT, Left. -/
namespace Go.Proofs.YtamejhhjfnfalaaDoor.Co
open Go.RowKit

/-- A stock: its block, its piles' blocks, how many of each, and which. -/
structure Sk where
  g : Nat
  b1 : Nat
  b2 : Nat
  b3 : Nat
  n1 : Nat
  n2 : Nat
  n3 : Nat
  y1 : Nat → Nat → Int
  y2 : Nat → Nat → Int
  y3 : Nat → Nat → Int
  c3 : Nat → Bool
def Sk.own (s : Sk) (q : Nat) : Prop := q = s.g ∨ q = s.b1 ∨ q = s.b2 ∨ q = s.b3
/-- What is left of it behind some takes. -/
def Sk.adv (s : Sk) (i j k : Nat) : Sk := { s with n1 := s.n1 - i, n2 := s.n2 - j, n3 := s.n3 - k, y1 := fun q => s.y1 (q + i), y2 := fun q => s.y2 (q + j), y3 := fun q => s.y3 (q + k), c3 := fun q => s.c3 (q + k) }
/-- The stock lies in memory. -/
structure Stk (w : World) (s : Sk) : Prop where
  ex : ∃ v1 v2 v3, Blk w s.g 122 #[v1, v2, v3] ∧ PilT w s.b1 v1 s.n1 s.y1 ∧ PilT w s.b2 v2 s.n2 s.y2 ∧ PilO w s.b3 v3 s.n3 s.y3 s.c3
  ne : s.b1 ≠ s.b2
theorem Sk.adv_zero (s : Sk) : s.adv 0 0 0 = s := rfl
theorem Sk.adv_own (s : Sk) (i j k q : Nat) : (s.adv i j k).own q ↔ s.own q := Iff.rfl
theorem blk_ne {w : World} {b c t u : Nat} {x y : Array Value} (h : Blk w b t x) (h' : Blk w c u y) (hne : t ≠ u) : b ≠ c := by
  intro e
  subst e
  have := h.symm.trans h'
  injection this with this
  injection this with _ h2
  exact hne h2
theorem Stk.lt {w : World} {s : Sk} (h : Stk w s) {q : Nat} (hq : s.own q) : q < w.heap.size := by
  obtain ⟨v1, v2, v3, h1, h2, h3, h4⟩ := h.ex
  rcases hq with rfl | rfl | rfl | rfl
  · exact h1.lt
  · exact h2.lt
  · exact h3.lt
  · exact h4.lt
theorem Stk.heap {w w' : World} {s : Sk} (h : Stk w s) (hb : ∀ q, s.own q → w'.heap[q]? = w.heap[q]?) : Stk w' s := by
  obtain ⟨v1, v2, v3, h1, h2, h3, h4⟩ := h.ex
  exact ⟨⟨v1, v2, v3, (hb _ (.inl rfl)).trans h1, h2.heap (hb _ (.inr (.inl rfl))), h3.heap (hb _ (.inr (.inr (.inl rfl)))), h4.heap (hb _ (.inr (.inr (.inr rfl))))⟩, h.ne⟩
theorem Stk.chg {S : Nat → Prop} {w w' : World} {s : Sk} (h : Stk w s) (hc : Chg S w w') (hs : ∀ q, s.own q → ¬ S q) : Stk w' s := h.heap fun q hq => hc.block q (h.lt hq) (hs q hq)
theorem Stk.below {w w' : World} {s : Sk} (h : Stk w s) (hb : Below w.heap.size w w') : Stk w' s := h.heap fun q hq => hb.block q (h.lt hq)
theorem Stk.apart {w : World} {s : Sk} (h : Stk w s) : s.g ≠ s.b1 ∧ s.g ≠ s.b2 ∧ s.g ≠ s.b3 ∧ s.b1 ≠ s.b3 ∧ s.b2 ≠ s.b3 := by
  obtain ⟨v1, v2, v3, h1, h2, h3, h4⟩ := h.ex
  obtain ⟨_, k2⟩ := h2.blk
  obtain ⟨_, k3⟩ := h3.blk
  obtain ⟨_, k4⟩ := h4.blk
  exact ⟨blk_ne h1 k2 (by decide), blk_ne h1 k3 (by decide), blk_ne h1 k4 (by decide), blk_ne k2 k4 (by decide), blk_ne k3 k4 (by decide)⟩
set_option maxHeartbeats 4000000 in
set_option maxRecDepth 100000 in
theorem ot_some (w : World) (s : Sk) (i0 i1 i2 : Nat) (h : Stk w (s.adv i0 i1 i2)) (hn : i2 < s.n3) :
    Calls Tryd.prog 29 #[.pointer (some ⟨s.g, 0, none⟩)] w fun e w' => e = .returned (.tuple #[.agg #[.int .u64 (s.y3 i2 0), .int .u64 (s.y3 i2 1), .int .u64 (s.y3 i2 2), .int .u64 (s.y3 i2 3), .bool (s.c3 i2 )], .nilIface]) ∧ Stk w' (s.adv i0 i1 (i2 + 1)) ∧ Chg s.own w w' := by
  have hap := h.apart
  have hne := h.ne
  obtain ⟨v1, v2, v3, h1, h2, h3, h4⟩ := h.ex
  have hl := h1.lt
  have hb0 : Below w.heap.size w (w.alloc (.cells #[.int .u64 0, .int .u64 0, .int .u64 0, .int .u64 0, .bool false] 71)) := (Below.refl _ w).alloc (Nat.le_refl _) _
  obtain ⟨n', hn'⟩ : ∃ n', s.n3 - i2 = n' + 1 := ⟨s.n3 - i2 - 1, by omega⟩
  have hp' : PilO (w.alloc (.cells #[.int .u64 0, .int .u64 0, .int .u64 0, .int .u64 0, .bool false] 71)) s.b3 v3 (n' + 1) (s.adv i0 i1 i2).y3 (s.adv i0 i1 i2).c3 := by
    have := h4.heap (w' := (w.alloc (.cells #[.int .u64 0, .int .u64 0, .int .u64 0, .int .u64 0, .bool false] 71))) (hb0.block _ h4.lt)
    rw [← hn']; exact this
  have HT := Lib.hid (takeO_some (w.alloc (.cells #[.int .u64 0, .int .u64 0, .int .u64 0, .int .u64 0, .bool false] 71)) s.g 2 s.b3 #[v1, v2, v3] v3 n' _ _ ⟨#[111, 116, 115]⟩ (h1.alloc _) rfl hp')
  have HR := Lib.hid (And.intro (Blk.new w 71 #[.int .u64 0, .int .u64 0, .int .u64 0, .int .u64 0, .bool false]) (And.intro hb0 (And.intro (h1.alloc (.cells #[.int .u64 0, .int .u64 0, .int .u64 0, .int .u64 0, .bool false] 71)) (And.intro (h2.heap (hb0.block _ h2.lt)) (And.intro (h3.heap (hb0.block _ h3.lt)) (h4.heap (hb0.block _ h4.lt)))))))
  have HL := Lib.hid (And.intro h1.lt (And.intro h2.lt (And.intro h3.lt h4.lt)))
  have HN := Lib.hid (And.intro hap (And.intro hne hn'))
  clear h h1 h2 h3 h4 hp' hap hne hn' hb0 hn
  go_enter Tryd.func29, Tryd.ntmps29
  go_wp2_with fail
  refine HT.out.mono ?_
  rintro e w1 ⟨rfl, v', hB, hP, hc⟩
  have hlt := HL.out
  have hap := HN.out.1
  have hne := HN.out.2.1
  simp only [Sk.adv] at hlt hap hne
  have H1 : Hid (Blk w1 w.heap.size 71 #[.int .u64 0, .int .u64 0, .int .u64 0, .int .u64 0, .bool false] ∧ Stk w1 (s.adv i0 i1 (i2 + 1)) ∧ Chg s.own w w1) := by
    obtain ⟨hR, hb0, h1, h2, h3, h4⟩ := HR.out
    simp only [Sk.adv] at h2 h3 h4 hP
    refine ⟨hR.chg hc (by rintro (e | e) <;> omega), ⟨⟨v1, v2, v', by simpa [Sk.adv] using hB, ?_, ?_, ?_⟩, hne⟩, (Chg.of_below hb0 (fun q hq hq' => by omega)).trans (hc.mono fun q _ e => by
      rcases e with e | e
      · exact .inl e
      · exact .inr (.inr (.inr e)))⟩
    · exact (h2.chg hc (by rintro (e | e) <;> omega))
    · exact (h3.chg hc (by rintro (e | e) <;> omega))
    · simp only [Sk.adv]; rw [show s.n3 - (i2 + 1) = n' by have := HN.out.2.2; omega]; simpa [Nat.add_assoc, Nat.add_comm, Nat.add_left_comm] using hP
  have HQ := Lib.hid (show ∀ q, s.own q → q < w.heap.size from fun q hq => by
    rcases hq with rfl | rfl | rfl | rfl
    · exact hlt.1
    · exact hlt.2.1
    · exact hlt.2.2.1
    · exact hlt.2.2.2)
  clear hB hP hc HR HT HL HN hlt hap hne hl
  have r0 := H1.out.1.cell 0 rfl
  have r1 := H1.out.1.cell 1 rfl
  have r2 := H1.out.1.cell 2 rfl
  have r3 := H1.out.1.cell 3 rfl
  have r4 := H1.out.1.cell 4 rfl
  have zr := H1.out.1.frozen
  simp only [Sk.adv, Nat.zero_add]
  go_wp2
  have hR4 := (((((H1.out.1.set 0 (.int .u64 (s.y3 i2 0))).set 1 (.int .u64 (s.y3 i2 1))).set 2 (.int .u64 (s.y3 i2 2))).set 3 (.int .u64 (s.y3 i2 3))).set 4 (.bool (s.c3 i2 )))
  have p0 := hR4.cell 0 rfl
  have p1 := hR4.cell 1 rfl
  have p2 := hR4.cell 2 rfl
  have p3 := hR4.cell 3 rfl
  have p4 := hR4.cell 4 rfl
  exact bodyPost_ret (v := .tuple #[.agg #[.int .u64 (s.y3 i2 0), .int .u64 (s.y3 i2 1), .int .u64 (s.y3 i2 2), .int .u64 (s.y3 i2 3), .bool (s.c3 i2 )], .nilIface]) (by simp [results, Tryd.results29, go_sem, p0, p1, p2, p3, p4]) rfl
    ⟨rfl, H1.out.2.1.chg (Chg.of_keep (S := fun q => q = w.heap.size) ((((((Keep.refl w.heap.size w1).set (p := ⟨w.heap.size, 0, none⟩) rfl (.int .u64 (s.y3 i2 0))).set (p := ⟨w.heap.size, 1, none⟩) rfl (.int .u64 (s.y3 i2 1))).set (p := ⟨w.heap.size, 2, none⟩) rfl (.int .u64 (s.y3 i2 2))).set (p := ⟨w.heap.size, 3, none⟩) rfl (.int .u64 (s.y3 i2 3))).set (p := ⟨w.heap.size, 4, none⟩) rfl (.bool (s.c3 i2 ))) rfl) (fun q hq e => by have := HQ.out q hq; omega), (((((H1.out.2.2.set (p := ⟨w.heap.size, 0, none⟩) (.inl (Nat.le_refl _)) (.int .u64 (s.y3 i2 0))).set (p := ⟨w.heap.size, 1, none⟩) (.inl (Nat.le_refl _)) (.int .u64 (s.y3 i2 1))).set (p := ⟨w.heap.size, 2, none⟩) (.inl (Nat.le_refl _)) (.int .u64 (s.y3 i2 2))).set (p := ⟨w.heap.size, 3, none⟩) (.inl (Nat.le_refl _)) (.int .u64 (s.y3 i2 3))).set (p := ⟨w.heap.size, 4, none⟩) (.inl (Nat.le_refl _)) (.bool (s.c3 i2 )))⟩

set_option maxHeartbeats 4000000 in
set_option maxRecDepth 100000 in
theorem ot_none (w : World) (s : Sk) (h : Stk w s) (hn : s.n3 = 0) (hh : Handle w) :
    Calls Tryd.prog 29 #[.pointer (some ⟨s.g, 0, none⟩)] w fun e w' => e = .returned (.tuple #[.agg #[.int .u64 0, .int .u64 0, .int .u64 0, .int .u64 0, .bool false], chain [(⟨#[111, 116, 115]⟩, 0)] 80]) ∧ Below w.heap.size w w' := by
  obtain ⟨v1, v2, v3, h1, h2, h3, h4⟩ := h.ex
  obtain ⟨A, cap, hv⟩ := h4.slice
  rw [hn] at hv
  have hb0 : Below w.heap.size w (w.alloc (.cells #[.int .u64 0, .int .u64 0, .int .u64 0, .int .u64 0, .bool false] 71)) := (Below.refl _ w).alloc (Nat.le_refl _) _
  have HT := Lib.hid (takeO_none (w.alloc (.cells #[.int .u64 0, .int .u64 0, .int .u64 0, .int .u64 0, .bool false] 71)) s.g 2 #[v1, v2, v3] A cap ⟨#[111, 116, 115]⟩ (h1.alloc _) (by rw [hv]; rfl) (hh.below hb0 hh.pos))
  have HR := Lib.hid (And.intro (Blk.new w 71 #[.int .u64 0, .int .u64 0, .int .u64 0, .int .u64 0, .bool false]) hb0)
  clear h h1 h2 h3 h4 hv hn hb0 hh
  go_enter Tryd.func29, Tryd.ntmps29
  go_wp2_with fail
  refine HT.out.mono ?_
  rintro e w1 ⟨rfl, hb⟩
  have H1 := Lib.hid (And.intro (HR.out.1.below hb) (HR.out.2.trans (hb.mono HR.out.2.size)))
  obtain ⟨T0, v0, hT⟩ := chain_iface [(⟨#[111, 116, 115]⟩, 0)] 80
  have HX := Lib.hid hT
  rw [hT]
  clear hb HR HT hT
  have r0 := H1.out.1.cell 0 rfl
  have r1 := H1.out.1.cell 1 rfl
  have r2 := H1.out.1.cell 2 rfl
  have r3 := H1.out.1.cell 3 rfl
  have r4 := H1.out.1.cell 4 rfl
  have zr := H1.out.1.frozen
  go_wp2
  have hR4 := (((((H1.out.1.set 0 (.int .u64 0)).set 1 (.int .u64 0)).set 2 (.int .u64 0)).set 3 (.int .u64 0)).set 4 (.bool false))
  have p0 := hR4.cell 0 rfl
  have p1 := hR4.cell 1 rfl
  have p2 := hR4.cell 2 rfl
  have p3 := hR4.cell 3 rfl
  have p4 := hR4.cell 4 rfl
  exact bodyPost_ret (v := .tuple #[.agg #[.int .u64 0, .int .u64 0, .int .u64 0, .int .u64 0, .bool false], .iface T0 v0]) (by simp [results, Tryd.results29, go_sem, p0, p1, p2, p3, p4]) rfl
    ⟨by rw [HX.out], (((((H1.out.2.setCell (p := ⟨w.heap.size, 0, none⟩) (Nat.le_refl _) (.int .u64 0)).setCell (p := ⟨w.heap.size, 1, none⟩) (Nat.le_refl _) (.int .u64 0)).setCell (p := ⟨w.heap.size, 2, none⟩) (Nat.le_refl _) (.int .u64 0)).setCell (p := ⟨w.heap.size, 3, none⟩) (Nat.le_refl _) (.int .u64 0)).setCell (p := ⟨w.heap.size, 4, none⟩) (Nat.le_refl _) (.bool false))⟩
end Go.Proofs.YtamejhhjfnfalaaDoor.Co

/- Piles that are being filled; the contracts of pile's add, roomFor, emptyStock. -/
namespace Go.Proofs.YtamejhhjfnfalaaDoor.Co
open Go.RowKit

section
variable {P : Program} {w : World} {ops : Array Oper} {rest : List Oper} {o : Oper} {a : Act} {K : Act → World → Prop} {Q : Exit → Act → World → Prop}
/-- An append whose run is known. -/
theorem wp_append_run (s x : Operand) (t : TypeId) (ho : o.op = .call { callee := .builtin .append, args := #[s, x], argTypes := #[t, t] }) (v x' v' : Value) (w' : World) (hs : a.eval s = v) (hx : a.eval x = x')
    (hr : (Builtin.append_ #[t, t] o.type #[v, x']).run P w = .ok v' w') (h : K (a.put o.dst v') w') : o.wp P a w K Q := by
  unfold Oper.wp execOp
  simp only [ho, resolve, invoke, builtin, Sem.run_bind, Sem.run_pure, Result.andThen_ok, List.map_toArray, List.map_cons, List.map_nil, hs, hx, hr]
  exact h
theorem wpList_append_run (hgd : o.guard = none) (s x : Operand) (t : TypeId) (ho : o.op = .call { callee := .builtin .append, args := #[s, x], argTypes := #[t, t] }) (v x' v' : Value) (w' : World) (hs : a.eval s = v) (hx : a.eval x = x')
    (hr : (Builtin.append_ #[t, t] o.type #[v, x']).run P w = .ok v' w') (h : wpList P ops Q rest (a.put o.dst v') w') : wpList P ops Q (o :: rest) a w :=
  wpList_plain hgd fun _ hK => wp_append_run s x t ho v x' v' w' hs hx hr (hK _ _ h)
end

/-- Block b has room for cap things; the first n of them are there. -/
def RowT (w : World) (b n cap : Nat) (y : Nat → Nat → Int) : Prop :=
  ∃ cur, Blk w b 111 cur ∧ cur.size = cap * 3 ∧ ∀ i, i < n → cur[i * 3 + 0]? = some (.int .u64 (y i 0)) ∧ cur[i * 3 + 1]? = some (.int .u64 (y i 1)) ∧ cur[i * 3 + 2]? = some (.int .u64 (y i 2))
section
variable {w w' : World} {b n cap : Nat} {y : Nat → Nat → Int}
theorem RowT.heap (h : RowT w b n cap y) (hb : w'.heap[b]? = w.heap[b]?) : RowT w' b n cap y := by
  obtain ⟨cur, h1, h2⟩ := h
  exact ⟨cur, hb.trans h1, h2⟩
theorem RowT.lt (h : RowT w b n cap y) : b < w.heap.size := by
  obtain ⟨cur, h1, h2⟩ := h
  exact h1.lt
theorem RowT.chg {S : Nat → Prop} (h : RowT w b n cap y) (hc : Chg S w w') (hs : ¬ S b) : RowT w' b n cap y := h.heap (hc.block b h.lt hs)
theorem RowT.pile (h : RowT w b n n y) (hn : n ≤ 281474976710656) : PilT w b (.slice (some ⟨b, 0, none⟩) n n) n y := by
  obtain ⟨cur, h1, h2, h3⟩ := h
  exact ⟨0, n, cur, rfl, h1, Nat.le_refl _, by unfold maxLen; omega, by omega, fun i hi => by simpa using h3 i hi⟩
theorem RowT.add (h : ∃ cur : Array Value, cur.size = cap * 3 ∧ Blk w' b 111 (((cur.setIfInBounds (n * 3) (.int .u64 (y n 0))).setIfInBounds (n * 3 + 1) (.int .u64 (y n 1))).setIfInBounds (n * 3 + 2) (.int .u64 (y n 2))) ∧ ∀ i, i < n → cur[i * 3 + 0]? = some (.int .u64 (y i 0)) ∧ cur[i * 3 + 1]? = some (.int .u64 (y i 1)) ∧ cur[i * 3 + 2]? = some (.int .u64 (y i 2))) (hn : n < cap) : RowT w' b (n + 1) cap y := by
  obtain ⟨cur, h2, h3, h4⟩ := h
  refine ⟨_, h3, by simpa using h2, fun i hi => ?_⟩
  rcases Nat.lt_or_ge i n with hi' | hi'
  · have := h4 i hi'
    refine ⟨?_, ?_, ?_⟩
    · rw [Array.getElem?_setIfInBounds_ne (by omega), Array.getElem?_setIfInBounds_ne (by omega), Array.getElem?_setIfInBounds_ne (by omega)]; exact this.1
    · rw [Array.getElem?_setIfInBounds_ne (by omega), Array.getElem?_setIfInBounds_ne (by omega), Array.getElem?_setIfInBounds_ne (by omega)]; exact this.2.1
    · rw [Array.getElem?_setIfInBounds_ne (by omega), Array.getElem?_setIfInBounds_ne (by omega), Array.getElem?_setIfInBounds_ne (by omega)]; exact this.2.2
  · obtain rfl : i = n := by omega
    refine ⟨?_, ?_, ?_⟩
    · simp [Array.getElem?_setIfInBounds]; omega
    · simp [Array.getElem?_setIfInBounds]; omega
    · simp [Array.getElem?_setIfInBounds]; omega
end
theorem infoT : ∃ i, Tryd.prog.info? 111 = some i ∧ i.zero = some (.agg #[.int .u64 0, .int .u64 0, .int .u64 0]) ∧ i.size = 3 ∧ i.bytes = 24 := info_parts (show (Tryd.prog.info? 111).map (fun i => (i.zero, i.size, i.bytes)) = some (some (.agg #[.int .u64 0, .int .u64 0, .int .u64 0]), 3, 24) by kernel_rfl)
theorem append_roomT (w : World) (b n cap a : Nat) (cur : Array Value) (x0 x1 x2 : Value) (h1 : ∀ u ∈ [x0, x1, x2], u.oneCell' = true) (hb : Blk w b 111 cur) (hs : cur.size = cap * 3) (hn : n < cap) (hx : Blk w a 111 #[x0, x1, x2]) :
    (Builtin.append_ #[116, 116] 116 #[.slice (some ⟨b, 0, none⟩) n cap, .slice (some ⟨a, 0, none⟩) 1 1]).run Tryd.prog w = .ok (.slice (some ⟨b, 0, none⟩) (n + 1) cap) (((w.setCell ⟨b, n * 3, none⟩ (x0)).setCell ⟨b, n * 3 + 1, none⟩ (x1)).setCell ⟨b, n * 3 + 2, none⟩ (x2)) := by
  obtain ⟨i0, hi, hz0, hz1, hz2⟩ := infoT
  have hr := run_append_room_cells (P := Tryd.prog) w 116 116 111 i0 Tryd.underlying116 hi b 0 n cap ⟨a, 0, none⟩ 1 1 [x0, x1, x2] (by rw [hz1]; rfl)
    (fun j u hu => by
      have hj : j < 3 := (List.getElem?_eq_some_iff.1 hu).1
      rw [Addr.add_mid, Nat.zero_add]
      exact hx.cell j (by simpa using hu)) h1 hn
    (fun j hj => by
      have hj : j < 3 := hj
      rw [hz1, cell_of_row w b _ cur 111 (0, 0) hb]
      simp
      omega)
    (fun j hj => by rw [hz1]; exact hb.frozen _)
  rw [hz1, Nat.zero_add] at hr
  exact hr
set_option maxHeartbeats 4000000 in
set_option maxRecDepth 100000 in
theorem addT_any (w : World) (g j b n cap : Nat) (cs : Array Value) (y : Nat → Nat → Int) (hs : Blk w g 122 cs) (hj : cs[j]? = some (.slice (some ⟨b, 0, none⟩) n cap)) (hr : RowT w b n cap y) (hn : n < cap) :
    Calls Tryd.prog 57 #[.pointer (some ⟨g, j, none⟩), .agg #[.int .u64 (y n 0), .int .u64 (y n 1), .int .u64 (y n 2)]] w fun e w' => e = .returned (.tuple #[]) ∧ Blk w' g 122 (cs.setIfInBounds j (.slice (some ⟨b, 0, none⟩) (n + 1) cap)) ∧ RowT w' b (n + 1) cap y ∧ Chg (fun q => q = g ∨ q = b) w w' := by
  obtain ⟨cur, hb, hsz, hcur⟩ := hr
  have hgb : g ≠ b := blk_ne hs hb (by decide)
  have hlg := hs.lt
  have hlb := hb.lt
  have HD := Lib.hid (And.intro (hs.alloc (.cells #[.int .u64 (y n 0), .int .u64 (y n 1), .int .u64 (y n 2)] 111)).drew (And.intro (Blk.new w 111 #[.int .u64 (y n 0), .int .u64 (y n 1), .int .u64 (y n 2)]).drew (And.intro (hb.alloc (.cells #[.int .u64 (y n 0), .int .u64 (y n 1), .int .u64 (y n 2)] 111)).drew ((Chg.refl (fun q => q = g ∨ q = b) w).alloc (.cells #[.int .u64 (y n 0), .int .u64 (y n 1), .int .u64 (y n 2)] 111)).drew)))
  have HP := Lib.hid (And.intro hj (And.intro hsz (And.intro hcur (And.intro hn hgb))))
  have hls : w.heap.size < (w.alloc (.cells #[.int .u64 (y n 0), .int .u64 (y n 1), .int .u64 (y n 2)] 111)).heap.size := by simp
  have hsize : (w.alloc (.cells #[.int .u64 (y n 0), .int .u64 (y n 1), .int .u64 (y n 2)] 111)).heap.size = w.heap.size + 1 := by simp
  clear hs hj hb hsz hcur hn hgb hls
  have hw1 : (w.alloc (.cells #[.int .u64 (y n 0), .int .u64 (y n 1), .int .u64 (y n 2)] 111)).drew.heap.size = w.heap.size + 1 := hsize
  clear hsize
  go_enter Tryd.func57, Tryd.ntmps57
  go_wp2
  refine region_z 10 (fun w' : World => w'.cell? ⟨g, j, none⟩ = some (.slice (some ⟨b, 0, none⟩) n cap) ∧ w'.cell? ⟨w.heap.size, 0, none⟩ = some (.int .u64 (y n 0)) ∧ w'.cell? ⟨w.heap.size, 1, none⟩ = some (.int .u64 (y n 1)) ∧ w'.cell? ⟨w.heap.size, 2, none⟩ = some (.int .u64 (y n 2))) (by kernel_rfl) ?_
  generalize (w.alloc (.cells #[.int .u64 (y n 0), .int .u64 (y n 1), .int .u64 (y n 2)] 111)).drew = w1 at *
  have hS : (fun w' : World => w'.cell? ⟨g, j, none⟩ = some (.slice (some ⟨b, 0, none⟩) n cap) ∧ w'.cell? ⟨w.heap.size, 0, none⟩ = some (.int .u64 (y n 0)) ∧ w'.cell? ⟨w.heap.size, 1, none⟩ = some (.int .u64 (y n 1)) ∧ w'.cell? ⟨w.heap.size, 2, none⟩ = some (.int .u64 (y n 2))) w1 := ⟨HD.out.1.cell j HP.out.1, HD.out.2.1.cell 0 rfl, HD.out.2.1.cell 1 rfl, HD.out.2.1.cell 2 rfl⟩
  refine zt [10] (i := 0) rfl (.pointer (some ⟨g, j, none⟩)) (by kernel_rfl) (by kernel_rfl) (by kernel_rfl) (by kernel_rfl) (fun _ _ _ h => h) hS (fun w' d => by obtain ⟨d0, d1, d2, d3⟩ := d; go_simp) ?_
  try simp only [Act.put, List.setIfInBounds_toArray, List.set_cons_zero, List.set_cons_succ]
  refine zt [10] (i := 1) rfl (.pointer (some ⟨g, j, none⟩)) (by kernel_rfl) (by kernel_rfl) (by kernel_rfl) (by kernel_rfl) (fun _ _ _ h => h) hS (fun w' d => by obtain ⟨d0, d1, d2, d3⟩ := d; go_simp) ?_
  try simp only [Act.put, List.setIfInBounds_toArray, List.set_cons_zero, List.set_cons_succ]
  refine zt [10] (i := 2) rfl (.pointer (some ⟨g, j, none⟩)) (by kernel_rfl) (by kernel_rfl) (by kernel_rfl) (by kernel_rfl) (fun _ _ _ h => h) hS (fun w' d => by obtain ⟨d0, d1, d2, d3⟩ := d; go_simp) ?_
  try simp only [Act.put, List.setIfInBounds_toArray, List.set_cons_zero, List.set_cons_succ]
  refine zt [10] (i := 3) rfl (.pointer (some ⟨g, j, none⟩)) (by kernel_rfl) (by kernel_rfl) (by kernel_rfl) (by kernel_rfl) (fun _ _ _ h => h) hS (fun w' d => by obtain ⟨d0, d1, d2, d3⟩ := d; go_simp) ?_
  try simp only [Act.put, List.setIfInBounds_toArray, List.set_cons_zero, List.set_cons_succ]
  refine zt [10] (i := 4) rfl (.slice (some ⟨b, 0, none⟩) n cap) (by kernel_rfl) (by kernel_rfl) (by kernel_rfl) (by kernel_rfl) (fun _ _ _ h => h) hS (fun w' d => by obtain ⟨d0, d1, d2, d3⟩ := d; go_simp) ?_
  try simp only [Act.put, List.setIfInBounds_toArray, List.set_cons_zero, List.set_cons_succ]
  refine zt [10] (i := 5) rfl (.agg #[.int .u64 (y n 0), .int .u64 (y n 1), .int .u64 (y n 2)]) (by kernel_rfl) (by kernel_rfl) (by kernel_rfl) (by kernel_rfl) (fun _ _ _ h => h) hS (fun w' d => by obtain ⟨d0, d1, d2, d3⟩ := d; go_simp) ?_
  try simp only [Act.put, List.setIfInBounds_toArray, List.set_cons_zero, List.set_cons_succ]
  have hlb1 := HD.out.2.2.1.lt
  have hlg1 := HD.out.1.lt
  have H2 := Lib.hid (And.intro (HD.out.1.alloc (.cells #[.int .u64 (y n 0), .int .u64 (y n 1), .int .u64 (y n 2)] 111)) (And.intro (HD.out.2.1.alloc (.cells #[.int .u64 (y n 0), .int .u64 (y n 1), .int .u64 (y n 2)] 111)) (And.intro (HD.out.2.2.1.alloc (.cells #[.int .u64 (y n 0), .int .u64 (y n 1), .int .u64 (y n 2)] 111)) (And.intro (HD.out.2.2.2.alloc (.cells #[.int .u64 (y n 0), .int .u64 (y n 1), .int .u64 (y n 2)] 111)) (Blk.new w1 111 #[.int .u64 (y n 0), .int .u64 (y n 1), .int .u64 (y n 2)])))))
  have HA0 := (append_roomT _ b n cap w1.heap.size cur (.int .u64 (y n 0)) (.int .u64 (y n 1)) (.int .u64 (y n 2)) (by intro u hu; simp at hu; rcases hu with rfl | rfl | rfl <;> rfl) H2.out.2.2.1 HP.out.2.1 HP.out.2.2.2.1 H2.out.2.2.2.2)
  rw [hw1] at HA0
  have HA := Lib.hid HA0
  clear HA0
  have hgb := HP.out.2.2.2.2
  have hbg : b ≠ g := fun e => hgb e.symm
  refine z1 (i := 6) (by kernel_rfl) rfl (fun K hK => ?_)
  go_simp
  refine hK.out _ _ (.inr ⟨H2.out.1.cell j HP.out.1, H2.out.2.1.cell 0 rfl, H2.out.2.1.cell 1 rfl, H2.out.2.1.cell 2 rfl⟩) ?_
  clear hK K
  try simp only [Act.put, List.setIfInBounds_toArray, List.set_cons_zero, List.set_cons_succ]
  refine z1 (i := 7) (by kernel_rfl) rfl (fun K hK => ?_)
  refine wp_append_run _ _ 116 rfl _ _ _ _ rfl rfl HA.out ?_
  have H3 := Lib.hid (And.intro (((H2.out.1.far (p := ⟨b, n * 3, none⟩) (hgb) (.int .u64 (y n 0))).far (p := ⟨b, n * 3 + 1, none⟩) (hgb) (.int .u64 (y n 1))).far (p := ⟨b, n * 3 + 2, none⟩) (hgb) (.int .u64 (y n 2))) (And.intro (((H2.out.2.1.far (p := ⟨b, n * 3, none⟩) (by show w.heap.size ≠ b; omega) (.int .u64 (y n 0))).far (p := ⟨b, n * 3 + 1, none⟩) (by show w.heap.size ≠ b; omega) (.int .u64 (y n 1))).far (p := ⟨b, n * 3 + 2, none⟩) (by show w.heap.size ≠ b; omega) (.int .u64 (y n 2))) (And.intro (((H2.out.2.2.1.set (n * 3) (.int .u64 (y n 0))).set (n * 3 + 1) (.int .u64 (y n 1))).set (n * 3 + 2) (.int .u64 (y n 2))) (((H2.out.2.2.2.1.set (p := ⟨b, n * 3, none⟩) (.inr (.inr rfl)) (.int .u64 (y n 0))).set (p := ⟨b, n * 3 + 1, none⟩) (.inr (.inr rfl)) (.int .u64 (y n 1))).set (p := ⟨b, n * 3 + 2, none⟩) (.inr (.inr rfl)) (.int .u64 (y n 2))))))
  clear HA H2 HD hS
  generalize ((((w1.alloc (.cells #[.int .u64 (y n 0), .int .u64 (y n 1), .int .u64 (y n 2)] 111)).setCell ⟨b, n * 3, none⟩ (.int .u64 (y n 0))).setCell ⟨b, n * 3 + 1, none⟩ (.int .u64 (y n 1))).setCell ⟨b, n * 3 + 2, none⟩ (.int .u64 (y n 2))) = w3 at *
  refine hK.out _ _ (.inr ⟨H3.out.1.cell j HP.out.1, H3.out.2.1.cell 0 rfl, H3.out.2.1.cell 1 rfl, H3.out.2.1.cell 2 rfl⟩) ?_
  clear hK K
  try simp only [Act.put, List.setIfInBounds_toArray, List.set_cons_zero, List.set_cons_succ]
  refine z1 (i := 8) (by kernel_rfl) rfl (fun K hK => ?_)
  go_simp
  refine hK.out _ _ (.inr ⟨H3.out.1.cell j HP.out.1, H3.out.2.1.cell 0 rfl, H3.out.2.1.cell 1 rfl, H3.out.2.1.cell 2 rfl⟩) ?_
  clear hK K
  try simp only [Act.put, List.setIfInBounds_toArray, List.set_cons_zero, List.set_cons_succ]
  refine z1 (i := 9) (by kernel_rfl) rfl (fun K hK => ?_)
  go_simp
  refine hK.out _ _ (.inr ⟨H3.out.1.cell j HP.out.1, H3.out.2.1.cell 0 rfl, H3.out.2.1.cell 1 rfl, H3.out.2.1.cell 2 rfl⟩) ?_
  clear hK K
  try simp only [Act.put, List.setIfInBounds_toArray, List.set_cons_zero, List.set_cons_succ]
  have cg := H3.out.1.cell j HP.out.1
  have zg := H3.out.1.frozen j
  refine z1 (i := 10) (by kernel_rfl) rfl (fun K hK => ?_)
  go_simp
  refine hK.out _ _ (.inl rfl) ?_
  clear hK K
  refine wpAnyZ_done (by kernel_rfl) ?_ _
  go_wp2
  exact bodyPost_end (v := .tuple #[]) (by simp [results, Tryd.results57, go_sem]) rfl ⟨rfl, H3.out.1.set j _, RowT.add ⟨cur, HP.out.2.1, H3.out.2.2.1.far (p := ⟨g, j, none⟩) hbg _, HP.out.2.2.1⟩ HP.out.2.2.2.1, H3.out.2.2.2.set (p := ⟨g, j, none⟩) (.inr (.inl rfl)) _⟩
set_option maxHeartbeats 1000000 in
set_option maxRecDepth 100000 in
theorem roomT_any (w : World) (n : Nat) (y : Nat → Nat → Int) (hn : n ≤ 65536) :
    Calls Tryd.prog 81 #[.int .i64 (n : Int)] w fun e w' => ∃ b, w.heap.size ≤ b ∧ e = .returned (.agg #[.slice (some ⟨b, 0, none⟩) 0 n]) ∧ RowT w' b 0 n y ∧ Below w.heap.size w w' := by
  obtain ⟨i0, hi, hz0, hz1, hz2⟩ := infoT
  have hmk := run_make (P := Tryd.prog) (w.alloc (.cells #[.slice none 0 0] 118)) 116 111 i0 (.agg #[.int .u64 0, .int .u64 0, .int .u64 0]) Tryd.underlying116 hi hz0 .i64 .i64 0 (n : Int) (by omega) (by omega) (by rw [hz2]; omega) (by omega)
  rw [hz1, Int.toNat_natCast, World.size_alloc] at hmk
  have hsz : (madeCells (Value.agg #[.int .u64 0, .int .u64 0, .int .u64 0]).cells (n * 3)).size = n * 3 := by simp [madeCells]
  obtain ⟨made, hmd⟩ : ∃ m, m = madeCells (Value.agg #[.int .u64 0, .int .u64 0, .int .u64 0]).cells (n * 3) := ⟨_, rfl⟩
  rw [← hmd] at hmk hsz
  clear hmd hi hz0 hz1 hz2
  have hM : Blk ((w.alloc (.cells #[.slice (some ⟨w.heap.size + 1, 0, none⟩) 0 n] 118)).alloc (.cells made 111)) (w.heap.size + 1) 111 made := by
    have := Blk.new (w.alloc (.cells #[.slice (some ⟨w.heap.size + 1, 0, none⟩) 0 n] 118)) 111 made
    rwa [World.size_alloc] at this
  have hb : Below w.heap.size w ((w.alloc (.cells #[.slice (some ⟨w.heap.size + 1, 0, none⟩) 0 n] 118)).alloc (.cells made 111)) := ((Below.refl _ w).alloc (Nat.le_refl _) _).alloc (by simp) _
  have HH := Lib.hid (And.intro hM (And.intro hb hsz))
  clear hM hb hsz
  go_enter Tryd.func81, Tryd.ntmps81
  go_wp2
  exact bodyPost_ret (v := .agg #[.slice (some ⟨w.heap.size + 1, 0, none⟩) 0 n]) (by simp [results, Tryd.results81, go_sem]) rfl
    ⟨w.heap.size + 1, by omega, rfl, ⟨made, HH.out.1, HH.out.2.2, fun i hi => absurd hi (by omega)⟩, HH.out.2.1⟩

/-- Block b has room for cap things; the first n of them are there. -/
def RowO (w : World) (b n cap : Nat) (y : Nat → Nat → Int) (c : Nat → Bool) : Prop :=
  ∃ cur, Blk w b 71 cur ∧ cur.size = cap * 5 ∧ ∀ i, i < n → cur[i * 5 + 0]? = some (.int .u64 (y i 0)) ∧ cur[i * 5 + 1]? = some (.int .u64 (y i 1)) ∧ cur[i * 5 + 2]? = some (.int .u64 (y i 2)) ∧ cur[i * 5 + 3]? = some (.int .u64 (y i 3)) ∧ cur[i * 5 + 4]? = some (.bool (c i))
section
variable {w w' : World} {b n cap : Nat} {y : Nat → Nat → Int} {c : Nat → Bool}
theorem RowO.heap (h : RowO w b n cap y c) (hb : w'.heap[b]? = w.heap[b]?) : RowO w' b n cap y c := by
  obtain ⟨cur, h1, h2⟩ := h
  exact ⟨cur, hb.trans h1, h2⟩
theorem RowO.lt (h : RowO w b n cap y c) : b < w.heap.size := by
  obtain ⟨cur, h1, h2⟩ := h
  exact h1.lt
theorem RowO.chg {S : Nat → Prop} (h : RowO w b n cap y c) (hc : Chg S w w') (hs : ¬ S b) : RowO w' b n cap y c := h.heap (hc.block b h.lt hs)
theorem RowO.pile (h : RowO w b n n y c) (hn : n ≤ 281474976710656) : PilO w b (.slice (some ⟨b, 0, none⟩) n n) n y c := by
  obtain ⟨cur, h1, h2, h3⟩ := h
  exact ⟨0, n, cur, rfl, h1, Nat.le_refl _, by unfold maxLen; omega, by omega, fun i hi => by simpa using h3 i hi⟩
theorem RowO.add (h : ∃ cur : Array Value, cur.size = cap * 5 ∧ Blk w' b 71 (((((cur.setIfInBounds (n * 5) (.int .u64 (y n 0))).setIfInBounds (n * 5 + 1) (.int .u64 (y n 1))).setIfInBounds (n * 5 + 2) (.int .u64 (y n 2))).setIfInBounds (n * 5 + 3) (.int .u64 (y n 3))).setIfInBounds (n * 5 + 4) (.bool (c n))) ∧ ∀ i, i < n → cur[i * 5 + 0]? = some (.int .u64 (y i 0)) ∧ cur[i * 5 + 1]? = some (.int .u64 (y i 1)) ∧ cur[i * 5 + 2]? = some (.int .u64 (y i 2)) ∧ cur[i * 5 + 3]? = some (.int .u64 (y i 3)) ∧ cur[i * 5 + 4]? = some (.bool (c i))) (hn : n < cap) : RowO w' b (n + 1) cap y c := by
  obtain ⟨cur, h2, h3, h4⟩ := h
  refine ⟨_, h3, by simpa using h2, fun i hi => ?_⟩
  rcases Nat.lt_or_ge i n with hi' | hi'
  · have := h4 i hi'
    refine ⟨?_, ?_, ?_, ?_, ?_⟩
    · rw [Array.getElem?_setIfInBounds_ne (by omega), Array.getElem?_setIfInBounds_ne (by omega), Array.getElem?_setIfInBounds_ne (by omega), Array.getElem?_setIfInBounds_ne (by omega), Array.getElem?_setIfInBounds_ne (by omega)]; exact this.1
    · rw [Array.getElem?_setIfInBounds_ne (by omega), Array.getElem?_setIfInBounds_ne (by omega), Array.getElem?_setIfInBounds_ne (by omega), Array.getElem?_setIfInBounds_ne (by omega), Array.getElem?_setIfInBounds_ne (by omega)]; exact this.2.1
    · rw [Array.getElem?_setIfInBounds_ne (by omega), Array.getElem?_setIfInBounds_ne (by omega), Array.getElem?_setIfInBounds_ne (by omega), Array.getElem?_setIfInBounds_ne (by omega), Array.getElem?_setIfInBounds_ne (by omega)]; exact this.2.2.1
    · rw [Array.getElem?_setIfInBounds_ne (by omega), Array.getElem?_setIfInBounds_ne (by omega), Array.getElem?_setIfInBounds_ne (by omega), Array.getElem?_setIfInBounds_ne (by omega), Array.getElem?_setIfInBounds_ne (by omega)]; exact this.2.2.2.1
    · rw [Array.getElem?_setIfInBounds_ne (by omega), Array.getElem?_setIfInBounds_ne (by omega), Array.getElem?_setIfInBounds_ne (by omega), Array.getElem?_setIfInBounds_ne (by omega), Array.getElem?_setIfInBounds_ne (by omega)]; exact this.2.2.2.2
  · obtain rfl : i = n := by omega
    refine ⟨?_, ?_, ?_, ?_, ?_⟩
    · simp [Array.getElem?_setIfInBounds]; omega
    · simp [Array.getElem?_setIfInBounds]; omega
    · simp [Array.getElem?_setIfInBounds]; omega
    · simp [Array.getElem?_setIfInBounds]; omega
    · simp [Array.getElem?_setIfInBounds]; omega
end
theorem infoO : ∃ i, Tryd.prog.info? 71 = some i ∧ i.zero = some (.agg #[.int .u64 0, .int .u64 0, .int .u64 0, .int .u64 0, .bool false]) ∧ i.size = 5 ∧ i.bytes = 40 := info_parts (show (Tryd.prog.info? 71).map (fun i => (i.zero, i.size, i.bytes)) = some (some (.agg #[.int .u64 0, .int .u64 0, .int .u64 0, .int .u64 0, .bool false]), 5, 40) by kernel_rfl)
theorem append_roomO (w : World) (b n cap a : Nat) (cur : Array Value) (x0 x1 x2 x3 x4 : Value) (h1 : ∀ u ∈ [x0, x1, x2, x3, x4], u.oneCell' = true) (hb : Blk w b 71 cur) (hs : cur.size = cap * 5) (hn : n < cap) (hx : Blk w a 71 #[x0, x1, x2, x3, x4]) :
    (Builtin.append_ #[68, 68] 68 #[.slice (some ⟨b, 0, none⟩) n cap, .slice (some ⟨a, 0, none⟩) 1 1]).run Tryd.prog w = .ok (.slice (some ⟨b, 0, none⟩) (n + 1) cap) (((((w.setCell ⟨b, n * 5, none⟩ (x0)).setCell ⟨b, n * 5 + 1, none⟩ (x1)).setCell ⟨b, n * 5 + 2, none⟩ (x2)).setCell ⟨b, n * 5 + 3, none⟩ (x3)).setCell ⟨b, n * 5 + 4, none⟩ (x4)) := by
  obtain ⟨i0, hi, hz0, hz1, hz2⟩ := infoO
  have hr := run_append_room_cells (P := Tryd.prog) w 68 68 71 i0 Tryd.underlying68 hi b 0 n cap ⟨a, 0, none⟩ 1 1 [x0, x1, x2, x3, x4] (by rw [hz1]; rfl)
    (fun j u hu => by
      have hj : j < 5 := (List.getElem?_eq_some_iff.1 hu).1
      rw [Addr.add_mid, Nat.zero_add]
      exact hx.cell j (by simpa using hu)) h1 hn
    (fun j hj => by
      have hj : j < 5 := hj
      rw [hz1, cell_of_row w b _ cur 71 (0, 0) hb]
      simp
      omega)
    (fun j hj => by rw [hz1]; exact hb.frozen _)
  rw [hz1, Nat.zero_add] at hr
  exact hr
set_option maxHeartbeats 4000000 in
set_option maxRecDepth 100000 in
theorem addO_any (w : World) (g j b n cap : Nat) (cs : Array Value) (y : Nat → Nat → Int) (c : Nat → Bool) (hs : Blk w g 122 cs) (hj : cs[j]? = some (.slice (some ⟨b, 0, none⟩) n cap)) (hr : RowO w b n cap y c) (hn : n < cap) :
    Calls Tryd.prog 60 #[.pointer (some ⟨g, j, none⟩), .agg #[.int .u64 (y n 0), .int .u64 (y n 1), .int .u64 (y n 2), .int .u64 (y n 3), .bool (c n)]] w fun e w' => e = .returned (.tuple #[]) ∧ Blk w' g 122 (cs.setIfInBounds j (.slice (some ⟨b, 0, none⟩) (n + 1) cap)) ∧ RowO w' b (n + 1) cap y c ∧ Chg (fun q => q = g ∨ q = b) w w' := by
  obtain ⟨cur, hb, hsz, hcur⟩ := hr
  have hgb : g ≠ b := blk_ne hs hb (by decide)
  have hlg := hs.lt
  have hlb := hb.lt
  have HD := Lib.hid (And.intro (hs.alloc (.cells #[.int .u64 (y n 0), .int .u64 (y n 1), .int .u64 (y n 2), .int .u64 (y n 3), .bool (c n)] 71)).drew (And.intro (Blk.new w 71 #[.int .u64 (y n 0), .int .u64 (y n 1), .int .u64 (y n 2), .int .u64 (y n 3), .bool (c n)]).drew (And.intro (hb.alloc (.cells #[.int .u64 (y n 0), .int .u64 (y n 1), .int .u64 (y n 2), .int .u64 (y n 3), .bool (c n)] 71)).drew ((Chg.refl (fun q => q = g ∨ q = b) w).alloc (.cells #[.int .u64 (y n 0), .int .u64 (y n 1), .int .u64 (y n 2), .int .u64 (y n 3), .bool (c n)] 71)).drew)))
  have HP := Lib.hid (And.intro hj (And.intro hsz (And.intro hcur (And.intro hn hgb))))
  have hls : w.heap.size < (w.alloc (.cells #[.int .u64 (y n 0), .int .u64 (y n 1), .int .u64 (y n 2), .int .u64 (y n 3), .bool (c n)] 71)).heap.size := by simp
  have hsize : (w.alloc (.cells #[.int .u64 (y n 0), .int .u64 (y n 1), .int .u64 (y n 2), .int .u64 (y n 3), .bool (c n)] 71)).heap.size = w.heap.size + 1 := by simp
  clear hs hj hb hsz hcur hn hgb hls
  have hw1 : (w.alloc (.cells #[.int .u64 (y n 0), .int .u64 (y n 1), .int .u64 (y n 2), .int .u64 (y n 3), .bool (c n)] 71)).drew.heap.size = w.heap.size + 1 := hsize
  clear hsize
  go_enter Tryd.func60, Tryd.ntmps60
  go_wp2
  refine region_z 10 (fun w' : World => w'.cell? ⟨g, j, none⟩ = some (.slice (some ⟨b, 0, none⟩) n cap) ∧ w'.cell? ⟨w.heap.size, 0, none⟩ = some (.int .u64 (y n 0)) ∧ w'.cell? ⟨w.heap.size, 1, none⟩ = some (.int .u64 (y n 1)) ∧ w'.cell? ⟨w.heap.size, 2, none⟩ = some (.int .u64 (y n 2)) ∧ w'.cell? ⟨w.heap.size, 3, none⟩ = some (.int .u64 (y n 3)) ∧ w'.cell? ⟨w.heap.size, 4, none⟩ = some (.bool (c n))) (by kernel_rfl) ?_
  generalize (w.alloc (.cells #[.int .u64 (y n 0), .int .u64 (y n 1), .int .u64 (y n 2), .int .u64 (y n 3), .bool (c n)] 71)).drew = w1 at *
  have hS : (fun w' : World => w'.cell? ⟨g, j, none⟩ = some (.slice (some ⟨b, 0, none⟩) n cap) ∧ w'.cell? ⟨w.heap.size, 0, none⟩ = some (.int .u64 (y n 0)) ∧ w'.cell? ⟨w.heap.size, 1, none⟩ = some (.int .u64 (y n 1)) ∧ w'.cell? ⟨w.heap.size, 2, none⟩ = some (.int .u64 (y n 2)) ∧ w'.cell? ⟨w.heap.size, 3, none⟩ = some (.int .u64 (y n 3)) ∧ w'.cell? ⟨w.heap.size, 4, none⟩ = some (.bool (c n))) w1 := ⟨HD.out.1.cell j HP.out.1, HD.out.2.1.cell 0 rfl, HD.out.2.1.cell 1 rfl, HD.out.2.1.cell 2 rfl, HD.out.2.1.cell 3 rfl, HD.out.2.1.cell 4 rfl⟩
  refine zt [10] (i := 0) rfl (.pointer (some ⟨g, j, none⟩)) (by kernel_rfl) (by kernel_rfl) (by kernel_rfl) (by kernel_rfl) (fun _ _ _ h => h) hS (fun w' d => by obtain ⟨d0, d1, d2, d3, d4, d5⟩ := d; go_simp) ?_
  try simp only [Act.put, List.setIfInBounds_toArray, List.set_cons_zero, List.set_cons_succ]
  refine zt [10] (i := 1) rfl (.pointer (some ⟨g, j, none⟩)) (by kernel_rfl) (by kernel_rfl) (by kernel_rfl) (by kernel_rfl) (fun _ _ _ h => h) hS (fun w' d => by obtain ⟨d0, d1, d2, d3, d4, d5⟩ := d; go_simp) ?_
  try simp only [Act.put, List.setIfInBounds_toArray, List.set_cons_zero, List.set_cons_succ]
  refine zt [10] (i := 2) rfl (.pointer (some ⟨g, j, none⟩)) (by kernel_rfl) (by kernel_rfl) (by kernel_rfl) (by kernel_rfl) (fun _ _ _ h => h) hS (fun w' d => by obtain ⟨d0, d1, d2, d3, d4, d5⟩ := d; go_simp) ?_
  try simp only [Act.put, List.setIfInBounds_toArray, List.set_cons_zero, List.set_cons_succ]
  refine zt [10] (i := 3) rfl (.pointer (some ⟨g, j, none⟩)) (by kernel_rfl) (by kernel_rfl) (by kernel_rfl) (by kernel_rfl) (fun _ _ _ h => h) hS (fun w' d => by obtain ⟨d0, d1, d2, d3, d4, d5⟩ := d; go_simp) ?_
  try simp only [Act.put, List.setIfInBounds_toArray, List.set_cons_zero, List.set_cons_succ]
  refine zt [10] (i := 4) rfl (.slice (some ⟨b, 0, none⟩) n cap) (by kernel_rfl) (by kernel_rfl) (by kernel_rfl) (by kernel_rfl) (fun _ _ _ h => h) hS (fun w' d => by obtain ⟨d0, d1, d2, d3, d4, d5⟩ := d; go_simp) ?_
  try simp only [Act.put, List.setIfInBounds_toArray, List.set_cons_zero, List.set_cons_succ]
  refine zt [10] (i := 5) rfl (.agg #[.int .u64 (y n 0), .int .u64 (y n 1), .int .u64 (y n 2), .int .u64 (y n 3), .bool (c n)]) (by kernel_rfl) (by kernel_rfl) (by kernel_rfl) (by kernel_rfl) (fun _ _ _ h => h) hS (fun w' d => by obtain ⟨d0, d1, d2, d3, d4, d5⟩ := d; go_simp) ?_
  try simp only [Act.put, List.setIfInBounds_toArray, List.set_cons_zero, List.set_cons_succ]
  have hlb1 := HD.out.2.2.1.lt
  have hlg1 := HD.out.1.lt
  have H2 := Lib.hid (And.intro (HD.out.1.alloc (.cells #[.int .u64 (y n 0), .int .u64 (y n 1), .int .u64 (y n 2), .int .u64 (y n 3), .bool (c n)] 71)) (And.intro (HD.out.2.1.alloc (.cells #[.int .u64 (y n 0), .int .u64 (y n 1), .int .u64 (y n 2), .int .u64 (y n 3), .bool (c n)] 71)) (And.intro (HD.out.2.2.1.alloc (.cells #[.int .u64 (y n 0), .int .u64 (y n 1), .int .u64 (y n 2), .int .u64 (y n 3), .bool (c n)] 71)) (And.intro (HD.out.2.2.2.alloc (.cells #[.int .u64 (y n 0), .int .u64 (y n 1), .int .u64 (y n 2), .int .u64 (y n 3), .bool (c n)] 71)) (Blk.new w1 71 #[.int .u64 (y n 0), .int .u64 (y n 1), .int .u64 (y n 2), .int .u64 (y n 3), .bool (c n)])))))
  have HA0 := (append_roomO _ b n cap w1.heap.size cur (.int .u64 (y n 0)) (.int .u64 (y n 1)) (.int .u64 (y n 2)) (.int .u64 (y n 3)) (.bool (c n)) (by intro u hu; simp at hu; rcases hu with rfl | rfl | rfl | rfl | rfl <;> rfl) H2.out.2.2.1 HP.out.2.1 HP.out.2.2.2.1 H2.out.2.2.2.2)
  rw [hw1] at HA0
  have HA := Lib.hid HA0
  clear HA0
  have hgb := HP.out.2.2.2.2
  have hbg : b ≠ g := fun e => hgb e.symm
  refine z1 (i := 6) (by kernel_rfl) rfl (fun K hK => ?_)
  go_simp
  refine hK.out _ _ (.inr ⟨H2.out.1.cell j HP.out.1, H2.out.2.1.cell 0 rfl, H2.out.2.1.cell 1 rfl, H2.out.2.1.cell 2 rfl, H2.out.2.1.cell 3 rfl, H2.out.2.1.cell 4 rfl⟩) ?_
  clear hK K
  try simp only [Act.put, List.setIfInBounds_toArray, List.set_cons_zero, List.set_cons_succ]
  refine z1 (i := 7) (by kernel_rfl) rfl (fun K hK => ?_)
  refine wp_append_run _ _ 68 rfl _ _ _ _ rfl rfl HA.out ?_
  have H3 := Lib.hid (And.intro (((((H2.out.1.far (p := ⟨b, n * 5, none⟩) (hgb) (.int .u64 (y n 0))).far (p := ⟨b, n * 5 + 1, none⟩) (hgb) (.int .u64 (y n 1))).far (p := ⟨b, n * 5 + 2, none⟩) (hgb) (.int .u64 (y n 2))).far (p := ⟨b, n * 5 + 3, none⟩) (hgb) (.int .u64 (y n 3))).far (p := ⟨b, n * 5 + 4, none⟩) (hgb) (.bool (c n))) (And.intro (((((H2.out.2.1.far (p := ⟨b, n * 5, none⟩) (by show w.heap.size ≠ b; omega) (.int .u64 (y n 0))).far (p := ⟨b, n * 5 + 1, none⟩) (by show w.heap.size ≠ b; omega) (.int .u64 (y n 1))).far (p := ⟨b, n * 5 + 2, none⟩) (by show w.heap.size ≠ b; omega) (.int .u64 (y n 2))).far (p := ⟨b, n * 5 + 3, none⟩) (by show w.heap.size ≠ b; omega) (.int .u64 (y n 3))).far (p := ⟨b, n * 5 + 4, none⟩) (by show w.heap.size ≠ b; omega) (.bool (c n))) (And.intro (((((H2.out.2.2.1.set (n * 5) (.int .u64 (y n 0))).set (n * 5 + 1) (.int .u64 (y n 1))).set (n * 5 + 2) (.int .u64 (y n 2))).set (n * 5 + 3) (.int .u64 (y n 3))).set (n * 5 + 4) (.bool (c n))) (((((H2.out.2.2.2.1.set (p := ⟨b, n * 5, none⟩) (.inr (.inr rfl)) (.int .u64 (y n 0))).set (p := ⟨b, n * 5 + 1, none⟩) (.inr (.inr rfl)) (.int .u64 (y n 1))).set (p := ⟨b, n * 5 + 2, none⟩) (.inr (.inr rfl)) (.int .u64 (y n 2))).set (p := ⟨b, n * 5 + 3, none⟩) (.inr (.inr rfl)) (.int .u64 (y n 3))).set (p := ⟨b, n * 5 + 4, none⟩) (.inr (.inr rfl)) (.bool (c n))))))
  clear HA H2 HD hS
  generalize ((((((w1.alloc (.cells #[.int .u64 (y n 0), .int .u64 (y n 1), .int .u64 (y n 2), .int .u64 (y n 3), .bool (c n)] 71)).setCell ⟨b, n * 5, none⟩ (.int .u64 (y n 0))).setCell ⟨b, n * 5 + 1, none⟩ (.int .u64 (y n 1))).setCell ⟨b, n * 5 + 2, none⟩ (.int .u64 (y n 2))).setCell ⟨b, n * 5 + 3, none⟩ (.int .u64 (y n 3))).setCell ⟨b, n * 5 + 4, none⟩ (.bool (c n))) = w3 at *
  refine hK.out _ _ (.inr ⟨H3.out.1.cell j HP.out.1, H3.out.2.1.cell 0 rfl, H3.out.2.1.cell 1 rfl, H3.out.2.1.cell 2 rfl, H3.out.2.1.cell 3 rfl, H3.out.2.1.cell 4 rfl⟩) ?_
  clear hK K
  try simp only [Act.put, List.setIfInBounds_toArray, List.set_cons_zero, List.set_cons_succ]
  refine z1 (i := 8) (by kernel_rfl) rfl (fun K hK => ?_)
  go_simp
  refine hK.out _ _ (.inr ⟨H3.out.1.cell j HP.out.1, H3.out.2.1.cell 0 rfl, H3.out.2.1.cell 1 rfl, H3.out.2.1.cell 2 rfl, H3.out.2.1.cell 3 rfl, H3.out.2.1.cell 4 rfl⟩) ?_
  clear hK K
  try simp only [Act.put, List.setIfInBounds_toArray, List.set_cons_zero, List.set_cons_succ]
  refine z1 (i := 9) (by kernel_rfl) rfl (fun K hK => ?_)
  go_simp
  refine hK.out _ _ (.inr ⟨H3.out.1.cell j HP.out.1, H3.out.2.1.cell 0 rfl, H3.out.2.1.cell 1 rfl, H3.out.2.1.cell 2 rfl, H3.out.2.1.cell 3 rfl, H3.out.2.1.cell 4 rfl⟩) ?_
  clear hK K
  try simp only [Act.put, List.setIfInBounds_toArray, List.set_cons_zero, List.set_cons_succ]
  have cg := H3.out.1.cell j HP.out.1
  have zg := H3.out.1.frozen j
  refine z1 (i := 10) (by kernel_rfl) rfl (fun K hK => ?_)
  go_simp
  refine hK.out _ _ (.inl rfl) ?_
  clear hK K
  refine wpAnyZ_done (by kernel_rfl) ?_ _
  go_wp2
  exact bodyPost_end (v := .tuple #[]) (by simp [results, Tryd.results60, go_sem]) rfl ⟨rfl, H3.out.1.set j _, RowO.add ⟨cur, HP.out.2.1, H3.out.2.2.1.far (p := ⟨g, j, none⟩) hbg _, HP.out.2.2.1⟩ HP.out.2.2.2.1, H3.out.2.2.2.set (p := ⟨g, j, none⟩) (.inr (.inl rfl)) _⟩
set_option maxHeartbeats 1000000 in
set_option maxRecDepth 100000 in
theorem roomO_any (w : World) (n : Nat) (y : Nat → Nat → Int) (c : Nat → Bool) (hn : n ≤ 65536) :
    Calls Tryd.prog 82 #[.int .i64 (n : Int)] w fun e w' => ∃ b, w.heap.size ≤ b ∧ e = .returned (.agg #[.slice (some ⟨b, 0, none⟩) 0 n]) ∧ RowO w' b 0 n y c ∧ Below w.heap.size w w' := by
  obtain ⟨i0, hi, hz0, hz1, hz2⟩ := infoO
  have hmk := run_make (P := Tryd.prog) (w.alloc (.cells #[.slice none 0 0] 120)) 68 71 i0 (.agg #[.int .u64 0, .int .u64 0, .int .u64 0, .int .u64 0, .bool false]) Tryd.underlying68 hi hz0 .i64 .i64 0 (n : Int) (by omega) (by omega) (by rw [hz2]; omega) (by omega)
  rw [hz1, Int.toNat_natCast, World.size_alloc] at hmk
  have hsz : (madeCells (Value.agg #[.int .u64 0, .int .u64 0, .int .u64 0, .int .u64 0, .bool false]).cells (n * 5)).size = n * 5 := by simp [madeCells]
  obtain ⟨made, hmd⟩ : ∃ m, m = madeCells (Value.agg #[.int .u64 0, .int .u64 0, .int .u64 0, .int .u64 0, .bool false]).cells (n * 5) := ⟨_, rfl⟩
  rw [← hmd] at hmk hsz
  clear hmd hi hz0 hz1 hz2
  have hM : Blk ((w.alloc (.cells #[.slice (some ⟨w.heap.size + 1, 0, none⟩) 0 n] 120)).alloc (.cells made 71)) (w.heap.size + 1) 71 made := by
    have := Blk.new (w.alloc (.cells #[.slice (some ⟨w.heap.size + 1, 0, none⟩) 0 n] 120)) 71 made
    rwa [World.size_alloc] at this
  have hb : Below w.heap.size w ((w.alloc (.cells #[.slice (some ⟨w.heap.size + 1, 0, none⟩) 0 n] 120)).alloc (.cells made 71)) := ((Below.refl _ w).alloc (Nat.le_refl _) _).alloc (by simp) _
  have HH := Lib.hid (And.intro hM (And.intro hb hsz))
  clear hM hb hsz
  go_enter Tryd.func82, Tryd.ntmps82
  go_wp2
  exact bodyPost_ret (v := .agg #[.slice (some ⟨w.heap.size + 1, 0, none⟩) 0 n]) (by simp [results, Tryd.results82, go_sem]) rfl
    ⟨w.heap.size + 1, by omega, rfl, ⟨made, HH.out.1, HH.out.2.2, fun i hi => absurd hi (by omega)⟩, HH.out.2.1⟩
end Go.Proofs.YtamejhhjfnfalaaDoor.Co

/- Stocks that are being filled; the contracts of emptyStock and checkDeal. -/
namespace Go.Proofs.YtamejhhjfnfalaaDoor.Co
open Go.RowKit

/-- A stock that is being filled: so many of each kind are there. -/
structure Fil (w : World) (s : Sk) (i j k : Nat) : Prop where
  blk : Blk w s.g 122 #[.slice (some ⟨s.b1, 0, none⟩) i s.n1, .slice (some ⟨s.b2, 0, none⟩) j s.n2, .slice (some ⟨s.b3, 0, none⟩) k s.n3]
  r1 : RowT w s.b1 i s.n1 s.y1
  r2 : RowT w s.b2 j s.n2 s.y2
  r3 : RowO w s.b3 k s.n3 s.y3 s.c3
  ne : s.b1 ≠ s.b2
section
variable {w w' : World} {s : Sk} {i j k : Nat}
theorem Fil.lt (h : Fil w s i j k) {q : Nat} (hq : s.own q) : q < w.heap.size := by
  rcases hq with rfl | rfl | rfl | rfl
  · exact h.blk.lt
  · exact h.r1.lt
  · exact h.r2.lt
  · exact h.r3.lt
theorem Fil.heap (h : Fil w s i j k) (hb : ∀ q, s.own q → w'.heap[q]? = w.heap[q]?) : Fil w' s i j k :=
  ⟨(hb _ (.inl rfl)).trans h.blk, h.r1.heap (hb _ (.inr (.inl rfl))), h.r2.heap (hb _ (.inr (.inr (.inl rfl)))), h.r3.heap (hb _ (.inr (.inr (.inr rfl)))), h.ne⟩
theorem Fil.chg {S : Nat → Prop} (h : Fil w s i j k) (hc : Chg S w w') (hs : ∀ q, s.own q → ¬ S q) : Fil w' s i j k := h.heap fun q hq => hc.block q (h.lt hq) (hs q hq)
theorem Fil.below (h : Fil w s i j k) (hb : Below w.heap.size w w') : Fil w' s i j k := h.heap fun q hq => hb.block q (h.lt hq)
theorem Fil.apart (h : Fil w s i j k) : s.g ≠ s.b1 ∧ s.g ≠ s.b2 ∧ s.g ≠ s.b3 ∧ s.b1 ≠ s.b3 ∧ s.b2 ≠ s.b3 := by
  obtain ⟨h1, ⟨_, k2, _⟩, ⟨_, k3, _⟩, ⟨_, k4, _⟩, _⟩ := h
  exact ⟨blk_ne h1 k2 (by decide), blk_ne h1 k3 (by decide), blk_ne h1 k4 (by decide), blk_ne k2 k4 (by decide), blk_ne k3 k4 (by decide)⟩
theorem Fil.full (h : Fil w s s.n1 s.n2 s.n3) (h1 : s.n1 ≤ 65536) (h2 : s.n2 ≤ 65536) (h3 : s.n3 ≤ 65536) : Stk w s :=
  ⟨⟨_, _, _, h.blk, h.r1.pile (by omega), h.r2.pile (by omega), h.r3.pile (by omega)⟩, h.ne⟩
theorem fadd0 (h : Fil w s i j k) (hn : i < s.n1) :
    Calls Tryd.prog 57 #[.pointer (some ⟨s.g, 0, none⟩), .agg #[.int .u64 (s.y1 i 0), .int .u64 (s.y1 i 1), .int .u64 (s.y1 i 2)]] w fun e w' => e = .returned (.tuple #[]) ∧ Fil w' s (i + 1) j k ∧ Chg s.own w w' := by
  refine (addT_any w s.g 0 s.b1 i s.n1 _ s.y1 h.blk rfl h.r1 hn).mono ?_
  rintro e w' ⟨he, hb, hr, hc⟩
  have hap := h.apart
  have hne := h.ne
  exact ⟨he, ⟨hb, hr, h.r2.chg hc (by rintro (e | e) <;> omega), h.r3.chg hc (by rintro (e | e) <;> omega), hne⟩, hc.mono fun q _ e => by
    rcases e with e | e
    · exact .inl e
    · exact .inr (.inl e)⟩
theorem fadd1 (h : Fil w s i j k) (hn : j < s.n2) :
    Calls Tryd.prog 57 #[.pointer (some ⟨s.g, 1, none⟩), .agg #[.int .u64 (s.y2 j 0), .int .u64 (s.y2 j 1), .int .u64 (s.y2 j 2)]] w fun e w' => e = .returned (.tuple #[]) ∧ Fil w' s i (j + 1) k ∧ Chg s.own w w' := by
  refine (addT_any w s.g 1 s.b2 j s.n2 _ s.y2 h.blk rfl h.r2 hn).mono ?_
  rintro e w' ⟨he, hb, hr, hc⟩
  have hap := h.apart
  have hne := h.ne
  exact ⟨he, ⟨hb, h.r1.chg hc (by rintro (e | e) <;> omega), hr, h.r3.chg hc (by rintro (e | e) <;> omega), hne⟩, hc.mono fun q _ e => by
    rcases e with e | e
    · exact .inl e
    · exact .inr (.inr (.inl e))⟩
theorem fadd2 (h : Fil w s i j k) (hn : k < s.n3) :
    Calls Tryd.prog 60 #[.pointer (some ⟨s.g, 2, none⟩), .agg #[.int .u64 (s.y3 k 0), .int .u64 (s.y3 k 1), .int .u64 (s.y3 k 2), .int .u64 (s.y3 k 3), .bool (s.c3 k)]] w fun e w' => e = .returned (.tuple #[]) ∧ Fil w' s i j (k + 1) ∧ Chg s.own w w' := by
  refine (addO_any w s.g 2 s.b3 k s.n3 _ s.y3 s.c3 h.blk rfl h.r3 hn).mono ?_
  rintro e w' ⟨he, hb, hr, hc⟩
  have hap := h.apart
  have hne := h.ne
  exact ⟨he, ⟨hb, h.r1.chg hc (by rintro (e | e) <;> omega), h.r2.chg hc (by rintro (e | e) <;> omega), hr, hne⟩, hc.mono fun q _ e => by
    rcases e with e | e
    · exact .inl e
    · exact .inr (.inr (.inr e))⟩
end
set_option maxHeartbeats 2000000 in
set_option maxRecDepth 100000 in
theorem empty_any (w : World) (n1 n2 n3 : Nat) (y1 y2 y3 : Nat → Nat → Int) (c3 : Nat → Bool) (h1 : n1 ≤ 65536) (h2 : n2 ≤ 65536) (h3 : n3 ≤ 65536) :
    Calls Tryd.prog 54 #[.int .i64 (n1 : Int), .int .i64 (n2 : Int), .int .i64 (n3 : Int)] w fun e w' => ∃ s : Sk, e = .returned (.pointer (some ⟨s.g, 0, none⟩)) ∧ (s.n1 = n1 ∧ s.n2 = n2 ∧ s.n3 = n3 ∧ s.y1 = y1 ∧ s.y2 = y2 ∧ s.y3 = y3 ∧ s.c3 = c3) ∧ (∀ q, s.own q → w.heap.size ≤ q) ∧ Fil w' s 0 0 0 ∧ Below w.heap.size w w' := by
  have H0 := Lib.hid (And.intro h1 (And.intro h2 h3))
  clear h1 h2 h3
  go_enter Tryd.func54, Tryd.ntmps54
  go_wp2_with fail
  refine (roomT_any w n1 y1 H0.out.1).mono ?_
  rintro e w1 ⟨b1, hb1, rfl, hr1, hw1⟩
  have H1 := Lib.hid (And.intro hb1 (And.intro hr1 hw1))
  clear hb1 hr1 hw1
  go_wp2_with fail
  refine (roomT_any w1 n2 y2 H0.out.2.1).mono ?_
  rintro e w2 ⟨b2, hb2, rfl, hr2, hw2⟩
  have H2 := Lib.hid (And.intro hb2 (And.intro hr2 hw2))
  clear hb2 hr2 hw2
  go_wp2_with fail
  refine (roomO_any w2 n3 y3 c3 H0.out.2.2).mono ?_
  rintro e w3 ⟨b3, hb3, rfl, hr3, hw3⟩
  have H3 := Lib.hid (And.intro hb3 (And.intro hr3 hw3))
  clear hb3 hr3 hw3
  go_wp2
  go_ret
  obtain ⟨hb1, hr1, hw1⟩ := H1.out
  obtain ⟨hb2, hr2, hw2⟩ := H2.out
  obtain ⟨hb3, hr3, hw3⟩ := H3.out
  have l1 := hr1.lt
  have l2 := hr2.lt
  have l3 := hr3.lt
  have z1 := hw1.size
  have z2 := hw2.size
  have z3 := hw3.size
  refine ⟨⟨w3.heap.size, b1, b2, b3, n1, n2, n3, y1, y2, y3, c3⟩, rfl, ⟨rfl, rfl, rfl, rfl, rfl, rfl, rfl⟩, fun q hq => ?_, ⟨Blk.new w3 _ _, ?_, ?_, ?_, ?_⟩, ?_⟩
  · have hq' : q = w3.heap.size ∨ q = b1 ∨ q = b2 ∨ q = b3 := hq
    omega
  · exact hr1.heap ((Below.heap_alloc w3 _ b1 (by omega)).trans ((hw3.block b1 (by omega)).trans (hw2.block b1 (by omega))))
  · exact hr2.heap ((Below.heap_alloc w3 _ b2 (by omega)).trans (hw3.block b2 (by omega)))
  · exact hr3.heap (Below.heap_alloc w3 _ b3 (by omega))
  · show b1 ≠ b2
    omega
  · exact (hw1.trans ((hw2.mono (by omega)).trans (hw3.mono (by omega)))).alloc (by omega) _
/-- Block b is three numbers. -/
abbrev nums (a b c : Int) : Array Value := #[.int .i64 a, .int .i64 b, .int .i64 c]
set_option maxHeartbeats 2000000 in
set_option maxRecDepth 100000 in
theorem check_ok (w : World) (g h N : Nat) (f : Nat → Int) (u n1 n2 n3 : Nat) (ht : Tap w g h N f u) (h1 : n1 ≤ 65536) (h2 : n2 ≤ 65536) (h3 : n3 ≤ 65536) (hn : u + 5 * (n1 + n2 + n3) ≤ N) :
    Calls Tryd.prog 53 #[.pointer (some ⟨g, 0, none⟩), .int .i64 (n1 : Int), .int .i64 (n2 : Int), .int .i64 (n3 : Int)] w fun e w' => e = .returned .nilIface ∧ Below w.heap.size w w' := by
  have hb : Below w.heap.size w (w.alloc (.cells (nums n1 n2 n3) 160)) := (Below.refl _ w).alloc (Nat.le_refl _) _
  have hB : Blk (w.alloc (.cells (nums n1 n2 n3) 160)) w.heap.size 160 (nums n1 n2 n3) := Blk.new w _ _
  have HT := Lib.hid (And.intro (ht.below hb) hb)
  have c0 := hB.cell 0 rfl
  have c1 := hB.cell 1 rfl
  have c2 := hB.cell 2 rfl
  clear hB hb
  have a1 : ¬ ((n1 : Int) < 0) := by omega
  have a2 : ¬ ((n2 : Int) < 0) := by omega
  have a3 : ¬ ((n3 : Int) < 0) := by omega
  have b1 : ¬ ((65536 : Int) < (n1 : Int)) := by omega
  have b2 : ¬ ((65536 : Int) < (n2 : Int)) := by omega
  have b3 : ¬ ((65536 : Int) < (n3 : Int)) := by omega
  have e1 : IntKind.i64.wrap (5 * (n1 : Int)) = 5 * (n1 : Int) := i64_nat _ (by omega) (by omega)
  have e2 : IntKind.i64.wrap (5 * (n2 : Int)) = 5 * (n2 : Int) := i64_nat _ (by omega) (by omega)
  have e3 : IntKind.i64.wrap (5 * (n3 : Int)) = 5 * (n3 : Int) := i64_nat _ (by omega) (by omega)
  have f2 : IntKind.i64.wrap (5 * (n1 : Int) + 5 * (n2 : Int)) = 5 * (n1 : Int) + 5 * (n2 : Int) := i64_nat _ (by omega) (by omega)
  have f3 : IntKind.i64.wrap (5 * (n1 : Int) + 5 * (n2 : Int) + 5 * (n3 : Int)) = 5 * (n1 : Int) + 5 * (n2 : Int) + 5 * (n3 : Int) := i64_nat _ (by omega) (by omega)
  have l1 : ¬ ((N : Int) - (u : Int) < 5 * (n1 : Int) + 5 * (n2 : Int) + 5 * (n3 : Int)) := by omega
  clear h1 h2 h3 hn ht
  go_enter Tryd.func53, Tryd.ntmps53
  go_wp2
  go_loopw [10, 16] (fun v i wr => wr = w.alloc (.cells (nums n1 n2 n3) 160) ∧ ((i = .int .i64 0 ∧ v = .int .i64 0) ∨ (i = .int .i64 1 ∧ v = .int .i64 (5 * (n1 : Int))) ∨ (i = .int .i64 2 ∧ v = .int .i64 (5 * (n1 : Int) + 5 * (n2 : Int))) ∨ (i = .int .i64 3 ∧ v = .int .i64 (5 * (n1 : Int) + 5 * (n2 : Int) + 5 * (n3 : Int))))) (fun _ i _ => 3 - (intOf i).toNat)
  case atStart => exact ⟨rfl, .inl ⟨rfl, rfl⟩⟩
  case round =>
    obtain ⟨rfl, hr⟩ := hrel
    rcases hr with ⟨rfl, rfl⟩ | ⟨rfl, rfl⟩ | ⟨rfl, rfl⟩ | ⟨rfl, rfl⟩
    · go_wp2
      go_roundw
      case rel => exact ⟨trivial, .inr (.inl ⟨by go_num, by go_num⟩)⟩
      case measure => simp [intOf]
    · go_wp2
      go_roundw
      case rel => exact ⟨trivial, .inr (.inr (.inl ⟨by go_num, by go_num⟩))⟩
      case measure => simp [intOf]
    · go_wp2
      go_roundw
      case rel => exact ⟨trivial, .inr (.inr (.inr ⟨by go_num, by go_num⟩))⟩
      case measure => simp [intOf]
    · go_wp2_with fail
      refine (left_any _ g h N f u HT.out.1).mono ?_
      rintro e w1 ⟨rfl, rfl⟩
      go_wp2
      go_ret
      exact ⟨rfl, HT.out.2⟩
end Go.Proofs.YtamejhhjfnfalaaDoor.Co

/- What is dealt; the contract of Deal where the tape is long enough. -/
namespace Go.Proofs.YtamejhhjfnfalaaDoor.Co
open Go.RowKit

/-- What lacks of a triple, of a bit triple, dealt from place p on. -/
def lackT (f : Nat → Int) (p : Nat) : Int := IntKind.u64.wrap (IntKind.u64.wrap (IntKind.u64.wrap (f p + f (p + 1)) * IntKind.u64.wrap (f (p + 2) + f (p + 3))) - f (p + 4))
def lackB (f : Nat → Int) (p : Nat) : Int := bits .xor .u64 (bits .and .u64 (bits .xor .u64 (f p) (f (p + 1))) (bits .xor .u64 (f (p + 2)) (f (p + 3)))) (f (p + 4))
def T0 (f : Nat → Int) (o : Nat) : Nat → Nat → Int := fun i j => f (o + 5 * i + 2 * j)
def T1 (f : Nat → Int) (o : Nat) : Nat → Nat → Int := fun i j => if j = 2 then lackT f (o + 5 * i) else f (o + 5 * i + 2 * j + 1)
def B1 (f : Nat → Int) (o : Nat) : Nat → Nat → Int := fun i j => if j = 2 then lackB f (o + 5 * i) else f (o + 5 * i + 2 * j + 1)
def O0 (f : Nat → Int) (o : Nat) : Nat → Nat → Int := fun i j => f (o + 5 * i + j)
def O1 (f : Nat → Int) (o : Nat) : Nat → Nat → Int := fun i j => if j < 2 then (if f (o + 5 * i + 4) % 2 = 1 then f (o + 5 * i + 2 + j) else f (o + 5 * i + j)) else 0
def C1 (f : Nat → Int) (o : Nat) : Nat → Bool := fun i => decide (f (o + 5 * i + 4) % 2 = 1)
theorem splitT_want (w : World) (x a b : Nat → Int) (h0 : x 0 = a 0) (h2 : x 2 = a 1) (h4 : x 4 = a 2) (h1 : x 1 = b 0) (h3 : x 3 = b 1) (h5 : IntKind.u64.wrap (IntKind.u64.wrap (IntKind.u64.wrap (x 0 + x 1) * IntKind.u64.wrap (x 2 + x 3)) - x 4) = b 2) :
    Calls Tryd.prog 55 #[.agg (fiv x)] w fun e w' => e = .returned (.tuple #[tri (a 0) (a 1) (a 2), tri (b 0) (b 1) (b 2)]) ∧ Below w.heap.size w w' := by
  rw [← h5, ← h0, ← h1, ← h2, ← h3, ← h4]; exact splitT_any w x
theorem splitB_want (w : World) (x a b : Nat → Int) (h0 : x 0 = a 0) (h2 : x 2 = a 1) (h4 : x 4 = a 2) (h1 : x 1 = b 0) (h3 : x 3 = b 1) (h5 : bits .xor .u64 (bits .and .u64 (bits .xor .u64 (x 0) (x 1)) (bits .xor .u64 (x 2) (x 3))) (x 4) = b 2) :
    Calls Tryd.prog 58 #[.agg (fiv x)] w fun e w' => e = .returned (.tuple #[tri (a 0) (a 1) (a 2), tri (b 0) (b 1) (b 2)]) ∧ Below w.heap.size w w' := by
  rw [← h5, ← h0, ← h1, ← h2, ← h3, ← h4]; exact splitB_any w x
theorem splitO_want (w : World) (x a b : Nat → Int) (ca cb : Bool) (ha : ∀ q, q < 4 → x q = a q) (hca : ca = false) (hb : ∀ q, q < 2 → b q = if x 4 % 2 = 1 then x (2 + q) else x q) (hb2 : b 2 = 0) (hb3 : b 3 = 0) (hcb : cb = decide (x 4 % 2 = 1)) :
    Calls Tryd.prog 59 #[.agg (fiv x)] w fun e w' => e = .returned (.tuple #[otv (a 0) (a 1) (a 2) (a 3) ca, otv (b 0) (b 1) (b 2) (b 3) cb]) ∧ Below w.heap.size w w' := by
  subst hca hcb
  rw [← ha 0 (by omega), ← ha 1 (by omega), ← ha 2 (by omega), ← ha 3 (by omega), hb 0 (by omega), hb 1 (by omega), hb2, hb3]
  rcases and_one (x 4) with h | h
  · have := splitO_any0 w x h
    rw [and_one_mod] at h
    have hn : ¬ (x 4 % 2 = 1) := by omega
    simpa [hn] using this
  · have := splitO_any1 w x h
    rw [and_one_mod] at h
    simpa [h] using this
/-- What else is about while two stocks are filled out of a tape. -/
structure Dl (w : World) (g h N : Nat) (f : Nat → Int) (s0 s1 : Sk) (i0 j0 k0 i1 j1 k1 u : Nat) (w' : World) : Prop where
  p0 : Fil w' s0 i0 j0 k0
  p1 : Fil w' s1 i1 j1 k1
  tp : Tap w' g h N f u
  rb : Blk w' w.heap.size 63 #[.pointer none, .pointer none]
  ch : Chg (fun q => q = g) w w'
/-- The blocks are apart. -/
structure Ap (w : World) (g h : Nat) (s0 s1 : Sk) : Prop where
  a0 : ∀ q, s0.own q → w.heap.size < q
  a1 : ∀ q, s1.own q → w.heap.size < q
  ap : ∀ q, s0.own q → s1.own q → False
  lg : g < w.heap.size
  lh : h < w.heap.size
theorem Chg.after {S S' : Nat → Prop} {w w' w2 : World} (h : Chg S w w') (h' : Chg S' w' w2) (hs : ∀ q, S' q → w.heap.size ≤ q ∨ S q) : Chg S w w2 :=
  ⟨h'.os.trans h.os, h'.tape.trans h.tape, h'.output.trans h.output, Nat.le_trans h.size h'.size, fun k hk hg => (h'.block k (Nat.lt_of_lt_of_le hk h.size) (fun e => by
    rcases hs k e with e | e
    · omega
    · exact hg e)).trans (h.block k hk hg)⟩
section
variable {w w' w2 : World} {g h N : Nat} {f : Nat → Int} {s0 s1 : Sk} {i0 j0 k0 i1 j1 k1 u : Nat}
theorem Dl.new (d : Dl w g h N f s0 s1 i0 j0 k0 i1 j1 k1 u w') (hb : Below w'.heap.size w' w2) : Dl w g h N f s0 s1 i0 j0 k0 i1 j1 k1 u w2 :=
  ⟨d.p0.below hb, d.p1.below hb, d.tp.below hb, d.rb.below hb, d.ch.trans (Chg.of_below hb fun k hk hk' => by omega)⟩
theorem Dl.draw (d : Dl w g h N f s0 s1 i0 j0 k0 i1 j1 k1 u w') (A : Ap w g h s0 s1) {u' : Nat} (ht : Tap w2 g h N f u') (hk : Keep g w' w2) : Dl w g h N f s0 s1 i0 j0 k0 i1 j1 k1 u' w2 :=
  have hc : Chg (fun q => q = g) w' w2 := Chg.of_keep hk rfl
  ⟨d.p0.chg hc fun q hq e => by have := A.a0 q hq; have := A.lg; omega, d.p1.chg hc fun q hq e => by have := A.a1 q hq; have := A.lg; omega, ht, d.rb.chg hc (by have := A.lg; omega), d.ch.trans hc⟩
theorem Dl.add0 (d : Dl w g h N f s0 s1 i0 j0 k0 i1 j1 k1 u w') (A : Ap w g h s0 s1) {i j k : Nat} (hf : Fil w2 s0 i j k) (hc : Chg s0.own w' w2) : Dl w g h N f s0 s1 i j k i1 j1 k1 u w2 :=
  ⟨hf, d.p1.chg hc fun q hq e => A.ap q e hq, d.tp.chg hc (fun e => by have := A.a0 _ e; have := A.lg; omega) (fun e => by have := A.a0 _ e; have := A.lh; omega), d.rb.chg hc (fun e => by have := A.a0 _ e; omega), d.ch.after hc fun q e => .inl (by have := A.a0 q e; omega)⟩
theorem Dl.add1 (d : Dl w g h N f s0 s1 i0 j0 k0 i1 j1 k1 u w') (A : Ap w g h s0 s1) {i j k : Nat} (hf : Fil w2 s1 i j k) (hc : Chg s1.own w' w2) : Dl w g h N f s0 s1 i0 j0 k0 i j k u w2 :=
  ⟨d.p0.chg hc fun q hq e => A.ap q hq e, hf, d.tp.chg hc (fun e => by have := A.a1 _ e; have := A.lg; omega) (fun e => by have := A.a1 _ e; have := A.lh; omega), d.rb.chg hc (fun e => by have := A.a1 _ e; omega), d.ch.after hc fun q e => .inl (by have := A.a1 q e; omega)⟩
end
/-- Two stocks, as they are dealt. -/
structure Dealt (f : Nat → Int) (n1 n2 n3 : Nat) (s0 s1 : Sk) : Prop where
  a1 : s0.n1 = n1
  a2 : s0.n2 = n2
  a3 : s0.n3 = n3
  b1 : s1.n1 = n1
  b2 : s1.n2 = n2
  b3 : s1.n3 = n3
  y1 : s0.y1 = T0 f 0
  y2 : s0.y2 = T0 f (5 * n1)
  y3 : s0.y3 = O0 f (5 * (n1 + n2))
  c3 : s0.c3 = fun _ => false
  z1 : s1.y1 = T1 f 0
  z2 : s1.y2 = B1 f (5 * n1)
  z3 : s1.y3 = O1 f (5 * (n1 + n2))
  d3 : s1.c3 = C1 f (5 * (n1 + n2))
end Go.Proofs.YtamejhhjfnfalaaDoor.Co

/- The contract of Deal where the tape is long enough. -/
namespace Go.Proofs.YtamejhhjfnfalaaDoor.Co
open Go.RowKit

set_option maxHeartbeats 8000000 in
set_option maxRecDepth 100000 in
theorem deal_ok (w : World) (g h N : Nat) (f : Nat → Int) (n1 n2 n3 : Nat) (ht : Tap w g h N f 0) (h1 : n1 ≤ 65536) (h2 : n2 ≤ 65536) (h3 : n3 ≤ 65536) (hn : 5 * (n1 + n2 + n3) ≤ N) :
    Calls Tryd.prog 27 #[.pointer (some ⟨g, 0, none⟩), .int .i64 (n1 : Int), .int .i64 (n2 : Int), .int .i64 (n3 : Int)] w fun e w' => ∃ s0 s1, e = .returned (.tuple #[.agg #[.pointer (some ⟨s0.g, 0, none⟩), .pointer (some ⟨s1.g, 0, none⟩)], .nilIface]) ∧ Dealt f n1 n2 n3 s0 s1 ∧ Ap w g h s0 s1 ∧ Stk w' s0 ∧ Stk w' s1 ∧ Tap w' g h N f (5 * (n1 + n2 + n3)) ∧ Chg (fun q => q = g) w w' := by
  have lg := ht.lt
  have lh := ht.src_lt
  have hb0 : Below w.heap.size w (w.alloc (.cells #[.pointer none, .pointer none] 63)) := (Below.refl _ w).alloc (Nat.le_refl _) _
  have HC := Lib.hid (check_ok _ g h N f 0 n1 n2 n3 (ht.below hb0) h1 h2 h3 (by omega))
  have HL := Lib.hid (And.intro h1 (And.intro h2 (And.intro h3 hn)))
  have H0 := Lib.hid (And.intro (ht.below hb0) (And.intro (Blk.new w 63 #[.pointer none, .pointer none]) hb0))
  clear ht h1 h2 h3 hn hb0
  go_enter Tryd.func27, Tryd.ntmps27
  go_wp2_with fail
  refine HC.out.mono ?_
  rintro e w1 ⟨rfl, hb1⟩
  have H1 := Lib.hid (And.intro (H0.out.1.below hb1) (And.intro (H0.out.2.1.below hb1) (H0.out.2.2.trans (hb1.mono H0.out.2.2.size))))
  have hs1 : w.heap.size < w1.heap.size := H1.out.2.1.lt
  clear hb1 HC H0
  go_wp2_with fail
  refine (empty_any w1 n1 n2 n3 (T0 f 0) (T0 f (5 * n1)) (O0 f (5 * (n1 + n2))) (fun _ => false) HL.out.1 HL.out.2.1 HL.out.2.2.1).mono ?_
  rintro e w2 ⟨s0, rfl, hs0, ho0, hf0, hb2⟩
  have H2 := Lib.hid (And.intro (H1.out.1.below hb2) (And.intro (H1.out.2.1.below hb2) (And.intro (H1.out.2.2.trans (hb2.mono H1.out.2.2.size)) (And.intro hf0 (And.intro ho0 (And.intro hs0 hb2.size))))))
  clear hb2 H1 hf0 ho0 hs0
  go_wp2_with fail
  refine (empty_any w2 n1 n2 n3 (T1 f 0) (B1 f (5 * n1)) (O1 f (5 * (n1 + n2))) (C1 f (5 * (n1 + n2))) HL.out.1 HL.out.2.1 HL.out.2.2.1).mono ?_
  rintro e w3 ⟨s1, rfl, hs, ho, hf, hb3⟩
  have HS : Hid (Dealt f n1 n2 n3 s0 s1) := by
    obtain ⟨q1, q2, q3, q4, q5, q6, q7⟩ := hs
    obtain ⟨p1, p2, p3, p4, p5, p6, p7⟩ := H2.out.2.2.2.2.2.1
    exact ⟨p1, p2, p3, q1, q2, q3, p4, p5, p6, p7, q4, q5, q6, q7⟩
  have HA : Hid (Ap w g h s0 s1) := by
    have z2 := H2.out.2.2.2.2.2.2
    exact ⟨fun q hq => by have := H2.out.2.2.2.2.1 q hq; omega, fun q hq => by have := ho q hq; omega, fun q hq hq' => by have := ho q hq'; have := H2.out.2.2.2.1.lt hq; omega, lg, lh⟩
  have HZ0 : Hid (Dl w g h N f s0 s1 0 0 0 0 0 0 (5 * 0) w3) :=
    ⟨H2.out.2.2.2.1.below hb3, hf, H2.out.1.below hb3, H2.out.2.1.below hb3, Chg.of_below (H2.out.2.2.1.trans (hb3.mono H2.out.2.2.1.size)) fun k hk hk' => by omega⟩
  clear hs ho hf hb3 H2 hs1
  have HX0 : Hid (∀ k : Nat, f (5 * k + 0) = s0.y1 k 0 ∧ f (5 * k + 2) = s0.y1 k 1 ∧ f (5 * k + 4) = s0.y1 k 2 ∧ f (5 * k + 1) = s1.y1 k 0 ∧ f (5 * k + 3) = s1.y1 k 1 ∧ IntKind.u64.wrap (IntKind.u64.wrap (IntKind.u64.wrap (f (5 * k + 0) + f (5 * k + 1)) * IntKind.u64.wrap (f (5 * k + 2) + f (5 * k + 3))) - f (5 * k + 4)) = s1.y1 k 2) := by
    intro k
    rw [HS.out.y1, HS.out.z1]
    simp [T0, T1, lackT]
  have HX1 : Hid (∀ k : Nat, f (5 * (n1 + k) + 0) = s0.y2 k 0 ∧ f (5 * (n1 + k) + 2) = s0.y2 k 1 ∧ f (5 * (n1 + k) + 4) = s0.y2 k 2 ∧ f (5 * (n1 + k) + 1) = s1.y2 k 0 ∧ f (5 * (n1 + k) + 3) = s1.y2 k 1 ∧ bits .xor .u64 (bits .and .u64 (bits .xor .u64 (f (5 * (n1 + k) + 0)) (f (5 * (n1 + k) + 1))) (bits .xor .u64 (f (5 * (n1 + k) + 2)) (f (5 * (n1 + k) + 3)))) (f (5 * (n1 + k) + 4)) = s1.y2 k 2) := by
    intro k
    rw [HS.out.y2, HS.out.z2]
    simp [T0, B1, lackB, Nat.mul_add]
  have HX2 : Hid (∀ k : Nat, (∀ q, q < 4 → f (5 * (n1 + n2 + k) + q) = s0.y3 k q) ∧ s0.c3 k = false ∧ (∀ q, q < 2 → s1.y3 k q = if f (5 * (n1 + n2 + k) + 4) % 2 = 1 then f (5 * (n1 + n2 + k) + (2 + q)) else f (5 * (n1 + n2 + k) + q)) ∧ s1.y3 k 2 = 0 ∧ s1.y3 k 3 = 0 ∧ s1.c3 k = decide (f (5 * (n1 + n2 + k) + 4) % 2 = 1)) := by
    intro k
    rw [HS.out.y3, HS.out.z3, HS.out.c3, HS.out.d3]
    have e : 5 * (n1 + n2) + 5 * k = 5 * (n1 + n2 + k) := by omega
    refine ⟨fun q _ => by simp [O0, e], rfl, fun q hq => by simp [O1, hq, e, Nat.add_assoc], by simp [O1], by simp [O1], by simp [C1, e]⟩
  go_wp2
  go_loopw [37] (fun i wr => ∃ k : Nat, k ≤ n1 ∧ i = .int .i64 k ∧ Hid (Dl w g h N f s0 s1 k 0 0 k 0 0 (5 * k) wr)) (fun i _ => n1 - (intOf i).toNat)
  case atStart => exact ⟨0, by omega, rfl, HZ0.out⟩
  case round =>
    obtain ⟨k, hk, rfl, HI⟩ := hrel
    have HX := HX0
    by_cases hlt : k < n1
    · have lt1 : (k : Int) < (n1 : Int) := by omega
      have e1 : IntKind.i64.wrap ((k : Int) + 1) = (k : Int) + 1 := i64_nat _ (by omega) (by have := HL.out.1; have := HL.out.2.1; have := HL.out.2.2.1; omega)
      obtain ⟨x, hx⟩ : ∃ x : Nat → Int, x = fun q => f ((5 * k) + q) := ⟨_, rfl⟩
      have HD := draw_any wr g h N f (5 * k) HI.out.tp (by have := HL.out.2.2.2; omega)
      have HK0 := HX.out k
      rw [← hx] at HD
      have HK : x 0 = s0.y1 k 0 ∧ x 2 = s0.y1 k 1 ∧ x 4 = s0.y1 k 2 ∧ x 1 = s1.y1 k 0 ∧ x 3 = s1.y1 k 1 ∧ IntKind.u64.wrap (IntKind.u64.wrap (IntKind.u64.wrap (x 0 + x 1) * IntKind.u64.wrap (x 2 + x 3)) - x 4) = s1.y1 k 2 := by subst hx; exact HK0
      have HDr := Lib.hid HD
      have HW := Lib.hid (fun w1 => splitT_want w1 x (s0.y1 k) (s1.y1 k) HK.1 HK.2.1 HK.2.2.1 HK.2.2.2.1 HK.2.2.2.2.1 HK.2.2.2.2.2)
      clear HD hx HX HK HK0
      go_wp2_with fail
      refine HDr.out.mono ?_
      rintro e w1 ⟨rfl, ht1, hk1⟩
      have H1 := Lib.hid (HI.out.draw HA.out (u' := (5 * (k + 1))) (by have := ht1; rwa [show (5 * k) + 5 = (5 * (k + 1)) by omega] at this) hk1)
      clear ht1 hk1 HI HDr
      go_wp2_with fail
      refine (HW.out w1).mono ?_
      rintro e w2 ⟨rfl, hb2⟩
      have hbl : Below w2.heap.size w2 ((w2.alloc (.cells #[.int .u64 (s0.y1 k 0), .int .u64 (s0.y1 k 1), .int .u64 (s0.y1 k 2)] 111)).alloc (.cells #[.int .u64 (s1.y1 k 0), .int .u64 (s1.y1 k 1), .int .u64 (s1.y1 k 2)] 111)) := ((Below.refl _ w2).alloc (Nat.le_refl _) _).alloc (by simp) _
      have hBa : Blk ((w2.alloc (.cells #[.int .u64 (s0.y1 k 0), .int .u64 (s0.y1 k 1), .int .u64 (s0.y1 k 2)] 111)).alloc (.cells #[.int .u64 (s1.y1 k 0), .int .u64 (s1.y1 k 1), .int .u64 (s1.y1 k 2)] 111)) w2.heap.size 111 #[.int .u64 (s0.y1 k 0), .int .u64 (s0.y1 k 1), .int .u64 (s0.y1 k 2)] := (Blk.new w2 _ _).alloc _
      have hBb : Blk ((w2.alloc (.cells #[.int .u64 (s0.y1 k 0), .int .u64 (s0.y1 k 1), .int .u64 (s0.y1 k 2)] 111)).alloc (.cells #[.int .u64 (s1.y1 k 0), .int .u64 (s1.y1 k 1), .int .u64 (s1.y1 k 2)] 111)) (w2.heap.size + 1) 111 #[.int .u64 (s1.y1 k 0), .int .u64 (s1.y1 k 1), .int .u64 (s1.y1 k 2)] := by
        have := Blk.new (w2.alloc (.cells #[.int .u64 (s0.y1 k 0), .int .u64 (s0.y1 k 1), .int .u64 (s0.y1 k 2)] 111)) 111 #[.int .u64 (s1.y1 k 0), .int .u64 (s1.y1 k 1), .int .u64 (s1.y1 k 2)]
        rwa [World.size_alloc] at this
      have H2 := Lib.hid (And.intro (((H1.out.new hb2).new hbl).new ((Below.refl _ ((w2.alloc (.cells #[.int .u64 (s0.y1 k 0), .int .u64 (s0.y1 k 1), .int .u64 (s0.y1 k 2)] 111)).alloc (.cells #[.int .u64 (s1.y1 k 0), .int .u64 (s1.y1 k 1), .int .u64 (s1.y1 k 2)] 111))).drew)) (And.intro hBa.drew (And.intro hBb.drew ((H1.out.new hb2).p0.lt (.inl rfl) |> fun _ => H1.out.new hb2))))
      have H2l := Lib.hid (And.intro (fun q hq => (H1.out.new hb2).p0.lt (q := q) hq) (fun q hq => (H1.out.new hb2).p1.lt (q := q) hq))
      have a0 := hBa.cell 0 rfl
      have a1 := hBa.cell 1 rfl
      have a2 := hBa.cell 2 rfl
      clear hb2 hbl hBa hBb H1
      go_wp2
      generalize ((w2.alloc (.cells #[.int .u64 (s0.y1 k 0), .int .u64 (s0.y1 k 1), .int .u64 (s0.y1 k 2)] 111)).alloc (.cells #[.int .u64 (s1.y1 k 0), .int .u64 (s1.y1 k 1), .int .u64 (s1.y1 k 2)] 111)) = w4 at *
      generalize w2.heap.size = m at *
      go_still_tail 4, (by kernel_rfl)
      change wpList _ _ _ _ _ (World.drew _)
      clear a0 a1 a2
      generalize w4.drew = w5 at *
      go_wp2_with fail
      refine (fadd0 H2.out.1.p0 (by rw [HS.out.a1]; exact hlt)).mono ?_
      rintro e w6 ⟨rfl, hf, hc⟩
      have H6 := Lib.hid (And.intro (H2.out.1.add0 HA.out hf hc) (H2.out.2.2.1.chg hc (fun e => by have := H2l.out.1 _ e; omega)))
      clear hf hc H2
      have b0 := H6.out.2.cell 0 rfl
      have b1 := H6.out.2.cell 1 rfl
      have b2 := H6.out.2.cell 2 rfl
      go_wp2
      go_still_tail 4, (by kernel_rfl)
      change wpList _ _ _ _ _ (World.drew _)
      clear b0 b1 b2
      have H7 := Lib.hid (H6.out.1.new (Below.refl _ w6).drew)
      clear H6
      generalize w6.drew = w7 at *
      go_wp2_with fail
      refine (fadd0 H7.out.p1 (by rw [HS.out.b1]; exact hlt)).mono ?_
      rintro e w8 ⟨rfl, hf, hc⟩
      have H8 := Lib.hid (H7.out.add1 HA.out hf hc)
      clear hf hc H7
      go_wp2
      go_roundw
      case rel => exact ⟨k + 1, by omega, by go_num, H8.out⟩
      case measure => simp [intOf]; omega
    · obtain rfl : n1 = k := by omega
      have lt1 : ¬ ((n1 : Int) < (n1 : Int)) := by omega
      obtain ⟨wA0, hwA0⟩ : ∃ x, x = wr := ⟨_, rfl⟩
      subst hwA0
      have HZ1 : Hid (Dl w g h N f s0 s1 n1 0 0 n1 0 0 (5 * (n1 + 0)) wA0) := HI
      clear HX HX0 HZ0
      clear HI
      go_wp2
      go_loopw [57] (fun i wr => ∃ k : Nat, k ≤ n2 ∧ i = .int .i64 k ∧ Hid (Dl w g h N f s0 s1 n1 k 0 n1 k 0 (5 * (n1 + k)) wr)) (fun i _ => n2 - (intOf i).toNat)
      case atStart => exact ⟨0, by omega, rfl, HZ1.out⟩
      case round =>
        obtain ⟨k, hk, rfl, HI⟩ := hrel
        have HX := HX1
        by_cases hlt : k < n2
        · have lt1 : (k : Int) < (n2 : Int) := by omega
          have e1 : IntKind.i64.wrap ((k : Int) + 1) = (k : Int) + 1 := i64_nat _ (by omega) (by have := HL.out.1; have := HL.out.2.1; have := HL.out.2.2.1; omega)
          obtain ⟨x, hx⟩ : ∃ x : Nat → Int, x = fun q => f ((5 * (n1 + k)) + q) := ⟨_, rfl⟩
          have HD := draw_any wr g h N f (5 * (n1 + k)) HI.out.tp (by have := HL.out.2.2.2; omega)
          have HK0 := HX.out k
          rw [← hx] at HD
          have HK : x 0 = s0.y2 k 0 ∧ x 2 = s0.y2 k 1 ∧ x 4 = s0.y2 k 2 ∧ x 1 = s1.y2 k 0 ∧ x 3 = s1.y2 k 1 ∧ bits .xor .u64 (bits .and .u64 (bits .xor .u64 (x 0) (x 1)) (bits .xor .u64 (x 2) (x 3))) (x 4) = s1.y2 k 2 := by subst hx; exact HK0
          have HDr := Lib.hid HD
          have HW := Lib.hid (fun w1 => splitB_want w1 x (s0.y2 k) (s1.y2 k) HK.1 HK.2.1 HK.2.2.1 HK.2.2.2.1 HK.2.2.2.2.1 HK.2.2.2.2.2)
          clear HD hx HX HK HK0
          go_wp2_with fail
          refine HDr.out.mono ?_
          rintro e w1 ⟨rfl, ht1, hk1⟩
          have H1 := Lib.hid (HI.out.draw HA.out (u' := (5 * (n1 + (k + 1)))) (by have := ht1; rwa [show (5 * (n1 + k)) + 5 = (5 * (n1 + (k + 1))) by omega] at this) hk1)
          clear ht1 hk1 HI HDr
          go_wp2_with fail
          refine (HW.out w1).mono ?_
          rintro e w2 ⟨rfl, hb2⟩
          have hbl : Below w2.heap.size w2 ((w2.alloc (.cells #[.int .u64 (s0.y2 k 0), .int .u64 (s0.y2 k 1), .int .u64 (s0.y2 k 2)] 111)).alloc (.cells #[.int .u64 (s1.y2 k 0), .int .u64 (s1.y2 k 1), .int .u64 (s1.y2 k 2)] 111)) := ((Below.refl _ w2).alloc (Nat.le_refl _) _).alloc (by simp) _
          have hBa : Blk ((w2.alloc (.cells #[.int .u64 (s0.y2 k 0), .int .u64 (s0.y2 k 1), .int .u64 (s0.y2 k 2)] 111)).alloc (.cells #[.int .u64 (s1.y2 k 0), .int .u64 (s1.y2 k 1), .int .u64 (s1.y2 k 2)] 111)) w2.heap.size 111 #[.int .u64 (s0.y2 k 0), .int .u64 (s0.y2 k 1), .int .u64 (s0.y2 k 2)] := (Blk.new w2 _ _).alloc _
          have hBb : Blk ((w2.alloc (.cells #[.int .u64 (s0.y2 k 0), .int .u64 (s0.y2 k 1), .int .u64 (s0.y2 k 2)] 111)).alloc (.cells #[.int .u64 (s1.y2 k 0), .int .u64 (s1.y2 k 1), .int .u64 (s1.y2 k 2)] 111)) (w2.heap.size + 1) 111 #[.int .u64 (s1.y2 k 0), .int .u64 (s1.y2 k 1), .int .u64 (s1.y2 k 2)] := by
            have := Blk.new (w2.alloc (.cells #[.int .u64 (s0.y2 k 0), .int .u64 (s0.y2 k 1), .int .u64 (s0.y2 k 2)] 111)) 111 #[.int .u64 (s1.y2 k 0), .int .u64 (s1.y2 k 1), .int .u64 (s1.y2 k 2)]
            rwa [World.size_alloc] at this
          have H2 := Lib.hid (And.intro (((H1.out.new hb2).new hbl).new ((Below.refl _ ((w2.alloc (.cells #[.int .u64 (s0.y2 k 0), .int .u64 (s0.y2 k 1), .int .u64 (s0.y2 k 2)] 111)).alloc (.cells #[.int .u64 (s1.y2 k 0), .int .u64 (s1.y2 k 1), .int .u64 (s1.y2 k 2)] 111))).drew)) (And.intro hBa.drew (And.intro hBb.drew ((H1.out.new hb2).p0.lt (.inl rfl) |> fun _ => H1.out.new hb2))))
          have H2l := Lib.hid (And.intro (fun q hq => (H1.out.new hb2).p0.lt (q := q) hq) (fun q hq => (H1.out.new hb2).p1.lt (q := q) hq))
          have a0 := hBa.cell 0 rfl
          have a1 := hBa.cell 1 rfl
          have a2 := hBa.cell 2 rfl
          clear hb2 hbl hBa hBb H1
          go_wp2
          generalize ((w2.alloc (.cells #[.int .u64 (s0.y2 k 0), .int .u64 (s0.y2 k 1), .int .u64 (s0.y2 k 2)] 111)).alloc (.cells #[.int .u64 (s1.y2 k 0), .int .u64 (s1.y2 k 1), .int .u64 (s1.y2 k 2)] 111)) = w4 at *
          generalize w2.heap.size = m at *
          go_still_tail 4, (by kernel_rfl)
          change wpList _ _ _ _ _ (World.drew _)
          clear a0 a1 a2
          generalize w4.drew = w5 at *
          go_wp2_with fail
          refine (fadd1 H2.out.1.p0 (by rw [HS.out.a2]; exact hlt)).mono ?_
          rintro e w6 ⟨rfl, hf, hc⟩
          have H6 := Lib.hid (And.intro (H2.out.1.add0 HA.out hf hc) (H2.out.2.2.1.chg hc (fun e => by have := H2l.out.1 _ e; omega)))
          clear hf hc H2
          have b0 := H6.out.2.cell 0 rfl
          have b1 := H6.out.2.cell 1 rfl
          have b2 := H6.out.2.cell 2 rfl
          go_wp2
          go_still_tail 4, (by kernel_rfl)
          change wpList _ _ _ _ _ (World.drew _)
          clear b0 b1 b2
          have H7 := Lib.hid (H6.out.1.new (Below.refl _ w6).drew)
          clear H6
          generalize w6.drew = w7 at *
          go_wp2_with fail
          refine (fadd1 H7.out.p1 (by rw [HS.out.b2]; exact hlt)).mono ?_
          rintro e w8 ⟨rfl, hf, hc⟩
          have H8 := Lib.hid (H7.out.add1 HA.out hf hc)
          clear hf hc H7
          go_wp2
          go_roundw
          case rel => exact ⟨k + 1, by omega, by go_num, H8.out⟩
          case measure => simp [intOf]; omega
        · obtain rfl : n2 = k := by omega
          have lt1 : ¬ ((n2 : Int) < (n2 : Int)) := by omega
          obtain ⟨wA1, hwA1⟩ : ∃ x, x = wr := ⟨_, rfl⟩
          subst hwA1
          have HZ2 : Hid (Dl w g h N f s0 s1 n1 n2 0 n1 n2 0 (5 * (n1 + n2 + 0)) wA1) := HI
          clear HX HX1 HZ1
          clear HI
          go_wp2
          go_loopw [77] (fun i wr => ∃ k : Nat, k ≤ n3 ∧ i = .int .i64 k ∧ Hid (Dl w g h N f s0 s1 n1 n2 k n1 n2 k (5 * (n1 + n2 + k)) wr)) (fun i _ => n3 - (intOf i).toNat)
          case atStart => exact ⟨0, by omega, rfl, HZ2.out⟩
          case round =>
            obtain ⟨k, hk, rfl, HI⟩ := hrel
            have HX := HX2
            by_cases hlt : k < n3
            · have lt1 : (k : Int) < (n3 : Int) := by omega
              have e1 : IntKind.i64.wrap ((k : Int) + 1) = (k : Int) + 1 := i64_nat _ (by omega) (by have := HL.out.1; have := HL.out.2.1; have := HL.out.2.2.1; omega)
              obtain ⟨x, hx⟩ : ∃ x : Nat → Int, x = fun q => f ((5 * (n1 + n2 + k)) + q) := ⟨_, rfl⟩
              have HD := draw_any wr g h N f (5 * (n1 + n2 + k)) HI.out.tp (by have := HL.out.2.2.2; omega)
              have HK0 := HX.out k
              rw [← hx] at HD
              have HK : (∀ q, q < 4 → x q = s0.y3 k q) ∧ s0.c3 k = false ∧ (∀ q, q < 2 → s1.y3 k q = if x 4 % 2 = 1 then x (2 + q) else x q) ∧ s1.y3 k 2 = 0 ∧ s1.y3 k 3 = 0 ∧ s1.c3 k = decide (x 4 % 2 = 1) := by subst hx; exact HK0
              have HDr := Lib.hid HD
              have HW := Lib.hid (fun w1 => splitO_want w1 x (s0.y3 k) (s1.y3 k) (s0.c3 k) (s1.c3 k) HK.1 HK.2.1 HK.2.2.1 HK.2.2.2.1 HK.2.2.2.2.1 HK.2.2.2.2.2)
              clear HD hx HX HK HK0
              go_wp2_with fail
              refine HDr.out.mono ?_
              rintro e w1 ⟨rfl, ht1, hk1⟩
              have H1 := Lib.hid (HI.out.draw HA.out (u' := (5 * (n1 + n2 + (k + 1)))) (by have := ht1; rwa [show (5 * (n1 + n2 + k)) + 5 = (5 * (n1 + n2 + (k + 1))) by omega] at this) hk1)
              clear ht1 hk1 HI HDr
              go_wp2_with fail
              refine (HW.out w1).mono ?_
              rintro e w2 ⟨rfl, hb2⟩
              have hbl : Below w2.heap.size w2 ((w2.alloc (.cells #[.int .u64 (s0.y3 k 0), .int .u64 (s0.y3 k 1), .int .u64 (s0.y3 k 2), .int .u64 (s0.y3 k 3), .bool (s0.c3 k)] 71)).alloc (.cells #[.int .u64 (s1.y3 k 0), .int .u64 (s1.y3 k 1), .int .u64 (s1.y3 k 2), .int .u64 (s1.y3 k 3), .bool (s1.c3 k)] 71)) := ((Below.refl _ w2).alloc (Nat.le_refl _) _).alloc (by simp) _
              have hBa : Blk ((w2.alloc (.cells #[.int .u64 (s0.y3 k 0), .int .u64 (s0.y3 k 1), .int .u64 (s0.y3 k 2), .int .u64 (s0.y3 k 3), .bool (s0.c3 k)] 71)).alloc (.cells #[.int .u64 (s1.y3 k 0), .int .u64 (s1.y3 k 1), .int .u64 (s1.y3 k 2), .int .u64 (s1.y3 k 3), .bool (s1.c3 k)] 71)) w2.heap.size 71 #[.int .u64 (s0.y3 k 0), .int .u64 (s0.y3 k 1), .int .u64 (s0.y3 k 2), .int .u64 (s0.y3 k 3), .bool (s0.c3 k)] := (Blk.new w2 _ _).alloc _
              have hBb : Blk ((w2.alloc (.cells #[.int .u64 (s0.y3 k 0), .int .u64 (s0.y3 k 1), .int .u64 (s0.y3 k 2), .int .u64 (s0.y3 k 3), .bool (s0.c3 k)] 71)).alloc (.cells #[.int .u64 (s1.y3 k 0), .int .u64 (s1.y3 k 1), .int .u64 (s1.y3 k 2), .int .u64 (s1.y3 k 3), .bool (s1.c3 k)] 71)) (w2.heap.size + 1) 71 #[.int .u64 (s1.y3 k 0), .int .u64 (s1.y3 k 1), .int .u64 (s1.y3 k 2), .int .u64 (s1.y3 k 3), .bool (s1.c3 k)] := by
                have := Blk.new (w2.alloc (.cells #[.int .u64 (s0.y3 k 0), .int .u64 (s0.y3 k 1), .int .u64 (s0.y3 k 2), .int .u64 (s0.y3 k 3), .bool (s0.c3 k)] 71)) 71 #[.int .u64 (s1.y3 k 0), .int .u64 (s1.y3 k 1), .int .u64 (s1.y3 k 2), .int .u64 (s1.y3 k 3), .bool (s1.c3 k)]
                rwa [World.size_alloc] at this
              have H2 := Lib.hid (And.intro (((H1.out.new hb2).new hbl).new ((Below.refl _ ((w2.alloc (.cells #[.int .u64 (s0.y3 k 0), .int .u64 (s0.y3 k 1), .int .u64 (s0.y3 k 2), .int .u64 (s0.y3 k 3), .bool (s0.c3 k)] 71)).alloc (.cells #[.int .u64 (s1.y3 k 0), .int .u64 (s1.y3 k 1), .int .u64 (s1.y3 k 2), .int .u64 (s1.y3 k 3), .bool (s1.c3 k)] 71))).drew)) (And.intro hBa.drew (And.intro hBb.drew ((H1.out.new hb2).p0.lt (.inl rfl) |> fun _ => H1.out.new hb2))))
              have H2l := Lib.hid (And.intro (fun q hq => (H1.out.new hb2).p0.lt (q := q) hq) (fun q hq => (H1.out.new hb2).p1.lt (q := q) hq))
              have a0 := hBa.cell 0 rfl
              have a1 := hBa.cell 1 rfl
              have a2 := hBa.cell 2 rfl
              have a3 := hBa.cell 3 rfl
              have a4 := hBa.cell 4 rfl
              clear hb2 hbl hBa hBb H1
              go_wp2
              generalize ((w2.alloc (.cells #[.int .u64 (s0.y3 k 0), .int .u64 (s0.y3 k 1), .int .u64 (s0.y3 k 2), .int .u64 (s0.y3 k 3), .bool (s0.c3 k)] 71)).alloc (.cells #[.int .u64 (s1.y3 k 0), .int .u64 (s1.y3 k 1), .int .u64 (s1.y3 k 2), .int .u64 (s1.y3 k 3), .bool (s1.c3 k)] 71)) = w4 at *
              generalize w2.heap.size = m at *
              go_still_tail 4, (by kernel_rfl)
              change wpList _ _ _ _ _ (World.drew _)
              clear a0 a1 a2 a3 a4
              generalize w4.drew = w5 at *
              go_wp2_with fail
              refine (fadd2 H2.out.1.p0 (by rw [HS.out.a3]; exact hlt)).mono ?_
              rintro e w6 ⟨rfl, hf, hc⟩
              have H6 := Lib.hid (And.intro (H2.out.1.add0 HA.out hf hc) (H2.out.2.2.1.chg hc (fun e => by have := H2l.out.1 _ e; omega)))
              clear hf hc H2
              have b0 := H6.out.2.cell 0 rfl
              have b1 := H6.out.2.cell 1 rfl
              have b2 := H6.out.2.cell 2 rfl
              have b3 := H6.out.2.cell 3 rfl
              have b4 := H6.out.2.cell 4 rfl
              go_wp2
              go_still_tail 4, (by kernel_rfl)
              change wpList _ _ _ _ _ (World.drew _)
              clear b0 b1 b2 b3 b4
              have H7 := Lib.hid (H6.out.1.new (Below.refl _ w6).drew)
              clear H6
              generalize w6.drew = w7 at *
              go_wp2_with fail
              refine (fadd2 H7.out.p1 (by rw [HS.out.b3]; exact hlt)).mono ?_
              rintro e w8 ⟨rfl, hf, hc⟩
              have H8 := Lib.hid (H7.out.add1 HA.out hf hc)
              clear hf hc H7
              go_wp2
              go_roundw
              case rel => exact ⟨k + 1, by omega, by go_num, H8.out⟩
              case measure => simp [intOf]; omega
            · obtain rfl : n3 = k := by omega
              have lt1 : ¬ ((n3 : Int) < (n3 : Int)) := by omega
              obtain ⟨wA2, hwA2⟩ : ∃ x, x = wr := ⟨_, rfl⟩
              subst hwA2
              have HZ3 : Hid (Dl w g h N f s0 s1 n1 n2 n3 n1 n2 n3 (5 * (n1 + n2 + n3)) wA2) := HI
              clear HX HX2 HZ2
              clear HI
              have r0 := HZ3.out.rb.cell 0 rfl
              have r1 := HZ3.out.rb.cell 1 rfl
              have zr := HZ3.out.rb.frozen
              go_wp2
              have hR := (HZ3.out.rb.set 0 (.pointer (some ⟨s0.g, 0, none⟩))).set 1 (.pointer (some ⟨s1.g, 0, none⟩))
              have q0 := hR.cell 0 rfl
              have q1 := hR.cell 1 rfl
              have hc : Chg (fun q => q = w.heap.size) wA2 ((wA2.setCell ⟨w.heap.size, 0, none⟩ (.pointer (some ⟨s0.g, 0, none⟩))).setCell ⟨w.heap.size, 1, none⟩ (.pointer (some ⟨s1.g, 0, none⟩))) := ((Chg.refl (fun q => q = w.heap.size) wA2).set (p := ⟨w.heap.size, 0, none⟩) (.inr rfl) _).set (p := ⟨w.heap.size, 1, none⟩) (.inr rfl) _
              exact bodyPost_ret (v := .tuple #[.agg #[.pointer (some ⟨s0.g, 0, none⟩), .pointer (some ⟨s1.g, 0, none⟩)], .nilIface]) (by simp [results, Tryd.results27, go_sem, q0, q1]) rfl
                ⟨s0, s1, rfl, HS.out, HA.out,
                  Stk.chg (Fil.full (by rw [HS.out.a1, HS.out.a2, HS.out.a3]; exact HZ3.out.p0) (by rw [HS.out.a1]; exact HL.out.1) (by rw [HS.out.a2]; exact HL.out.2.1) (by rw [HS.out.a3]; exact HL.out.2.2.1)) hc (fun q hq e => by have := HA.out.a0 q hq; omega),
                  Stk.chg (Fil.full (by rw [HS.out.b1, HS.out.b2, HS.out.b3]; exact HZ3.out.p1) (by rw [HS.out.b1]; exact HL.out.1) (by rw [HS.out.b2]; exact HL.out.2.1) (by rw [HS.out.b3]; exact HL.out.2.2.1)) hc (fun q hq e => by have := HA.out.a1 q hq; omega),
                  HZ3.out.tp.chg hc (by omega) (by omega), HZ3.out.ch.after hc fun q e => .inl (by omega)⟩
end Go.Proofs.YtamejhhjfnfalaaDoor.Co
