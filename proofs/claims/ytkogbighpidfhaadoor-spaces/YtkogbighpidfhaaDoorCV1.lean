/- Lists of flags, numbers and gates: those that are only read, those of the call's own that grow; small blocks; what changes. No function of the program. -/
import Derived.Test.YtkogbighpidfhaaDoorBB0
import Derived.Maps.AppendAt
import Derived.Deep.RegionLaw
import Derived.Deep.DeepAppendWide
import Derived.Laws.CopyRow
import Derived.Laws.MakeOwn
import Derived.Laws.Slices
namespace Go.Proofs.YtkogbighpidfhaaDoor
open Go.RowKit

section
variable {P : Program} {w : World} {ops : Array Oper} {rest : List Oper} {o : Oper} {a : Act} {K : Act → World → Prop} {Q : Exit → Act → World → Prop}
/-- An append whose run is known. -/
theorem wp_append_run (s x : Operand) (t : TypeId) (ho : o.op = .call { callee := .builtin .append, args := #[s, x], argTypes := #[t, t] }) (v x' v' : Value) (w' : World) (hs : a.eval s = v) (hx : a.eval x = x')
    (hr : (Builtin.append_ #[t, t] o.type #[v, x']).run P w = .ok v' w') (h : K (a.put o.dst v') w') : o.wp P a w K Q := by
  unfold Oper.wp execOp
  simp only [ho, resolve, invoke, builtin, Sem.run_bind, Sem.run_pure, Result.andThen_ok, List.map_toArray, List.map_cons, List.map_nil, hs, hx, hr]
  exact h
theorem wpList_append_run (hgd : o.guard = none) (s x : Operand) (t : TypeId) (ho : o.op = .call { callee := .builtin .append, args := #[s, x], argTypes := #[t, t] }) (v x' v' : Value) (w' : World) (hs : a.eval s = v) (hx : a.eval x = x')
    (hr : (Builtin.append_ #[t, t] o.type #[v, x']).run P w = .ok v' w') (h : wpList P ops Q rest (a.put o.dst v') w') : wpList P ops Q (o :: rest) a w :=
  wpList_plain hgd fun _ hK => wp_append_run s x t ho v x' v' w' hs hx hr (hK _ _ h)
end
theorem add_block (a : Addr) (n : Nat) : (a.add n).block = a.block := by unfold Addr.add; split <;> rfl
theorem add_add (a : Addr) (l i : Nat) : (a.add l).add i = a.add (l + i) := by
  unfold Addr.add
  by_cases h1 : l = 0
  · subst h1; simp
  · by_cases h2 : i = 0
    · subst h2; simp
    · simp [h1, h2]; omega

/-- Nothing changes but blocks of S. -/
structure Chg (S : Nat → Prop) (w w' : World) : Prop where
  os : w'.os = w.os
  tape : w'.tape = w.tape
  output : w'.output = w.output
  size : w.heap.size ≤ w'.heap.size
  block : ∀ k, k < w.heap.size → ¬ S k → w'.heap[k]? = w.heap[k]?
theorem Chg.refl (S : Nat → Prop) (w : World) : Chg S w w := ⟨rfl, rfl, rfl, Nat.le_refl _, fun _ _ _ => rfl⟩
theorem Chg.trans {S : Nat → Prop} {a b c : World} (h : Chg S a b) (h' : Chg S b c) : Chg S a c :=
  ⟨h'.os.trans h.os, h'.tape.trans h.tape, h'.output.trans h.output, Nat.le_trans h.size h'.size, fun k hk hg => (h'.block k (Nat.lt_of_lt_of_le hk h.size) hg).trans (h.block k hk hg)⟩
theorem Chg.mono {S S' : Nat → Prop} {a b : World} (h : Chg S a b) (hs : ∀ k, k < a.heap.size → S k → S' k) : Chg S' a b := ⟨h.os, h.tape, h.output, h.size, fun k hk hg => h.block k hk fun e => hg (hs k hk e)⟩
theorem Chg.of_below {S : Nat → Prop} {w w' : World} {B : Nat} (h : Below B w w') (hB : ∀ k, k < w.heap.size → B ≤ k → S k) : Chg S w w' :=
  ⟨h.os, h.tape, h.output, h.size, fun k hk hs => h.block k (Nat.lt_of_not_le fun e => hs (hB k hk e))⟩
theorem Chg.below {S : Nat → Prop} {w w' : World} (h : Chg S w w') {B : Nat} (hB : B ≤ w.heap.size) (hs : ∀ k, S k → B ≤ k) : Below B w w' :=
  ⟨h.os, h.tape, h.output, h.size, fun k hk => h.block k (by omega) fun e => by have := hs k e; omega⟩
theorem Chg.set {S : Nat → Prop} {w w' : World} (h : Chg S w w') {p : Addr} (hp : w.heap.size ≤ p.block ∨ S p.block) (v : Value) : Chg S w (w'.setCell p v) :=
  ⟨h.os, h.tape, h.output, by have := h.size; simpa [World.setCell] using this, fun k hk hg => (Below.heap_setCell w' p v k (by
    rintro rfl
    rcases hp with hp | hp
    · omega
    · exact hg hp)).trans (h.block k hk hg)⟩
theorem Chg.alloc {S : Nat → Prop} {w w' : World} (h : Chg S w w') (o : Obj) : Chg S w (w'.alloc o) :=
  h.trans (Chg.of_below ((Below.refl w'.heap.size w').alloc (Nat.le_refl _) o) (fun k hk hk' => by omega))
theorem Chg.drew {S : Nat → Prop} {w w' : World} (h : Chg S w w') : Chg S w w'.drew := ⟨h.os, h.tape, h.output, h.size, h.block⟩
theorem Chg.cell {S : Nat → Prop} {w w' : World} (h : Chg S w w') {p : Addr} {v : Value} (hc : w.cell? p = some v) (hp : ¬ S p.block) : w'.cell? p = some v :=
  (World.cell?_of_block (w := w) (h.block _ (World.block_lt_of_cell? _ _ hc) hp)).trans hc
theorem Chg.grown {S : Nat → Prop} {w w' w2 : World} {row : Option Nat} (h : Chg S w w') (hg : w'.grownBy w2 row) (hr : ∀ k, row = some k → w.heap.size ≤ k ∨ S k) : Chg S w w2 :=
  ⟨hg.os.trans h.os, hg.tape.trans h.tape, hg.output.trans h.output, Nat.le_trans h.size hg.size, fun k hk hs => (hg.block k (Nat.lt_of_lt_of_le hk h.size) (fun e => by
    rcases hr k e.symm with h1 | h1
    · omega
    · exact hs h1)).trans (h.block k hk hs)⟩

/-- A block is just these cells. -/
def Blk (w : World) (b t : Nat) (cs : Array Value) : Prop := w.heap[b]? = some (.cells cs t (0, 0))
section
variable {w w' : World} {b t : Nat} {cs : Array Value}
theorem Blk.lt (h : Blk w b t cs) : b < w.heap.size := (Array.getElem?_eq_some_iff.1 h).1
theorem Blk.cell (h : Blk w b t cs) (i : Nat) {v : Value} (hv : cs[i]? = some v) : w.cell? ⟨b, i, none⟩ = some v := by
  rw [cell_of_row w b i cs t (0, 0) h]; exact hv
theorem Blk.frozen (h : Blk w b t cs) (i : Nat) : w.frozen? ⟨b, i, none⟩ = false := by unfold Blk at h; simp [World.frozen?, h]
theorem Blk.set (h : Blk w b t cs) (i : Nat) (v : Value) : Blk (w.setCell ⟨b, i, none⟩ v) b t (cs.setIfInBounds i v) := by
  unfold Blk at h ⊢
  simp [World.setCell, Array.getElem?_modify, h]
theorem Blk.far (h : Blk w b t cs) {p : Addr} (hp : b ≠ p.block) (v : Value) : Blk (w.setCell p v) b t cs := (Below.heap_setCell w p v b hp).trans h
theorem Blk.alloc (h : Blk w b t cs) (o : Obj) : Blk (w.alloc o) b t cs := (Below.heap_alloc w o b h.lt).trans h
theorem Blk.drew (h : Blk w b t cs) : Blk w.drew b t cs := h
theorem Blk.below {B : Nat} (h : Blk w b t cs) (hb : Below B w w') (hg : b < B) : Blk w' b t cs := (hb.block b hg).trans h
theorem Blk.chg {S : Nat → Prop} (h : Blk w b t cs) (hc : Chg S w w') (hs : ¬ S b) : Blk w' b t cs := (hc.block b h.lt hs).trans h
theorem Blk.new (w : World) (t : Nat) (cs : Array Value) : Blk (w.alloc (.cells cs t)) w.heap.size t cs := heap_alloc_new w _
end

/-- Cells that are read from where a list begins, if it has any. -/
def AtV (w : World) (A : Option Addr) (n : Nat) (F : Nat → Value) : Prop := ∀ i, i < n → ∃ ad, A = some ad ∧ w.cell? (ad.add i) = some (F i)
section
variable {w w' : World} {A : Option Addr} {n m : Nat} {F G : Nat → Value}
theorem AtV.below (h : AtV w A n F) (hb : Below w.heap.size w w') : AtV w' A n F := fun i hi => by
  obtain ⟨ad, e, hc⟩ := h i hi
  exact ⟨ad, e, (hb.cell (World.block_lt_of_cell? _ _ hc)).trans hc⟩
theorem AtV.belowB {B : Nat} (h : AtV w A n F) (hb : Below B w w') (hA : ∀ ad, A = some ad → 0 < n → ad.block < B) : AtV w' A n F := fun i hi => by
  obtain ⟨ad, e, hc⟩ := h i hi
  exact ⟨ad, e, (hb.cell (by rw [add_block]; exact hA ad e (by omega))).trans hc⟩
theorem AtV.chg {S : Nat → Prop} (h : AtV w A n F) (hc : Chg S w w') (hs : ∀ ad, A = some ad → 0 < n → ¬ S ad.block) : AtV w' A n F := fun i hi => by
  obtain ⟨ad, e, h1⟩ := h i hi
  exact ⟨ad, e, hc.cell h1 (by rw [add_block]; exact hs ad e (by omega))⟩
theorem AtV.congr (h : AtV w A n F) (hf : ∀ i, i < n → F i = G i) : AtV w A n G := fun i hi => by
  obtain ⟨ad, e, hc⟩ := h i hi
  exact ⟨ad, e, by rw [← hf i hi]; exact hc⟩
theorem AtV.less (h : AtV w A n F) (hm : m ≤ n) : AtV w A m F := fun i hi => h i (by omega)
theorem AtV.zero : AtV w A 0 F := fun i hi => absurd hi (by omega)
theorem AtV.lt (h : AtV w A n F) : ∀ ad, A = some ad → 0 < n → ad.block < w.heap.size := fun ad e hn => by
  obtain ⟨ad', e', h1⟩ := h 0 hn
  have := World.block_lt_of_cell? _ _ h1
  rw [e] at e'; cases e'
  rwa [add_block] at this
end
/-- So many values, in a row. -/
def flat (n : Nat) (F : Nat → Value) : List Value := (List.range n).map F
theorem flat_length (n : Nat) (F : Nat → Value) : (flat n F).length = n := by simp [flat]
theorem flat_get (n : Nat) (F : Nat → Value) (i : Nat) (hi : i < n) : (flat n F)[i]? = some (F i) := by simp [flat, hi]
theorem flat_none (n : Nat) (F : Nat → Value) (i : Nat) (hi : n ≤ i) : (flat n F)[i]? = none := by simp [flat]; omega
theorem flat_congr {n : Nat} {F G : Nat → Value} (h : ∀ i, i < n → F i = G i) : flat n F = flat n G := by
  unfold flat
  apply List.map_congr_left
  intro q hq
  exact h q (List.mem_range.1 hq)
theorem flat_app (n m : Nat) (F G : Nat → Value) : flat n F ++ flat m G = flat (n + m) (fun i => if i < n then F i else G (i - n)) := by
  apply List.ext_getElem?
  intro i
  rcases Nat.lt_or_ge i n with hi | hi
  · rw [List.getElem?_append_left (by rw [flat_length]; exact hi), flat_get _ _ _ hi, flat_get _ _ _ (by omega), if_pos hi]
  · rw [List.getElem?_append_right (by rw [flat_length]; exact hi), flat_length]
    rcases Nat.lt_or_ge i (n + m) with h | h
    · rw [flat_get _ _ _ (by omega), flat_get _ _ _ h, if_neg (by omega)]
    · rw [flat_none _ _ _ (by omega), flat_none _ _ _ h]
theorem flat_one {n : Nat} {F : Nat → Value} (h : ∀ i, (F i).oneCell' = true) : ∀ u ∈ flat n F, u.oneCell' = true := by
  intro u hu
  simp only [flat, List.mem_map] at hu
  obtain ⟨q, _, rfl⟩ := hu
  exact h q
theorem AtV.news {w : World} {ad : Addr} {n : Nat} {F : Nat → Value} (h : AtV w (some ad) n F) : ∀ j u, (flat n F)[j]? = some u → w.cell? (ad.add j) = some u := by
  intro j u hu
  rcases Nat.lt_or_ge j n with hj | hj
  · rw [flat_get _ _ _ hj] at hu
    obtain ⟨ad', e, hc⟩ := h j hj
    cases e
    rw [← Option.some.inj hu]; exact hc
  · rw [flat_none _ _ _ hj] at hu; cases hu
/-- A list of the call's own, n things of s cells each. -/
def Row (w : World) (base e s : Nat) (v : Value) (n : Nat) (F : Nat → Value) : Prop := w.ownsRow base e s v n (flat (n * s) F)
section
variable {w w' : World} {base e s : Nat} {v : Value} {n : Nat} {F G : Nat → Value}
theorem Row.congr (h : Row w base e s v n F) (hf : ∀ i, i < n * s → F i = G i) : Row w base e s v n G := by
  unfold Row at h ⊢; rwa [flat_congr hf] at h
theorem Row.nil (w : World) (base e s : Nat) (F : Nat → Value) : Row w base e s (.slice none 0 0) 0 F := by
  unfold Row
  rw [Nat.zero_mul]
  exact World.ownsRow_nil _ _ _ _
theorem Row.alloc (h : Row w base e s v n F) (o : Obj) : Row (w.alloc o) base e s v n F := World.ownsRow.alloc h o
theorem Row.read (h : Row w base e s v n F) : ∃ A c, v = .slice A n c ∧ n ≤ c ∧ c ≤ maxLen ∧ (A = none → n = 0 ∧ c = 0) ∧ AtV w A (n * s) F ∧ (∀ ad, A = some ad → base ≤ ad.block ∧ ad.block < w.heap.size) ∧ ∀ ad, A = some ad → ∃ cur, Blk w ad.block e cur ∧ ad = ⟨ad.block, 0, none⟩ := by
  rcases h.2 with ⟨rfl, rfl⟩ | ⟨g, cap, cur, rfl, hb, hg, hnc, hm, hsz, ht⟩
  · exact ⟨none, 0, rfl, Nat.le_refl _, Nat.zero_le _, fun _ => ⟨rfl, rfl⟩, by rw [Nat.zero_mul]; exact AtV.zero, fun _ h => (by cases h), fun _ h => (by cases h)⟩
  · refine ⟨_, cap, rfl, hnc, hm, fun h => (by cases h), fun i hi => ⟨_, rfl, ?_⟩, fun ad h => by cases h; exact ⟨hb, (Array.getElem?_eq_some_iff.1 hg).1⟩, fun ad h => by cases h; exact ⟨cur, hg, rfl⟩⟩
    rw [Addr.add_mid, Nat.zero_add, cell_of_row w g i cur e (0, 0) hg]
    have : (cur.toList.take (n * s))[i]? = some (F i) := by rw [ht, flat_get _ _ _ hi]
    rw [List.getElem?_take, if_pos hi] at this
    simpa using this
theorem Row.chg {S : Nat → Prop} (h : Row w base e s v n F) (hc : Chg S w w') (hs : ∀ g, v.ownBlock = some g → ¬ S g) : Row w' base e s v n F := by
  refine ⟨h.1, ?_⟩
  rcases h.2 with h1 | ⟨g, cap, cur, rfl, hb, hg, rest⟩
  · exact .inl h1
  · exact .inr ⟨g, cap, cur, rfl, hb, (hc.block g (Array.getElem?_eq_some_iff.1 hg).1 (hs g rfl)).trans hg, rest⟩
theorem Row.below (h : Row w base e s v n F) (hb : Below w.heap.size w w') : Row w' base e s v n F := h.chg (Chg.of_below (S := fun _ => False) hb fun k h1 h2 => by omega) fun _ _ h => h
theorem Row.own (h : Row w base e s v n F) : ∀ g, v.ownBlock = some g → base ≤ g ∧ g < w.heap.size ∧ ∃ cur, Blk w g e cur := fun k hk => by
  rcases h.2 with ⟨rfl, _⟩ | ⟨g, cap, cur, rfl, hb, hg, rest⟩
  · cases hk
  · cases hk; exact ⟨hb, (Array.getElem?_eq_some_iff.1 hg).1, cur, hg⟩
theorem Row.mono {base' : Nat} (h : Row w base e s v n F) (hb : ∀ g, v.ownBlock = some g → base' ≤ g) : Row w base' e s v n F := by
  refine ⟨h.1, ?_⟩
  rcases h.2 with h1 | ⟨g, cap, cur, rfl, _, rest⟩
  · exact .inl h1
  · exact .inr ⟨g, cap, cur, rfl, hb g rfl, rest⟩
end
/-- What there is to know of a slice type and its elements' type. -/
structure Elt (sT eT : TypeId) (z : Value) (s b : Nat) : Prop where
  elem : Tryd.prog.elem sT = eT
  und : Tryd.prog.underlying sT = some (.slice eT)
  info : ∃ i, Tryd.prog.info? eT = some i ∧ i.zero = some z ∧ i.size = s ∧ i.bytes = b
  cells : z.cells.size = s
  pos : 0 < s
section
variable {sT eT : TypeId} {z : Value} {s b : Nat}
theorem Elt.size1 (E : Elt sT eT z s b) : (Tryd.prog.info? eT).map (·.size) = some s := by
  obtain ⟨i, hi, _, h, _⟩ := E.info
  rw [hi]; simp [h]
theorem Elt.sizeOf (E : Elt sT eT z s b) (w : World) : (Go.sizeOf (Tryd.prog.elem sT)).run Tryd.prog w = .ok s w := by
  obtain ⟨i, hi, _, h, _⟩ := E.info
  rw [E.elem]
  simp [Go.sizeOf, typeInfo, hi, h]
/-- The first h things of a list. -/
theorem run_head_row (E : Elt sT eT z s b) (w : World) (A : Option Addr) (n c h : Nat) (hc : h ≤ c) :
    (Instr.slice sT (.slice A n c) none (some (.int .i64 (h : Int))) none).run Tryd.prog w = .ok (.slice A h c) w := by
  have hr := run_slice_h w sT A n c (by rw [E.elem]; exact E.und) .i64 (h : Int) (by omega) (by omega)
  rw [E.sizeOf] at hr
  rw [hr]
  simp only [Result.andThen, sliced, Int.toNat_natCast, Nat.sub_zero, Nat.zero_mul]
  rcases A with _ | ad
  · simp
  · simp [Addr.add]
set_option maxRecDepth 100000 in
/-- append onto a list of the call's own. -/
theorem append_row (E : Elt sT eT z s b) (w : World) (base : Nat) (v : Value) (n m : Nat) (F G : Nat → Value) (A : Option Addr) (c : Nat) (hown : Row w base eT s v n F) (hA : AtV w A (m * s) G) (hc : A = none → m = 0 ∧ c = 0)
    (h1 : ∀ q, (G q).oneCell' = true) (hm : n + m ≤ maxLen) (hn : (n + m) * b ≤ 140737488355328) (hbase : base ≤ w.heap.size) :
    ∃ v' w', (∀ ty, (Builtin.append_ #[sT, sT] ty #[v, .slice A m c]).run Tryd.prog w = .ok v' w') ∧ Row w' base eT s v' (n + m) (fun i => if i < n * s then F i else G (i - n * s)) ∧ w.grownBy w' v.ownBlock ∧ (v' = .slice none 0 0 ↔ v = .slice none 0 0 ∧ m = 0) ∧ (v'.ownBlock = v.ownBlock ∨ v'.ownBlock = some w.heap.size) := by
  obtain ⟨i0, hi, hz0, hz1, hz2⟩ := E.info
  rcases A with _ | ad
  · obtain ⟨rfl, rfl⟩ := hc rfl
    refine ⟨v, w, fun ty => run_append_owned_none w base sT ty eT i0 s E.und hi v n _ hown, ?_, ⟨rfl, rfl, rfl, Nat.le_refl _, fun _ _ _ => rfl⟩, ⟨fun h => ⟨h, rfl⟩, fun h => h.1⟩, .inl rfl⟩
    rw [Nat.add_zero]
    exact Row.congr hown fun i hi => by rw [if_pos hi]
  · have key := fun ty => run_append_own_at w base sT ty eT i0 z s b E.und hi hz0 hz1 hz2 E.cells E.pos v n _ hown ad m c (flat (m * s) G) (flat_length _ _) hA.news (flat_one h1) hm hn hbase
    obtain ⟨v', w', hr, h2, h3, h4, h5⟩ := key 0
    refine ⟨v', w', fun ty => ?_, ?_, h3, h4, h5⟩
    · obtain ⟨v2, w2, hr2, _⟩ := key ty
      rw [← hr]
      rfl
    · unfold Row
      rw [Nat.add_mul, ← flat_app]
      exact h2
/-- make: so many zero things. -/
theorem run_make_row (E : Elt sT eT z s b) (w : World) (l c : Nat) (hlc : l ≤ c) (hc : c * b ≤ 281474976710656) (h63 : c ≤ 9223372036854775807) :
    (Instr.makeSlice sT (.int .i64 (l : Int)) (.int .i64 (c : Int))).run Tryd.prog w = .ok (.slice (some ⟨w.heap.size, 0, none⟩) l c) (w.alloc (.cells (madeCells z.cells (c * s)) eT)) := by
  obtain ⟨i0, hi, hz0, hz1, hz2⟩ := E.info
  have := run_make (P := Tryd.prog) w sT eT i0 z E.und hi hz0 .i64 .i64 (l : Int) (c : Int) (by omega) (by omega) (by rw [hz2, Int.mul_comm]; exact Int.ofNat_le.2 hc) (by omega)
  rw [hz1, Int.toNat_natCast, Int.toNat_natCast] at this
  exact this
end
theorem made_get (x : Value) (hx : x.cells = #[x]) (n i : Nat) (hi : i < n) : (madeCells x.cells n)[i]? = some x := by
  simp [madeCells, hi, hx, Nat.mod_one]
theorem made_size (x : Array Value) (n : Nat) : (madeCells x n : Array Value).size = n := by simp [madeCells]
end Go.Proofs.YtkogbighpidfhaaDoor
