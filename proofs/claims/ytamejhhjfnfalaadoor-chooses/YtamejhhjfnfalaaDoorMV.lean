/- Contracts of package circ and of the document's circuits. No condition beyond those that each theorem states. -/
import Derived.Test.YtamejhhjfnfalaaDoorMQ
import Derived.Test.YtamejhhjfnfalaaDoorME
import Derived.Maps.AppendAt
import Derived.Deep.RegionLaw
import Derived.Deep.DeepAppendWide
import Derived.Laws.CopyRow
import Derived.Laws.MakeOwn
import Derived.Laws.Slices
import Derived.KernelRfl
import Derived.BigQuiet
import Derived.StillTailTactics
/- Lists of flags, numbers and gates: those that are only read, those of the call's own that grow; small blocks; what changes. No function of the program. -/
namespace Go.Proofs.YtamejhhjfnfalaaDoor
open Go.RowKit

section
variable {P : Program} {w : World} {ops : Array Oper} {rest : List Oper} {o : Oper} {a : Act} {K : Act → World → Prop} {Q : Exit → Act → World → Prop}
/-- An append whose run is known. -/
theorem wp_append_run (s x : Operand) (t : TypeId) (ho : o.op = .call { callee := .builtin .append, args := #[s, x], argTypes := #[t, t] }) (v x' v' : Value) (w' : World) (hs : a.eval s = v) (hx : a.eval x = x')
    (hr : (Builtin.append_ #[t, t] o.type #[v, x']).run P w = .ok v' w') (h : K (a.put o.dst v') w') : o.wp P a w K Q := by
  unfold Oper.wp execOp
  simp only [ho, resolve, invoke, builtin, Sem.run_bind, Sem.run_pure, Result.andThen_ok, List.map_toArray, List.map_cons, List.map_nil, hs, hx, hr]
  exact h
theorem wpList_append_run (hgd : o.guard = none) (s x : Operand) (t : TypeId) (ho : o.op = .call { callee := .builtin .append, args := #[s, x], argTypes := #[t, t] }) (v x' v' : Value) (w' : World) (hs : a.eval s = v) (hx : a.eval x = x')
    (hr : (Builtin.append_ #[t, t] o.type #[v, x']).run P w = .ok v' w') (h : wpList P ops Q rest (a.put o.dst v') w') : wpList P ops Q (o :: rest) a w :=
  wpList_plain hgd fun _ hK => wp_append_run s x t ho v x' v' w' hs hx hr (hK _ _ h)
end
theorem add_block (a : Addr) (n : Nat) : (a.add n).block = a.block := by unfold Addr.add; split <;> rfl
theorem add_add (a : Addr) (l i : Nat) : (a.add l).add i = a.add (l + i) := by
  unfold Addr.add
  by_cases h1 : l = 0
  · subst h1; simp
  · by_cases h2 : i = 0
    · subst h2; simp
    · simp [h1, h2]; omega

/-- Nothing changes but blocks of S. -/
structure Chg (S : Nat → Prop) (w w' : World) : Prop where
  os : w'.os = w.os
  tape : w'.tape = w.tape
  output : w'.output = w.output
  size : w.heap.size ≤ w'.heap.size
  block : ∀ k, k < w.heap.size → ¬ S k → w'.heap[k]? = w.heap[k]?
theorem Chg.refl (S : Nat → Prop) (w : World) : Chg S w w := ⟨rfl, rfl, rfl, Nat.le_refl _, fun _ _ _ => rfl⟩
theorem Chg.trans {S : Nat → Prop} {a b c : World} (h : Chg S a b) (h' : Chg S b c) : Chg S a c :=
  ⟨h'.os.trans h.os, h'.tape.trans h.tape, h'.output.trans h.output, Nat.le_trans h.size h'.size, fun k hk hg => (h'.block k (Nat.lt_of_lt_of_le hk h.size) hg).trans (h.block k hk hg)⟩
theorem Chg.mono {S S' : Nat → Prop} {a b : World} (h : Chg S a b) (hs : ∀ k, k < a.heap.size → S k → S' k) : Chg S' a b := ⟨h.os, h.tape, h.output, h.size, fun k hk hg => h.block k hk fun e => hg (hs k hk e)⟩
theorem Chg.of_below {S : Nat → Prop} {w w' : World} {B : Nat} (h : Below B w w') (hB : ∀ k, k < w.heap.size → B ≤ k → S k) : Chg S w w' :=
  ⟨h.os, h.tape, h.output, h.size, fun k hk hs => h.block k (Nat.lt_of_not_le fun e => hs (hB k hk e))⟩
theorem Chg.below {S : Nat → Prop} {w w' : World} (h : Chg S w w') {B : Nat} (hB : B ≤ w.heap.size) (hs : ∀ k, S k → B ≤ k) : Below B w w' :=
  ⟨h.os, h.tape, h.output, h.size, fun k hk => h.block k (by omega) fun e => by have := hs k e; omega⟩
theorem Chg.set {S : Nat → Prop} {w w' : World} (h : Chg S w w') {p : Addr} (hp : w.heap.size ≤ p.block ∨ S p.block) (v : Value) : Chg S w (w'.setCell p v) :=
  ⟨h.os, h.tape, h.output, by have := h.size; simpa [World.setCell] using this, fun k hk hg => (Below.heap_setCell w' p v k (by
    rintro rfl
    rcases hp with hp | hp
    · omega
    · exact hg hp)).trans (h.block k hk hg)⟩
theorem Chg.alloc {S : Nat → Prop} {w w' : World} (h : Chg S w w') (o : Obj) : Chg S w (w'.alloc o) :=
  h.trans (Chg.of_below ((Below.refl w'.heap.size w').alloc (Nat.le_refl _) o) (fun k hk hk' => by omega))
theorem Chg.drew {S : Nat → Prop} {w w' : World} (h : Chg S w w') : Chg S w w'.drew := ⟨h.os, h.tape, h.output, h.size, h.block⟩
theorem Chg.cell {S : Nat → Prop} {w w' : World} (h : Chg S w w') {p : Addr} {v : Value} (hc : w.cell? p = some v) (hp : ¬ S p.block) : w'.cell? p = some v :=
  (World.cell?_of_block (w := w) (h.block _ (World.block_lt_of_cell? _ _ hc) hp)).trans hc
theorem Chg.grown {S : Nat → Prop} {w w' w2 : World} {row : Option Nat} (h : Chg S w w') (hg : w'.grownBy w2 row) (hr : ∀ k, row = some k → w.heap.size ≤ k ∨ S k) : Chg S w w2 :=
  ⟨hg.os.trans h.os, hg.tape.trans h.tape, hg.output.trans h.output, Nat.le_trans h.size hg.size, fun k hk hs => (hg.block k (Nat.lt_of_lt_of_le hk h.size) (fun e => by
    rcases hr k e.symm with h1 | h1
    · omega
    · exact hs h1)).trans (h.block k hk hs)⟩

/-- A block is just these cells. -/
def Blk (w : World) (b t : Nat) (cs : Array Value) : Prop := w.heap[b]? = some (.cells cs t (0, 0))
section
variable {w w' : World} {b t : Nat} {cs : Array Value}
theorem Blk.lt (h : Blk w b t cs) : b < w.heap.size := (Array.getElem?_eq_some_iff.1 h).1
theorem Blk.cell (h : Blk w b t cs) (i : Nat) {v : Value} (hv : cs[i]? = some v) : w.cell? ⟨b, i, none⟩ = some v := by
  rw [cell_of_row w b i cs t (0, 0) h]; exact hv
theorem Blk.frozen (h : Blk w b t cs) (i : Nat) : w.frozen? ⟨b, i, none⟩ = false := by unfold Blk at h; simp [World.frozen?, h]
theorem Blk.set (h : Blk w b t cs) (i : Nat) (v : Value) : Blk (w.setCell ⟨b, i, none⟩ v) b t (cs.setIfInBounds i v) := by
  unfold Blk at h ⊢
  simp [World.setCell, Array.getElem?_modify, h]
theorem Blk.far (h : Blk w b t cs) {p : Addr} (hp : b ≠ p.block) (v : Value) : Blk (w.setCell p v) b t cs := (Below.heap_setCell w p v b hp).trans h
theorem Blk.alloc (h : Blk w b t cs) (o : Obj) : Blk (w.alloc o) b t cs := (Below.heap_alloc w o b h.lt).trans h
theorem Blk.drew (h : Blk w b t cs) : Blk w.drew b t cs := h
theorem Blk.below {B : Nat} (h : Blk w b t cs) (hb : Below B w w') (hg : b < B) : Blk w' b t cs := (hb.block b hg).trans h
theorem Blk.chg {S : Nat → Prop} (h : Blk w b t cs) (hc : Chg S w w') (hs : ¬ S b) : Blk w' b t cs := (hc.block b h.lt hs).trans h
theorem Blk.new (w : World) (t : Nat) (cs : Array Value) : Blk (w.alloc (.cells cs t)) w.heap.size t cs := heap_alloc_new w _
end

/-- Cells that are read from where a list begins, if it has any. -/
def AtV (w : World) (A : Option Addr) (n : Nat) (F : Nat → Value) : Prop := ∀ i, i < n → ∃ ad, A = some ad ∧ w.cell? (ad.add i) = some (F i)
section
variable {w w' : World} {A : Option Addr} {n m : Nat} {F G : Nat → Value}
theorem AtV.below (h : AtV w A n F) (hb : Below w.heap.size w w') : AtV w' A n F := fun i hi => by
  obtain ⟨ad, e, hc⟩ := h i hi
  exact ⟨ad, e, (hb.cell (World.block_lt_of_cell? _ _ hc)).trans hc⟩
theorem AtV.belowB {B : Nat} (h : AtV w A n F) (hb : Below B w w') (hA : ∀ ad, A = some ad → 0 < n → ad.block < B) : AtV w' A n F := fun i hi => by
  obtain ⟨ad, e, hc⟩ := h i hi
  exact ⟨ad, e, (hb.cell (by rw [add_block]; exact hA ad e (by omega))).trans hc⟩
theorem AtV.chg {S : Nat → Prop} (h : AtV w A n F) (hc : Chg S w w') (hs : ∀ ad, A = some ad → 0 < n → ¬ S ad.block) : AtV w' A n F := fun i hi => by
  obtain ⟨ad, e, h1⟩ := h i hi
  exact ⟨ad, e, hc.cell h1 (by rw [add_block]; exact hs ad e (by omega))⟩
theorem AtV.congr (h : AtV w A n F) (hf : ∀ i, i < n → F i = G i) : AtV w A n G := fun i hi => by
  obtain ⟨ad, e, hc⟩ := h i hi
  exact ⟨ad, e, by rw [← hf i hi]; exact hc⟩
theorem AtV.less (h : AtV w A n F) (hm : m ≤ n) : AtV w A m F := fun i hi => h i (by omega)
theorem AtV.zero : AtV w A 0 F := fun i hi => absurd hi (by omega)
theorem AtV.lt (h : AtV w A n F) : ∀ ad, A = some ad → 0 < n → ad.block < w.heap.size := fun ad e hn => by
  obtain ⟨ad', e', h1⟩ := h 0 hn
  have := World.block_lt_of_cell? _ _ h1
  rw [e] at e'; cases e'
  rwa [add_block] at this
end
/-- So many values, in a row. -/
def flat (n : Nat) (F : Nat → Value) : List Value := (List.range n).map F
theorem flat_length (n : Nat) (F : Nat → Value) : (flat n F).length = n := by simp [flat]
theorem flat_get (n : Nat) (F : Nat → Value) (i : Nat) (hi : i < n) : (flat n F)[i]? = some (F i) := by simp [flat, hi]
theorem flat_none (n : Nat) (F : Nat → Value) (i : Nat) (hi : n ≤ i) : (flat n F)[i]? = none := by simp [flat]; omega
theorem flat_congr {n : Nat} {F G : Nat → Value} (h : ∀ i, i < n → F i = G i) : flat n F = flat n G := by
  unfold flat
  apply List.map_congr_left
  intro q hq
  exact h q (List.mem_range.1 hq)
theorem flat_app (n m : Nat) (F G : Nat → Value) : flat n F ++ flat m G = flat (n + m) (fun i => if i < n then F i else G (i - n)) := by
  apply List.ext_getElem?
  intro i
  rcases Nat.lt_or_ge i n with hi | hi
  · rw [List.getElem?_append_left (by rw [flat_length]; exact hi), flat_get _ _ _ hi, flat_get _ _ _ (by omega), if_pos hi]
  · rw [List.getElem?_append_right (by rw [flat_length]; exact hi), flat_length]
    rcases Nat.lt_or_ge i (n + m) with h | h
    · rw [flat_get _ _ _ (by omega), flat_get _ _ _ h, if_neg (by omega)]
    · rw [flat_none _ _ _ (by omega), flat_none _ _ _ h]
theorem flat_one {n : Nat} {F : Nat → Value} (h : ∀ i, (F i).oneCell' = true) : ∀ u ∈ flat n F, u.oneCell' = true := by
  intro u hu
  simp only [flat, List.mem_map] at hu
  obtain ⟨q, _, rfl⟩ := hu
  exact h q
theorem AtV.news {w : World} {ad : Addr} {n : Nat} {F : Nat → Value} (h : AtV w (some ad) n F) : ∀ j u, (flat n F)[j]? = some u → w.cell? (ad.add j) = some u := by
  intro j u hu
  rcases Nat.lt_or_ge j n with hj | hj
  · rw [flat_get _ _ _ hj] at hu
    obtain ⟨ad', e, hc⟩ := h j hj
    cases e
    rw [← Option.some.inj hu]; exact hc
  · rw [flat_none _ _ _ hj] at hu; cases hu
/-- A list of the call's own, n things of s cells each. -/
def Row (w : World) (base e s : Nat) (v : Value) (n : Nat) (F : Nat → Value) : Prop := w.ownsRow base e s v n (flat (n * s) F)
section
variable {w w' : World} {base e s : Nat} {v : Value} {n : Nat} {F G : Nat → Value}
theorem Row.congr (h : Row w base e s v n F) (hf : ∀ i, i < n * s → F i = G i) : Row w base e s v n G := by
  unfold Row at h ⊢; rwa [flat_congr hf] at h
theorem Row.nil (w : World) (base e s : Nat) (F : Nat → Value) : Row w base e s (.slice none 0 0) 0 F := by
  unfold Row
  rw [Nat.zero_mul]
  exact World.ownsRow_nil _ _ _ _
theorem Row.alloc (h : Row w base e s v n F) (o : Obj) : Row (w.alloc o) base e s v n F := World.ownsRow.alloc h o
theorem Row.read (h : Row w base e s v n F) : ∃ A c, v = .slice A n c ∧ n ≤ c ∧ c ≤ maxLen ∧ (A = none → n = 0 ∧ c = 0) ∧ AtV w A (n * s) F ∧ (∀ ad, A = some ad → base ≤ ad.block ∧ ad.block < w.heap.size) ∧ ∀ ad, A = some ad → ∃ cur, Blk w ad.block e cur ∧ ad = ⟨ad.block, 0, none⟩ := by
  rcases h.2 with ⟨rfl, rfl⟩ | ⟨g, cap, cur, rfl, hb, hg, hnc, hm, hsz, ht⟩
  · exact ⟨none, 0, rfl, Nat.le_refl _, Nat.zero_le _, fun _ => ⟨rfl, rfl⟩, by rw [Nat.zero_mul]; exact AtV.zero, fun _ h => (by cases h), fun _ h => (by cases h)⟩
  · refine ⟨_, cap, rfl, hnc, hm, fun h => (by cases h), fun i hi => ⟨_, rfl, ?_⟩, fun ad h => by cases h; exact ⟨hb, (Array.getElem?_eq_some_iff.1 hg).1⟩, fun ad h => by cases h; exact ⟨cur, hg, rfl⟩⟩
    rw [Addr.add_mid, Nat.zero_add, cell_of_row w g i cur e (0, 0) hg]
    have : (cur.toList.take (n * s))[i]? = some (F i) := by rw [ht, flat_get _ _ _ hi]
    rw [List.getElem?_take, if_pos hi] at this
    simpa using this
theorem Row.chg {S : Nat → Prop} (h : Row w base e s v n F) (hc : Chg S w w') (hs : ∀ g, v.ownBlock = some g → ¬ S g) : Row w' base e s v n F := by
  refine ⟨h.1, ?_⟩
  rcases h.2 with h1 | ⟨g, cap, cur, rfl, hb, hg, rest⟩
  · exact .inl h1
  · exact .inr ⟨g, cap, cur, rfl, hb, (hc.block g (Array.getElem?_eq_some_iff.1 hg).1 (hs g rfl)).trans hg, rest⟩
theorem Row.below (h : Row w base e s v n F) (hb : Below w.heap.size w w') : Row w' base e s v n F := h.chg (Chg.of_below (S := fun _ => False) hb fun k h1 h2 => by omega) fun _ _ h => h
theorem Row.own (h : Row w base e s v n F) : ∀ g, v.ownBlock = some g → base ≤ g ∧ g < w.heap.size ∧ ∃ cur, Blk w g e cur := fun k hk => by
  rcases h.2 with ⟨rfl, _⟩ | ⟨g, cap, cur, rfl, hb, hg, rest⟩
  · cases hk
  · cases hk; exact ⟨hb, (Array.getElem?_eq_some_iff.1 hg).1, cur, hg⟩
theorem Row.mono {base' : Nat} (h : Row w base e s v n F) (hb : ∀ g, v.ownBlock = some g → base' ≤ g) : Row w base' e s v n F := by
  refine ⟨h.1, ?_⟩
  rcases h.2 with h1 | ⟨g, cap, cur, rfl, _, rest⟩
  · exact .inl h1
  · exact .inr ⟨g, cap, cur, rfl, hb g rfl, rest⟩
end
/-- What there is to know of a slice type and its elements' type. -/
structure Elt (sT eT : TypeId) (z : Value) (s b : Nat) : Prop where
  elem : Tryd.prog.elem sT = eT
  und : Tryd.prog.underlying sT = some (.slice eT)
  info : ∃ i, Tryd.prog.info? eT = some i ∧ i.zero = some z ∧ i.size = s ∧ i.bytes = b
  cells : z.cells.size = s
  pos : 0 < s
section
variable {sT eT : TypeId} {z : Value} {s b : Nat}
theorem Elt.size1 (E : Elt sT eT z s b) : (Tryd.prog.info? eT).map (·.size) = some s := by
  obtain ⟨i, hi, _, h, _⟩ := E.info
  rw [hi]; simp [h]
theorem Elt.sizeOf (E : Elt sT eT z s b) (w : World) : (Go.sizeOf (Tryd.prog.elem sT)).run Tryd.prog w = .ok s w := by
  obtain ⟨i, hi, _, h, _⟩ := E.info
  rw [E.elem]
  simp [Go.sizeOf, typeInfo, hi, h]
/-- The first h things of a list. -/
theorem run_head_row (E : Elt sT eT z s b) (w : World) (A : Option Addr) (n c h : Nat) (hc : h ≤ c) :
    (Instr.slice sT (.slice A n c) none (some (.int .i64 (h : Int))) none).run Tryd.prog w = .ok (.slice A h c) w := by
  have hr := run_slice_h w sT A n c (by rw [E.elem]; exact E.und) .i64 (h : Int) (by omega) (by omega)
  rw [E.sizeOf] at hr
  rw [hr]
  simp only [Result.andThen, sliced, Int.toNat_natCast, Nat.sub_zero, Nat.zero_mul]
  rcases A with _ | ad
  · simp
  · simp [Addr.add]
set_option maxRecDepth 100000 in
/-- append onto a list of the call's own. -/
theorem append_row (E : Elt sT eT z s b) (w : World) (base : Nat) (v : Value) (n m : Nat) (F G : Nat → Value) (A : Option Addr) (c : Nat) (hown : Row w base eT s v n F) (hA : AtV w A (m * s) G) (hc : A = none → m = 0 ∧ c = 0)
    (h1 : ∀ q, (G q).oneCell' = true) (hm : n + m ≤ maxLen) (hn : (n + m) * b ≤ 140737488355328) (hbase : base ≤ w.heap.size) :
    ∃ v' w', (∀ ty, (Builtin.append_ #[sT, sT] ty #[v, .slice A m c]).run Tryd.prog w = .ok v' w') ∧ Row w' base eT s v' (n + m) (fun i => if i < n * s then F i else G (i - n * s)) ∧ w.grownBy w' v.ownBlock ∧ (v' = .slice none 0 0 ↔ v = .slice none 0 0 ∧ m = 0) ∧ (v'.ownBlock = v.ownBlock ∨ v'.ownBlock = some w.heap.size) := by
  obtain ⟨i0, hi, hz0, hz1, hz2⟩ := E.info
  rcases A with _ | ad
  · obtain ⟨rfl, rfl⟩ := hc rfl
    refine ⟨v, w, fun ty => run_append_owned_none w base sT ty eT i0 s E.und hi v n _ hown, ?_, ⟨rfl, rfl, rfl, Nat.le_refl _, fun _ _ _ => rfl⟩, ⟨fun h => ⟨h, rfl⟩, fun h => h.1⟩, .inl rfl⟩
    rw [Nat.add_zero]
    exact Row.congr hown fun i hi => by rw [if_pos hi]
  · have key := fun ty => run_append_own_at w base sT ty eT i0 z s b E.und hi hz0 hz1 hz2 E.cells E.pos v n _ hown ad m c (flat (m * s) G) (flat_length _ _) hA.news (flat_one h1) hm hn hbase
    obtain ⟨v', w', hr, h2, h3, h4, h5⟩ := key 0
    refine ⟨v', w', fun ty => ?_, ?_, h3, h4, h5⟩
    · obtain ⟨v2, w2, hr2, _⟩ := key ty
      rw [← hr]
      rfl
    · unfold Row
      rw [Nat.add_mul, ← flat_app]
      exact h2
/-- make: so many zero things. -/
theorem run_make_row (E : Elt sT eT z s b) (w : World) (l c : Nat) (hlc : l ≤ c) (hc : c * b ≤ 281474976710656) (h63 : c ≤ 9223372036854775807) :
    (Instr.makeSlice sT (.int .i64 (l : Int)) (.int .i64 (c : Int))).run Tryd.prog w = .ok (.slice (some ⟨w.heap.size, 0, none⟩) l c) (w.alloc (.cells (madeCells z.cells (c * s)) eT)) := by
  obtain ⟨i0, hi, hz0, hz1, hz2⟩ := E.info
  have := run_make (P := Tryd.prog) w sT eT i0 z E.und hi hz0 .i64 .i64 (l : Int) (c : Int) (by omega) (by omega) (by rw [hz2, Int.mul_comm]; exact Int.ofNat_le.2 hc) (by omega)
  rw [hz1, Int.toNat_natCast, Int.toNat_natCast] at this
  exact this
end
theorem made_get (x : Value) (hx : x.cells = #[x]) (n i : Nat) (hi : i < n) : (madeCells x.cells n)[i]? = some x := by
  simp [madeCells, hi, hx, Nat.mod_one]
theorem made_size (x : Array Value) (n : Nat) : (madeCells x n : Array Value).size = n := by simp [madeCells]
end Go.Proofs.YtamejhhjfnfalaaDoor

/- Plain mathematics for the circuit laws: circuits as functions of the place: which are good, what their gates make, how many are And. No function of the program. -/
namespace Go.Proofs.YtamejhhjfnfalaaDoor
namespace Circ

/-- A gate that may be so, its own wire known. -/
def FitsP (k a b wire : Int) : Prop := (k = 1 ∨ k = 2) ∧ 0 ≤ a ∧ a < wire ∧ 0 ≤ b ∧ b < wire ∨ k = 3 ∧ 0 ≤ a ∧ a < wire ∧ b = 0
instance (k a b wire : Int) : Decidable (FitsP k a b wire) := by unfold FitsP; infer_instance
/-- A circuit. -/
structure Good (N : Int) (n : Nat) (y : Nat → Nat → Int) (m : Nat) (o : Nat → Int) : Prop where
  n0 : 0 ≤ N
  n1 : N ≤ 4096
  g : n ≤ 4096
  u : m ≤ 64
  fit : ∀ i, i < n → FitsP (y i 0) (y i 1) (y i 2) (N + i)
  out : ∀ i, i < m → 0 ≤ o i ∧ o i < N + n
/-- What a gate makes of two bits. -/
def gate (k : Int) (x y : Bool) : Bool := if k = 1 then x != y else if k = 2 then x && y else !x
/-- The wires' bits behind so many gates. -/
def vals (N : Nat) (f : Nat → Bool) (y : Nat → Nat → Int) : Nat → Nat → Bool
  | 0 => f
  | k + 1 => fun i => if i = N + k then gate (y k 0) (vals N f y k (y k 1).toNat) (vals N f y k (y k 2).toNat) else vals N f y k i
theorem vals_old (N : Nat) (f : Nat → Bool) (y : Nat → Nat → Int) (k : Nat) : ∀ j i, i < N + k → vals N f y (k + j) i = vals N f y k i
  | 0, _, _ => rfl
  | j + 1, i, h => by
    show (if i = N + (k + j) then _ else vals N f y (k + j) i) = _
    rw [if_neg (by omega)]
    exact vals_old N f y k j i h
theorem vals_in (N : Nat) (f : Nat → Bool) (y : Nat → Nat → Int) (k i : Nat) (h : i < N) : vals N f y k i = f i := by
  have := vals_old N f y 0 k i h
  rw [Nat.zero_add] at this
  exact this
theorem vals_new (N : Nat) (f : Nat → Bool) (y : Nat → Nat → Int) (k : Nat) : vals N f y (k + 1) (N + k) = gate (y k 0) (vals N f y k (y k 1).toNat) (vals N f y k (y k 2).toNat) := by
  show (if N + k = N + k then _ else _) = _
  rw [if_pos rfl]
theorem vals_congr {N : Nat} {f g : Nat → Bool} {y z : Nat → Nat → Int} : ∀ k, (∀ i, i < N → f i = g i) → (∀ i j, i < k → j < 3 → y i j = z i j) → (∀ i, i < k → FitsP (y i 0) (y i 1) (y i 2) ((N : Int) + i)) → ∀ i, i < N + k → vals N f y k i = vals N g z k i
  | 0, hf, _, _, i, hi => hf i hi
  | k + 1, hf, hy, hF, i, hi => by
    have ih := vals_congr k hf (fun i j hi hj => hy i j (by omega) hj) (fun i hi => hF i (by omega))
    show (if i = N + k then _ else vals N f y k i) = (if i = N + k then _ else vals N g z k i)
    by_cases e : i = N + k
    · rw [if_pos e, if_pos e, ← hy k 0 (by omega) (by omega), ← hy k 1 (by omega) (by omega), ← hy k 2 (by omega) (by omega)]
      have h1 : (y k 1).toNat < N + k := by
        rcases hF k (by omega) with ⟨_, h⟩ | ⟨_, h⟩ <;> omega
      rw [ih _ h1]
      unfold gate
      rcases hF k (by omega) with ⟨h0, h⟩ | ⟨h0, h⟩
      · rw [ih _ (by omega)]
      · rw [if_neg (by omega), if_neg (by omega), if_neg (by omega), if_neg (by omega)]
    · rw [if_neg e, if_neg e]
      exact ih i (by omega)
/-- And gates among the first k. -/
def ands (y : Nat → Nat → Int) : Nat → Nat
  | 0 => 0
  | k + 1 => if y k 0 = 2 then ands y k + 1 else ands y k
theorem ands_le (y : Nat → Nat → Int) : ∀ k, ands y k ≤ k
  | 0 => Nat.le_refl _
  | k + 1 => by
    have := ands_le y k
    unfold ands
    split <;> omega
theorem ands_congr {y z : Nat → Nat → Int} : ∀ k, (∀ i, i < k → y i 0 = z i 0) → ands y k = ands z k
  | 0, _ => rfl
  | k + 1, h => by
    unfold ands
    rw [h k (by omega), ands_congr k (fun i hi => h i (by omega))]
theorem ands_more (y : Nat → Nat → Int) (n : Nat) : ∀ k, (∀ i, n ≤ i → i < n + k → y i 0 ≠ 2) → ands y (n + k) = ands y n
  | 0, _ => rfl
  | k + 1, h => by
    show (if y (n + k) 0 = 2 then _ else ands y (n + k)) = _
    rw [if_neg (h _ (by omega) (by omega))]
    exact ands_more y n k fun i h1 h2 => h i h1 (by omega)
end Circ
end Go.Proofs.YtamejhhjfnfalaaDoor

/- Contracts of circ's ahead, fits; what a circuit's lists are in memory. -/
namespace Go.Proofs.YtamejhhjfnfalaaDoor
open Go.RowKit

theorem drewN_below (B : Nat) (w : World) (q : Nat) : Below B w (w.drewN q) := ⟨rfl, rfl, rfl, Nat.le_refl _, fun _ _ => rfl⟩
/-- A gate's cells, a number, a flag. -/
def gv (y : Nat → Nat → Int) (q : Nat) : Value := .int .i64 (y (q / 3) (q % 3))
def iv (o : Nat → Int) (q : Nat) : Value := .int .i64 (o q)
def bv (f : Nat → Bool) (q : Nat) : Value := .bool (f q)
theorem gv_one (y : Nat → Nat → Int) (q : Nat) : (gv y q).oneCell' = true := rfl
theorem iv_one (o : Nat → Int) (q : Nat) : (iv o q).oneCell' = true := rfl
theorem bv_one (f : Nat → Bool) (q : Nat) : (bv f q).oneCell' = true := rfl
theorem eltB : Elt 49 4 (.bool false) 1 1 := ⟨by kernel_rfl, Tryd.underlying49, info_parts (by kernel_rfl), rfl, by omega⟩
theorem eltI : Elt 23 3 (.int .i64 0) 1 8 := ⟨by kernel_rfl, Tryd.underlying23, info_parts (by kernel_rfl), rfl, by omega⟩
theorem eltG : Elt 22 84 (.agg #[.int .i64 0, .int .i64 0, .int .i64 0]) 3 24 := ⟨by kernel_rfl, Tryd.underlying22, info_parts (by kernel_rfl), rfl, by omega⟩
theorem eltR : Elt 40 96 (.agg #[.int .i64 0, .int .i64 0, .int .i64 0]) 3 24 := ⟨by kernel_rfl, Tryd.underlying40, info_parts (by kernel_rfl), rfl, by omega⟩
/-- A gate's three cells, at its place. -/
theorem AtV.gate {w : World} {A : Option Addr} {n : Nat} {y : Nat → Nat → Int} (h : AtV w A (n * 3) (gv y)) (i : Nat) (hi : i < n) :
    ∃ ad, A = some ad ∧ ∃ ae, ad.add (i * 3) = ae ∧ w.cell? ae = some (.int .i64 (y i 0)) ∧ w.cell? ⟨ae.block, ae.off + 1, none⟩ = some (.int .i64 (y i 1)) ∧ w.cell? ⟨ae.block, ae.off + 2, none⟩ = some (.int .i64 (y i 2)) ∧ ad.block = ae.block := by
  obtain ⟨ad, rfl, h0⟩ := h (i * 3) (by omega)
  have key : ∀ j, 0 < j → j < 3 → w.cell? ⟨(ad.add (i * 3)).block, (ad.add (i * 3)).off + j, none⟩ = some (.int .i64 (y i j)) := fun j h1 h2 => by
    obtain ⟨ad', e, hc⟩ := h (i * 3 + j) (by omega)
    cases e
    rw [← add_add] at hc
    unfold gv at hc
    rw [show (i * 3 + j) / 3 = i by omega, show (i * 3 + j) % 3 = j by omega] at hc
    have : (ad.add (i * 3)).add j = ⟨(ad.add (i * 3)).block, (ad.add (i * 3)).off + j, none⟩ := by
      generalize ad.add (i * 3) = ae
      unfold Addr.add
      rw [if_neg (by omega)]
    rw [this] at hc
    exact hc
  unfold gv at h0
  rw [show i * 3 / 3 = i by omega, show i * 3 % 3 = 0 by omega] at h0
  have k1 := key 1 (by omega) (by omega)
  have k2 := key 2 (by omega) (by omega)
  have hb : (ad.add (i * 3)).block = ad.block := add_block _ _
  exact ⟨ad, rfl, _, rfl, h0, k1, k2, hb.symm⟩
set_option maxHeartbeats 400000 in
theorem ahead_any (a wire : Int) (w : World) :
    Calls Tryd.prog 51 #[.int .i64 a, .int .i64 wire] w fun e w' => e = .returned (.bool (decide (0 ≤ a ∧ a < wire))) ∧ w = w' := by
  by_cases h0 : 0 ≤ a
  · by_cases h1 : a < wire
    · rw [show decide (0 ≤ a ∧ a < wire) = true from decide_eq_true ⟨h0, h1⟩]
      go_enter Tryd.func51, Tryd.ntmps51
      go_wp2
      go_ret
      exact ⟨rfl, rfl⟩
    · rw [show decide (0 ≤ a ∧ a < wire) = false from decide_eq_false (fun h => h1 h.2)]
      have b1 : decide (a < wire) = false := decide_eq_false h1
      go_enter Tryd.func51, Tryd.ntmps51
      go_wp2
      go_ret
      exact ⟨rfl, rfl⟩
  · rw [show decide (0 ≤ a ∧ a < wire) = false from decide_eq_false (fun h => h0 h.1)]
    have b0 : decide (0 ≤ a) = false := decide_eq_false h0
    go_enter Tryd.func51, Tryd.ntmps51
    go_wp2
    go_ret
    exact ⟨rfl, rfl⟩
abbrev gt (k a b : Int) : Value := .agg #[.int .i64 k, .int .i64 a, .int .i64 b]
set_option maxHeartbeats 1000000 in
set_option maxRecDepth 100000 in
theorem fits_any (k a b wire : Int) (w : World) :
    Calls Tryd.prog 50 #[gt k a b, .int .i64 wire] w fun e w' => e = .returned (.bool (decide (Circ.FitsP k a b wire))) ∧ Below w.heap.size w w' := by
  have HB := Lib.hid ((Below.refl w.heap.size w).alloc (Nat.le_refl _) (.cells #[.int .i64 k, .int .i64 a, .int .i64 b] 84))
  have HX := Blk.new w 84 #[.int .i64 k, .int .i64 a, .int .i64 b]
  have c0 := HX.cell 0 rfl
  have c1 := HX.cell 1 rfl
  have c2 := HX.cell 2 rfl
  clear HX
  by_cases h12 : k = 1 ∨ k = 2
  · have hk : (k == 1) = true ∨ (k == 1) = false ∧ (k == 2) = true := by
      rcases h12 with rfl | rfl
      · exact .inl rfl
      · exact .inr ⟨rfl, rfl⟩
    by_cases ha : 0 ≤ a ∧ a < wire
    · have hd : decide (Circ.FitsP k a b wire) = decide (0 ≤ b ∧ b < wire) := by
        apply decide_eq_decide.2
        unfold Circ.FitsP
        omega
      have da := decide_eq_true ha
      have A1 := Lib.hid (fun wx => ahead_any a wire wx)
      have A2 := Lib.hid (fun wx => ahead_any b wire wx)
      rw [da] at A1
      rw [hd]
      generalize decide (0 ≤ b ∧ b < wire) = B at A2 ⊢
      clear hd da ha
      rcases hk with h1 | ⟨h1, h2⟩
      · go_enter Tryd.func50, Tryd.ntmps50
        go_wp2_with fail
        refine (A1.out _).mono ?_
        rintro e w1 ⟨rfl, rfl⟩
        go_wp2_with fail
        refine (A2.out _).mono ?_
        rintro e w1 ⟨rfl, rfl⟩
        go_wp2
        go_ret
        exact ⟨rfl, HB.out⟩
      · go_enter Tryd.func50, Tryd.ntmps50
        go_wp2_with fail
        refine (A1.out _).mono ?_
        rintro e w1 ⟨rfl, rfl⟩
        go_wp2_with fail
        refine (A2.out _).mono ?_
        rintro e w1 ⟨rfl, rfl⟩
        go_wp2
        go_ret
        exact ⟨rfl, HB.out⟩
    · have hd : decide (Circ.FitsP k a b wire) = false := by
        apply decide_eq_false
        unfold Circ.FitsP
        omega
      have da := decide_eq_false ha
      have A1 := Lib.hid (fun wx => ahead_any a wire wx)
      rw [da] at A1
      rw [hd]
      clear hd da ha
      rcases hk with h1 | ⟨h1, h2⟩
      · go_enter Tryd.func50, Tryd.ntmps50
        go_wp2_with fail
        refine (A1.out _).mono ?_
        rintro e w1 ⟨rfl, rfl⟩
        go_wp2
        go_ret
        exact ⟨rfl, HB.out⟩
      · go_enter Tryd.func50, Tryd.ntmps50
        go_wp2_with fail
        refine (A1.out _).mono ?_
        rintro e w1 ⟨rfl, rfl⟩
        go_wp2
        go_ret
        exact ⟨rfl, HB.out⟩
  · have n1 : (k == 1) = false := by simpa using fun h => h12 (.inl h)
    have n2 : (k == 2) = false := by simpa using fun h => h12 (.inr h)
    by_cases h3 : k = 3
    · have n3 : (k == 3) = true := by subst h3; rfl
      by_cases ha : 0 ≤ a ∧ a < wire
      · have hd : decide (Circ.FitsP k a b wire) = (b == 0) := by
          rw [show (b == 0) = decide (b = 0) from rfl]
          apply decide_eq_decide.2
          unfold Circ.FitsP
          omega
        have da := decide_eq_true ha
        have A1 := Lib.hid (fun wx => ahead_any a wire wx)
        rw [da] at A1
        rw [hd]
        clear hd da ha h12 h3
        go_enter Tryd.func50, Tryd.ntmps50
        go_wp2_with fail
        refine (A1.out _).mono ?_
        rintro e w1 ⟨rfl, rfl⟩
        go_wp2
        go_ret
        exact ⟨rfl, HB.out⟩
      · have hd : decide (Circ.FitsP k a b wire) = false := by
          apply decide_eq_false
          unfold Circ.FitsP
          omega
        have da := decide_eq_false ha
        have A1 := Lib.hid (fun wx => ahead_any a wire wx)
        rw [da] at A1
        rw [hd]
        clear hd da ha h12 h3
        go_enter Tryd.func50, Tryd.ntmps50
        go_wp2_with fail
        refine (A1.out _).mono ?_
        rintro e w1 ⟨rfl, rfl⟩
        go_wp2
        go_ret
        exact ⟨rfl, HB.out⟩
    · have n3 : (k == 3) = false := by simpa using h3
      have hd : decide (Circ.FitsP k a b wire) = false := by
        apply decide_eq_false
        unfold Circ.FitsP
        omega
      rw [hd]
      clear hd h12 h3
      go_enter Tryd.func50, Tryd.ntmps50
      go_wp2
      go_ret
      exact ⟨rfl, HB.out⟩
end Go.Proofs.YtamejhhjfnfalaaDoor

/- Contract of circ's Check: nil just for a circuit, else an error of the number 90. -/
namespace Go.Proofs.YtamejhhjfnfalaaDoor
open Go.RowKit

abbrev circV (N : Int) (Ag : Option Addr) (n cg : Nat) (Ao : Option Addr) (m co : Nat) : Value := .agg #[.int .i64 N, .slice Ag n cg, .slice Ao m co]
/-- A circuit's cells lie in a block of their own. -/
abbrev circB (w : World) (b : Nat) (N : Int) (Ag : Option Addr) (n cg : Nat) (Ao : Option Addr) (m co : Nat) : Prop := Blk w b 25 #[.int .i64 N, .slice Ag n cg, .slice Ao m co]
/-- What Check answers. -/
def ChkAns (good : Prop) (w : World) (e : Ending) (w' : World) : Prop := (good ∧ e = .returned .nilIface ∨ ¬ good ∧ ∃ p a, e = .returned (chain [(p, a)] 90)) ∧ Below w.heap.size w w'
set_option maxHeartbeats 4000000 in
set_option maxRecDepth 100000 in
theorem check_any (w : World) (N : Int) (Ag : Option Addr) (n cg : Nat) (y : Nat → Nat → Int) (Ao : Option Addr) (m co : Nat) (o : Nat → Int) (hh : Handle w) (hg : AtV w Ag (n * 3) (gv y)) (ho : AtV w Ao m (iv o)) (hn : n ≤ maxLen) (hm : m ≤ maxLen) :
    Calls Tryd.prog 19 #[circV N Ag n cg Ao m co] w (ChkAns (Circ.Good N n y m o) w) := by
  have hb0 := (Below.refl w.heap.size w).alloc (Nat.le_refl _) (.cells #[.int .i64 N, .slice Ag n cg, .slice Ao m co] 25)
  have HX := Blk.new w 25 #[.int .i64 N, .slice Ag n cg, .slice Ao m co]
  have hlt := HX.lt
  have c0 := HX.cell 0 rfl
  have c1 := HX.cell 1 rfl
  have c2 := HX.cell 2 rfl
  have hn63 : (n : Int) ≤ 9223372036854775807 := by unfold maxLen at hn; omega
  have hm63 : (m : Int) ≤ 9223372036854775807 := by unfold maxLen at hm; omega
  have H0 := Lib.hid (And.intro (hh.below hb0 hh.pos) (And.intro (hg.below hb0) (And.intro (ho.below hb0) (And.intro hb0 HX))))
  clear hh hg ho hb0 HX hn hm
  by_cases h1 : N < 0
  · have HN := Lib.hid (show ¬ Circ.Good N n y m o from fun h => by have := h.n0; omega)
    go_enter Tryd.func19, Tryd.ntmps19
    clear hn63 hm63
    have HW := Lib.hid (wrap_bare 90 N ⟨#[105, 110, 112, 117, 116, 115]⟩ (w.alloc (.cells #[.int .i64 N, .slice Ag n cg, .slice Ao m co] 25)) H0.out.1)
    go_wp2_with fail
    refine HW.out.mono ?_
    rintro e w1 ⟨rfl, hb1⟩
    have HB := Lib.hid (H0.out.2.2.2.1.trans (hb1.mono H0.out.2.2.2.1.size))
    clear hb1
    obtain ⟨T, v, hT⟩ := chain_iface [(⟨#[105, 110, 112, 117, 116, 115]⟩, N)] 90
    have HT := Lib.hid hT
    rw [hT]
    clear hT
    go_wp2
    go_ret
    exact ⟨.inr ⟨HN.out, _, _, by rw [HT.out]; rfl⟩, HB.out⟩
  have b1 : decide (N < 0) = false := decide_eq_false h1
  by_cases h2 : 4096 < N
  · have HN := Lib.hid (show ¬ Circ.Good N n y m o from fun h => by have := h.n1; omega)
    go_enter Tryd.func19, Tryd.ntmps19
    clear hn63 hm63
    have HW := Lib.hid (wrap_bare 90 N ⟨#[105, 110, 112, 117, 116, 115]⟩ (w.alloc (.cells #[.int .i64 N, .slice Ag n cg, .slice Ao m co] 25)) H0.out.1)
    go_wp2_with fail
    refine HW.out.mono ?_
    rintro e w1 ⟨rfl, hb1⟩
    have HB := Lib.hid (H0.out.2.2.2.1.trans (hb1.mono H0.out.2.2.2.1.size))
    clear hb1
    obtain ⟨T, v, hT⟩ := chain_iface [(⟨#[105, 110, 112, 117, 116, 115]⟩, N)] 90
    have HT := Lib.hid hT
    rw [hT]
    clear hT
    go_wp2
    go_ret
    exact ⟨.inr ⟨HN.out, _, _, by rw [HT.out]; rfl⟩, HB.out⟩
  have b2 : decide (4096 < N) = false := decide_eq_false h2
  by_cases h3 : 4096 < n
  · have HN := Lib.hid (show ¬ Circ.Good N n y m o from fun h => by have := h.g; omega)
    have l3 : (4096 : Int) < (n : Int) := by omega
    clear h3
    go_enter Tryd.func19, Tryd.ntmps19
    clear hn63 hm63
    have HW := Lib.hid (wrap_bare 90 (n : Int) ⟨#[103, 97, 116, 101, 115]⟩ (w.alloc (.cells #[.int .i64 N, .slice Ag n cg, .slice Ao m co] 25)) H0.out.1)
    go_wp2_with fail
    refine HW.out.mono ?_
    rintro e w1 ⟨rfl, hb1⟩
    have HB := Lib.hid (H0.out.2.2.2.1.trans (hb1.mono H0.out.2.2.2.1.size))
    clear hb1
    obtain ⟨T, v, hT⟩ := chain_iface [(⟨#[103, 97, 116, 101, 115]⟩, (n : Int))] 90
    have HT := Lib.hid hT
    rw [hT]
    clear hT
    go_wp2
    go_ret
    exact ⟨.inr ⟨HN.out, _, _, by rw [HT.out]; rfl⟩, HB.out⟩
  have b3 : ¬ (4096 : Int) < (n : Int) := by omega
  by_cases h4 : 64 < m
  · have HN := Lib.hid (show ¬ Circ.Good N n y m o from fun h => by have := h.u; omega)
    have l4 : (64 : Int) < (m : Int) := by omega
    clear h3 h4
    go_enter Tryd.func19, Tryd.ntmps19
    clear hn63 hm63
    have HW := Lib.hid (wrap_bare 90 (m : Int) ⟨#[111, 117, 116, 115]⟩ (w.alloc (.cells #[.int .i64 N, .slice Ag n cg, .slice Ao m co] 25)) H0.out.1)
    go_wp2_with fail
    refine HW.out.mono ?_
    rintro e w1 ⟨rfl, hb1⟩
    have HB := Lib.hid (H0.out.2.2.2.1.trans (hb1.mono H0.out.2.2.2.1.size))
    clear hb1
    obtain ⟨T, v, hT⟩ := chain_iface [(⟨#[111, 117, 116, 115]⟩, (m : Int))] 90
    have HT := Lib.hid hT
    rw [hT]
    clear hT
    go_wp2
    go_ret
    exact ⟨.inr ⟨HN.out, _, _, by rw [HT.out]; rfl⟩, HB.out⟩
  have b4 : ¬ (64 : Int) < (m : Int) := by omega
  have HL := Lib.hid (show 0 ≤ N ∧ N ≤ 4096 ∧ n ≤ 4096 ∧ m ≤ 64 from ⟨by omega, by omega, by omega, by omega⟩)
  clear h3 h4 hn63 hm63
  go_enter Tryd.func19, Tryd.ntmps19
  go_wp2
  clear c0 c1 c2
  generalize hw0 : (w.alloc (.cells #[.int .i64 N, .slice Ag n cg, .slice Ao m co] 25)) = w0 at *
  go_loopw [41] (fun i wr => ∃ k : Nat, k ≤ n ∧ i = .int .i64 k ∧ Hid (Below w0.heap.size w0 wr ∧ ∀ j, j < k → Circ.FitsP (y j 0) (y j 1) (y j 2) (N + j))) (fun i _ => n - (intOf i).toNat)
  case atStart => exact ⟨0, Nat.zero_le _, rfl, Below.refl _ _, fun j hj => absurd hj (by omega)⟩
  case round =>
    obtain ⟨k, hk, rfl, HI⟩ := hrel
    have hlw := HI.out.1.size
    by_cases hlt2 : k < n
    · obtain ⟨ad, rfl, ae, hae, g0, g1, g2, hbk⟩ := (H0.out.2.1.below HI.out.1).gate k hlt2
      have lt1 : (k : Int) < (n : Int) := by omega
      have lt0 : (0 : Int) ≤ (k : Int) := by omega
      have e1 : IntKind.i64.wrap ((k : Int) + 1) = (k : Int) + 1 := i64_nat _ (by omega) (by have := HL.out; omega)
      have e2 : IntKind.i64.wrap (N + (k : Int)) = N + (k : Int) := i64_nat _ (by have := HL.out; omega) (by have := HL.out; omega)
      have HXr := H0.out.2.2.2.2.below HI.out.1 hlt
      have HX2 := HXr.alloc (.cells #[.int .i64 (y k 0), .int .i64 (y k 1), .int .i64 (y k 2)] 84)
      have HGn := Blk.new wr 84 #[.int .i64 (y k 0), .int .i64 (y k 1), .int .i64 (y k 2)]
      have d0 := HX2.cell 0 rfl
      have q0 := HGn.cell 0 rfl
      have q1 := HGn.cell 1 rfl
      have q2 := HGn.cell 2 rfl
      have hb2 := HI.out.1.trans (((Below.refl wr.heap.size wr).alloc (Nat.le_refl _) (.cells #[.int .i64 (y k 0), .int .i64 (y k 1), .int .i64 (y k 2)] 84)).mono hlw)
      have HB2 := Lib.hid hb2
      have HF := Lib.hid (fits_any (y k 0) (y k 1) (y k 2) (N + (k : Int)) (wr.alloc (.cells #[.int .i64 (y k 0), .int .i64 (y k 1), .int .i64 (y k 2)] 84)))
      have HLt := Lib.hid hlt2
      clear HXr HX2 HGn hb2 hlt2 hbk
      go_wp2_with fail
      refine HF.out.mono ?_
      rintro e w1 ⟨rfl, hb3⟩
      have hb4 := HB2.out.trans (hb3.mono HB2.out.size)
      have HB4 := Lib.hid hb4
      clear hb3 hb4
      by_cases hfit : Circ.FitsP (y k 0) (y k 1) (y k 2) (N + (k : Int))
      · rw [decide_eq_true hfit]
        have HFt := Lib.hid hfit
        clear hfit
        go_wp2
        go_roundw
        case rel => exact ⟨k + 1, by have := HLt.out; omega, by go_num, HB4.out, fun j hj => by
          rcases Nat.lt_or_ge j k with h | h
          · exact HI.out.2 j h
          · obtain rfl : j = k := by omega
            exact HFt.out⟩
        case measure => simp [intOf]; have := HLt.out; omega
      · rw [decide_eq_false hfit]
        have HN := Lib.hid (show ¬ Circ.Good N n y m o from fun h => hfit (h.fit k HLt.out))
        clear hfit
        have HW := Lib.hid (wrap_bare 90 (k : Int) ⟨#[103, 97, 116, 101]⟩ w1 (H0.out.1.below HB4.out H0.out.1.pos))
        go_wp2_with fail
        refine HW.out.mono ?_
        rintro e w1 ⟨rfl, hb1⟩
        have HB := Lib.hid ((H0.out.2.2.2.1.trans (HB4.out.mono H0.out.2.2.2.1.size)).trans (hb1.mono (H0.out.2.2.2.1.trans (HB4.out.mono H0.out.2.2.2.1.size)).size))
        clear hb1
        obtain ⟨T, v, hT⟩ := chain_iface [(⟨#[103, 97, 116, 101]⟩, (k : Int))] 90
        have HT := Lib.hid hT
        rw [hT]
        clear hT
        go_wp2
        go_ret
        exact ⟨.inr ⟨HN.out, _, _, by rw [HT.out]; rfl⟩, HB.out⟩
    · obtain rfl : k = n := by omega
      have lt1 : ¬ (k : Int) < (k : Int) := by omega
      have e2 : IntKind.i64.wrap (N + (k : Int)) = N + (k : Int) := i64_nat _ (by have := HL.out; omega) (by have := HL.out; omega)
      obtain ⟨wB, hwB⟩ : ∃ x, x = wr := ⟨_, rfl⟩
      subst hwB
      have HXr := H0.out.2.2.2.2.below HI.out.1 hlt
      have d0 := HXr.cell 0 rfl
      have d1 := HXr.cell 1 rfl
      have d2 := HXr.cell 2 rfl
      have HFs := Lib.hid HI.out.2
      have HBB := Lib.hid HI.out.1
      clear HXr HI hlt2 hk
      go_wp2
      go_loopw [66] (fun i wr => ∃ t : Nat, t ≤ m ∧ i = .int .i64 t ∧ Hid (wr = wB ∧ ∀ j, j < t → 0 ≤ o j ∧ o j < N + k)) (fun i _ => m - (intOf i).toNat)
      case atStart => exact ⟨0, Nat.zero_le _, rfl, rfl, fun j hj => absurd hj (by omega)⟩
      case round =>
        obtain ⟨t, ht, rfl, HI⟩ := hrel
        obtain ⟨rfl, hrs⟩ := HI.out
        have HR := Lib.hid hrs
        clear HI hrs
        by_cases hlt2 : t < m
        · obtain ⟨ad, rfl, co1⟩ := (H0.out.2.2.1.below HBB.out) t hlt2
          unfold iv at co1
          have lt2 : (t : Int) < (m : Int) := by omega
          have lt0 : (0 : Int) ≤ (t : Int) := by omega
          have e1 : IntKind.i64.wrap ((t : Int) + 1) = (t : Int) + 1 := i64_nat _ (by omega) (by have := HL.out; omega)
          have HF := Lib.hid (ahead_any (o t) (N + (k : Int)) wr)
          have HLt := Lib.hid hlt2
          clear hlt2
          go_wp2_with fail
          refine HF.out.mono ?_
          rintro e w1 ⟨rfl, rfl⟩
          by_cases hfit : 0 ≤ o t ∧ o t < N + (k : Int)
          · rw [decide_eq_true hfit]
            have HFt := Lib.hid hfit
            clear hfit
            go_wp2
            go_roundw
            case rel => exact ⟨t + 1, by have := HLt.out; omega, by go_num, trivial, fun j hj => by
              rcases Nat.lt_or_ge j t with h | h
              · exact HR.out j h
              · obtain rfl : j = t := by omega
                exact HFt.out⟩
            case measure => simp [intOf]; have := HLt.out; omega
          · rw [decide_eq_false hfit]
            have HN := Lib.hid (show ¬ Circ.Good N k y m o from fun h => hfit (h.out t HLt.out))
            clear hfit
            have HW := Lib.hid (wrap_bare 90 (t : Int) ⟨#[111, 117, 116]⟩ wr (H0.out.1.below HBB.out H0.out.1.pos))
            go_wp2_with fail
            refine HW.out.mono ?_
            rintro e w1 ⟨rfl, hb1⟩
            have HB := Lib.hid ((H0.out.2.2.2.1.trans (HBB.out.mono H0.out.2.2.2.1.size)).trans (hb1.mono (H0.out.2.2.2.1.trans (HBB.out.mono H0.out.2.2.2.1.size)).size))
            clear hb1
            obtain ⟨T, v, hT⟩ := chain_iface [(⟨#[111, 117, 116]⟩, (t : Int))] 90
            have HT := Lib.hid hT
            rw [hT]
            clear hT
            go_wp2
            go_ret
            exact ⟨.inr ⟨HN.out, _, _, by rw [HT.out]; rfl⟩, HB.out⟩
        · obtain rfl : t = m := by omega
          have lt2 : ¬ (t : Int) < (t : Int) := by omega
          have HGd := Lib.hid (show Circ.Good N k y t o from ⟨HL.out.1, HL.out.2.1, HL.out.2.2.1, HL.out.2.2.2, HFs.out, HR.out⟩)
          clear hlt2 ht
          go_wp2
          go_ret
          exact ⟨.inl ⟨HGd.out, rfl⟩, H0.out.2.2.2.1.trans (HBB.out.mono H0.out.2.2.2.1.size)⟩
end Go.Proofs.YtamejhhjfnfalaaDoor

/- Contracts of circ's Ands, Bits, Word, and of the document's Bit. -/
namespace Go.Proofs.YtamejhhjfnfalaaDoor
open Go.RowKit

set_option maxHeartbeats 1000000 in
set_option maxRecDepth 100000 in
theorem ands_any (w : World) (N : Int) (Ag : Option Addr) (n cg : Nat) (y : Nat → Nat → Int) (Ao : Option Addr) (m co : Nat) (hg : AtV w Ag (n * 3) (gv y)) (hn : n ≤ maxLen) :
    Calls Tryd.prog 26 #[circV N Ag n cg Ao m co] w fun e w' => e = .returned (.int .i64 (Circ.ands y n : Int)) ∧ Below w.heap.size w w' := by
  have hb0 := (Below.refl w.heap.size w).alloc (Nat.le_refl _) (.cells #[.int .i64 N, .slice Ag n cg, .slice Ao m co] 25)
  have HX := Blk.new w 25 #[.int .i64 N, .slice Ag n cg, .slice Ao m co]
  have hlt := HX.lt
  have c1 := HX.cell 1 rfl
  have hn63 : (n : Int) ≤ 9223372036854775807 := by unfold maxLen at hn; omega
  have HL := Lib.hid hn63
  have H0 := Lib.hid (And.intro (hg.below hb0) (And.intro hb0 HX))
  clear hg hb0 HX hn hn63
  go_enter Tryd.func26, Tryd.ntmps26
  go_wp2
  clear c1
  generalize hw0 : (w.alloc (.cells #[.int .i64 N, .slice Ag n cg, .slice Ao m co] 25)) = w0 at *
  go_loopw [3, 9] (fun a i wr => ∃ k : Nat, k ≤ n ∧ a = .int .i64 (Circ.ands y k : Int) ∧ i = .int .i64 k ∧ Hid (Below w0.heap.size w0 wr)) (fun _ i _ => n - (intOf i).toNat)
  case atStart => exact ⟨0, Nat.zero_le _, rfl, rfl, Below.refl _ _⟩
  case round =>
    obtain ⟨k, hk, rfl, rfl, HI⟩ := hrel
    have hlw := HI.out.size
    have hak := Circ.ands_le y k
    by_cases hlt2 : k < n
    · obtain ⟨ad, rfl, ae, hae, g0, g1, g2, hbk⟩ := (H0.out.1.below HI.out).gate k hlt2
      have lt1 : (k : Int) < (n : Int) := by omega
      have lt0 : (0 : Int) ≤ (k : Int) := by omega
      have e1 : IntKind.i64.wrap ((k : Int) + 1) = (k : Int) + 1 := i64_nat _ (by omega) (by have := HL.out; omega)
      have e2 : IntKind.i64.wrap ((Circ.ands y k : Int) + 1) = (Circ.ands y k : Int) + 1 := i64_nat _ (by omega) (by have := HL.out; omega)
      have HGn := Blk.new wr 84 #[.int .i64 (y k 0), .int .i64 (y k 1), .int .i64 (y k 2)]
      have q0 := HGn.cell 0 rfl
      have HB2 := Lib.hid (HI.out.trans (((Below.refl wr.heap.size wr).alloc (Nat.le_refl _) (.cells #[.int .i64 (y k 0), .int .i64 (y k 1), .int .i64 (y k 2)] 84)).mono hlw))
      have HLt := Lib.hid hlt2
      have HD := Lib.hid (show Circ.ands y (k + 1) = if y k 0 = 2 then Circ.ands y k + 1 else Circ.ands y k from rfl)
      clear HGn hlt2 hbk hak
      by_cases h2 : y k 0 = 2
      · have n2 : (y k 0 == 2) = true := by rw [h2]; rfl
        have HE := Lib.hid (show ((Circ.ands y (k + 1) : Nat) : Int) = (Circ.ands y k : Int) + 1 by rw [HD.out, if_pos h2]; omega)
        clear h2
        go_wp2
        go_roundw
        case rel => exact ⟨k + 1, by have := HLt.out; omega, by rw [HE.out], by go_num, HB2.out⟩
        case measure => simp [intOf]; have := HLt.out; omega
      · have n2 : (y k 0 == 2) = false := by simpa using h2
        have HE := Lib.hid (show ((Circ.ands y (k + 1) : Nat) : Int) = (Circ.ands y k : Int) by rw [HD.out, if_neg h2])
        clear h2
        go_wp2
        go_roundw
        case rel => exact ⟨k + 1, by have := HLt.out; omega, by rw [HE.out], by go_num, HB2.out⟩
        case measure => simp [intOf]; have := HLt.out; omega
    · obtain rfl : k = n := by omega
      have lt1 : ¬ (k : Int) < (k : Int) := by omega
      clear hlt2 hk hak
      go_wp2
      go_ret
      exact ⟨rfl, H0.out.2.1.trans (HI.out.mono H0.out.2.1.size)⟩
/-- A word's bit. -/
def bitI (x : Int) (i : Nat) : Bool := x.toNat.testBit i
theorem shr_i64 (x : Int) (i : Nat) (hx : 0 ≤ x) : x / 2 ^ i % 2 = if bitI x i then 1 else 0 := by
  obtain ⟨n, rfl⟩ := Int.eq_ofNat_of_zero_le hx
  unfold bitI
  rw [Int.toNat_natCast, Nat.testBit_eq_decide_div_mod_eq]
  have h : ((n : Int) / 2 ^ i % 2) = ((n / 2 ^ i % 2 : Nat) : Int) := by
    push_cast
    rfl
  rw [h]
  by_cases e : n / 2 ^ i % 2 = 1
  · simp [e]
  · have : n / 2 ^ i % 2 = 0 := by omega
    simp [this]
/-- The word of the first bits of a list. -/
def wordN (f : Nat → Bool) : Nat → Nat
  | 0 => 0
  | k + 1 => if f k then wordN f k + 2 ^ k else wordN f k
theorem wordN_lt (f : Nat → Bool) : ∀ k, wordN f k < 2 ^ k
  | 0 => by simp [wordN]
  | k + 1 => by
    have := wordN_lt f k
    unfold wordN
    rw [Nat.pow_succ]
    split <;> omega
theorem wordN_congr {f g : Nat → Bool} : ∀ k, (∀ i, i < k → f i = g i) → wordN f k = wordN g k
  | 0, _ => rfl
  | k + 1, h => by
    unfold wordN
    rw [h k (by omega), wordN_congr k (fun i hi => h i (by omega))]
theorem wordN_more (f : Nat → Bool) (n : Nat) : ∀ j, (∀ i, n ≤ i → f i = false) → wordN f (n + j) = wordN f n
  | 0, _ => rfl
  | j + 1, h => by
    show (if f (n + j) then _ else wordN f (n + j)) = _
    rw [h (n + j) (by omega)]
    exact wordN_more f n j h
theorem wordN_bits (n : Nat) : ∀ k, wordN (fun i => n.testBit i) k = n % 2 ^ k
  | 0 => by simp [wordN, Nat.mod_one]
  | k + 1 => by
    unfold wordN
    rw [wordN_bits n k, Nat.mod_pow_succ, Nat.testBit_eq_decide_div_mod_eq]
    by_cases e : n / 2 ^ k % 2 = 1
    · simp [e]
    · have : n / 2 ^ k % 2 = 0 := by omega
      simp [this]
theorem wordN_word (x : Int) (h0 : 0 ≤ x) (h1 : x < 18446744073709551616) : ((wordN (bitI x) 64 : Nat) : Int) = x := by
  have : wordN (bitI x) 64 = x.toNat % 2 ^ 64 := wordN_bits x.toNat 64
  rw [this, Nat.mod_eq_of_lt (by omega)]
  omega
theorem or_next (a k : Nat) (h : a < 2 ^ k) (hk : k < 64) : bits .or .u64 (a : Int) ((2 ^ k : Nat) : Int) = ((a + 2 ^ k : Nat) : Int) := by
  have hp : 2 ^ k * 2 ≤ 2 ^ 64 := by rw [← Nat.pow_succ]; exact Nat.pow_le_pow_right (by omega) (by omega)
  have hor : a ||| 2 ^ k = a + 2 ^ k := by
    rw [Nat.or_comm, Nat.add_comm]
    exact (Nat.two_pow_add_eq_or_of_lt h 1 |> fun e => by simpa using e.symm)
  have e1 : (BitVec.ofInt 64 (a : Int)).toNat = a := by rw [BitVec.ofInt_natCast, BitVec.toNat_ofNat, Nat.mod_eq_of_lt (by omega)]
  have e2 : (BitVec.ofInt 64 ((2 ^ k : Nat) : Int)).toNat = 2 ^ k := by rw [BitVec.ofInt_natCast, BitVec.toNat_ofNat, Nat.mod_eq_of_lt (by omega)]
  have : (BitVec.ofInt 64 (a : Int) ||| BitVec.ofInt 64 ((2 ^ k : Nat) : Int)).toNat = a + 2 ^ k := by
    rw [BitVec.toNat_or, e1, e2, hor]
  show IntKind.u64.wrap ((BitVec.ofInt 64 (a : Int) ||| BitVec.ofInt 64 ((2 ^ k : Nat) : Int)).toNat : Int) = _
  rw [this, u64w]
  generalize 2 ^ k = p at *
  omega
end Go.Proofs.YtamejhhjfnfalaaDoor

/- Contract of the document's Bit; a cell of a list of the call's own. -/
namespace Go.Proofs.YtamejhhjfnfalaaDoor
open Go.RowKit

theorem and_one (x : Int) : bits .and .u64 x 1 = x % 2 := by
  have h : (BitVec.ofInt 64 x &&& BitVec.ofInt 64 1).toNat = (BitVec.ofInt 64 x).toNat % 2 := by
    rw [BitVec.toNat_and]
    show _ &&& (1 : Nat) = _
    exact Nat.and_one_is_mod _
  show IntKind.u64.wrap ((BitVec.ofInt 64 x &&& BitVec.ofInt 64 1).toNat : Int) = _
  rw [h, u64w, BitVec.toNat_ofInt]
  omega
theorem pow_nonneg2 (i : Nat) : (0 : Int) ≤ 2 ^ i := by
  have : ((2 ^ i : Nat) : Int) = (2 : Int) ^ i := by push_cast; rfl
  rw [← this]; exact Int.natCast_nonneg _
theorem div_nonneg2 (x : Int) (i : Nat) (hx : 0 ≤ x) : 0 ≤ x / 2 ^ i := Int.ediv_nonneg hx (pow_nonneg2 i)
theorem div_lt2 (x : Int) (i : Nat) (hx : 0 ≤ x) (h : x < 18446744073709551616) : x / 2 ^ i < 18446744073709551616 := by
  have : x / 2 ^ i ≤ x := Int.ediv_le_self _ hx
  omega
theorem tmod_nn (a b : Int) (ha : 0 ≤ a) : Int.tmod a b = a % b := Int.tmod_eq_emod_of_nonneg ha
set_option maxHeartbeats 400000 in
theorem rbit_any (x : Int) (i : Nat) (w : World) (hx : 0 ≤ x) (h1 : x < 18446744073709551616) (hi : i < 64) :
    Calls Tryd.prog 34 #[.int .u64 x, .int .i64 i] w fun e w' => e = .returned (.int .u64 (if bitI x i then 1 else 0)) ∧ w = w' := by
  have h := shr_i64 x i hx
  have e1 : Int.tmod (x / 2 ^ i) 2 = if bitI x i then 1 else 0 := by rw [tmod_nn _ _ (div_nonneg2 x i hx), h]
  have e2 : IntKind.u64.wrap (if bitI x i then 1 else 0) = if bitI x i then 1 else 0 := by cases bitI x i <;> rfl
  have e3 : IntKind.u64.wrap (x / 2 ^ i) = x / 2 ^ i := by rw [u64w]; have := div_nonneg2 x i hx; have := div_lt2 x i hx h1; omega
  have lt0 : ¬ (i : Int) < 0 := by omega
  have lt1 : ¬ 64 ≤ i := by omega
  obtain ⟨v, hv⟩ : ∃ v : Int, (if bitI x i = true then 1 else 0) = v := ⟨_, rfl⟩
  rw [hv] at e1 e2 ⊢
  clear h hv
  go_enter Tryd.func34, Tryd.ntmps34
  go_wp2
  go_ret
  exact ⟨rfl, rfl⟩
/-- So many flags in a block, all of them known. -/
theorem run_makeB (w : World) (l c : Nat) (hlc : l ≤ c) (hc : c ≤ 281474976710656) : (Instr.makeSlice 49 (.int .i64 (l : Int)) (.int .i64 (c : Int))).run Tryd.prog w = .ok (.slice (some ⟨w.heap.size, 0, none⟩) l c) (w.alloc (.cells (madeCells #[Value.bool false] c) 4)) := by
  have := run_make_row eltB w l c hlc (by omega) (by omega)
  rw [Nat.mul_one] at this
  exact this
theorem made_row (w : World) (N c : Nat) (hN : N ≤ c) (hc : c ≤ maxLen) : Row (w.alloc (.cells (madeCells #[Value.bool false] c) 4)) w.heap.size 4 1 (.slice (some ⟨w.heap.size, 0, none⟩) N c) N (bv fun _ => false) := by
  refine ⟨by rw [flat_length], .inr ⟨w.heap.size, c, _, rfl, Nat.le_refl _, heap_alloc_new w _, hN, hc, by rw [made_size, Nat.mul_one], ?_⟩⟩
  apply List.ext_getElem?
  intro i
  rw [List.getElem?_take]
  by_cases hi : i < N
  · rw [if_pos (by omega), flat_get _ _ _ (by omega), Array.getElem?_toList]
    exact made_get (.bool false) rfl c i (by omega)
  · rw [if_neg (by omega), flat_none _ _ _ (by omega)]
/-- A cell of a list of the call's own is written. -/
theorem Row.set {w : World} {base e : Nat} {g n c : Nat} {F : Nat → Value} (h : Row w base e 1 (.slice (some ⟨g, 0, none⟩) n c) n F) (i : Nat) (hi : i < n) (v : Value) : Row (w.setCell ⟨g, i, none⟩ v) base e 1 (.slice (some ⟨g, 0, none⟩) n c) n (fun q => if q = i then v else F q) := by
  refine ⟨by rw [flat_length], ?_⟩
  rcases h.2 with ⟨e1, _⟩ | ⟨g', cap, cur, e1, hb, hg, hnc, hm, hsz, ht⟩
  · cases e1
  · injection e1 with e1 _ e3
    injection e1 with e1
    injection e1 with e1
    subst e1 e3
    refine .inr ⟨g, c, cur.setIfInBounds i v, rfl, hb, Blk.set hg i v, hnc, hm, by simpa using hsz, ?_⟩
    apply List.ext_getElem?
    intro j
    rw [List.getElem?_take]
    by_cases hj : j < n
    · rw [if_pos (by omega), flat_get _ _ _ (by omega), Array.getElem?_toList, Array.getElem?_setIfInBounds]
      have h2 : (cur.toList.take (n * 1))[j]? = some (F j) := by rw [ht, flat_get _ _ _ (by omega)]
      rw [List.getElem?_take, if_pos (by omega), Array.getElem?_toList] at h2
      by_cases e2 : i = j
      · subst e2
        rw [if_pos rfl, if_pos (by omega), if_pos rfl]
      · rw [if_neg e2, if_neg (fun e => e2 e.symm)]
        exact h2
    · rw [if_neg (by omega), flat_none _ _ _ (by omega)]
theorem Row.frozen {w : World} {base e s g n c : Nat} {F : Nat → Value} (h : Row w base e s (.slice (some ⟨g, 0, none⟩) n c) n F) (i : Nat) : w.frozen? ⟨g, i, none⟩ = false := by
  obtain ⟨A, c', e1, _, _, _, _, _, h4⟩ := h.read
  injection e1 with e1
  obtain ⟨cur, hB, _⟩ := h4 _ e1.symm
  exact hB.frozen i
theorem Row.cellAt {w : World} {base e s g n c : Nat} {F : Nat → Value} (h : Row w base e s (.slice (some ⟨g, 0, none⟩) n c) n F) (i : Nat) (hi : i < n * s) : w.cell? ⟨g, i, none⟩ = some (F i) := by
  obtain ⟨A, c', e1, _, _, _, h2, _, _⟩ := h.read
  injection e1 with e1
  subst e1
  obtain ⟨ad, e2, hc⟩ := h2 i hi
  cases e2
  rwa [Addr.add_mid, Nat.zero_add] at hc
end Go.Proofs.YtamejhhjfnfalaaDoor

/- append onto an empty list of the call's own; one thing appended. -/
namespace Go.Proofs.YtamejhhjfnfalaaDoor
open Go.RowKit

section
variable {sT eT : TypeId} {z : Value} {s b : Nat}
theorem Row.empty (w : World) (e s : Nat) (F : Nat → Value) {B : Nat} (hB : B ≤ w.heap.size) : Row (w.alloc (.cells #[] e)) B e s (.slice (some ⟨w.heap.size, 0, none⟩) 0 0) 0 F := by
  refine ⟨by rw [flat_length], .inr ⟨w.heap.size, 0, #[], rfl, hB, heap_alloc_new w _, Nat.le_refl _, Nat.zero_le _, by simp, ?_⟩⟩
  simp [flat]
/-- append([]T{}, x...) -/
theorem append_empty (E : Elt sT eT z s b) (w : World) (A : Option Addr) (m c : Nat) (G : Nat → Value) (hA : AtV w A (m * s) G) (hc : A = none → m = 0 ∧ c = 0) (h1 : ∀ q, (G q).oneCell' = true) (hm : m ≤ maxLen) (hn : m * b ≤ 140737488355328) :
    ∃ g k w', (∀ ty, (Builtin.append_ #[sT, sT] ty #[.slice (some ⟨w.heap.size, 0, none⟩) 0 0, .slice A m c]).run Tryd.prog (w.alloc (.cells #[] eT)) = .ok (.slice (some ⟨g, 0, none⟩) m k) w') ∧ w.heap.size ≤ g ∧ g < w'.heap.size ∧ m ≤ k ∧ Row w' w.heap.size eT s (.slice (some ⟨g, 0, none⟩) m k) m G ∧ Below w.heap.size w w' := by
  have hb : Below w.heap.size w (w.alloc (.cells #[] eT)) := (Below.refl _ _).alloc (Nat.le_refl _) _
  obtain ⟨v', w', hr, hR, hg, hnil, hob⟩ := append_row E (w.alloc (.cells #[] eT)) w.heap.size (.slice (some ⟨w.heap.size, 0, none⟩) 0 0) 0 m (fun q => G q) G A c (Row.empty w eT s _ (Nat.le_refl _)) (hA.below hb) hc h1 (by omega) (by rw [Nat.zero_add]; exact hn) (by simp)
  rw [Nat.zero_add] at hR
  have hR2 : Row w' w.heap.size eT s v' m G := hR.congr fun i _ => by simp
  have hbl : Below w.heap.size w w' := hb.grown hg (by simp) fun q hq => by simp [Value.ownBlock] at hq; omega
  rcases hR2.2 with ⟨e1, _⟩ | ⟨g, k, cur, rfl, hgB, hG, hmk, _⟩
  · have := (hnil.1 e1).1; cases this
  · exact ⟨g, k, w', hr, hgB, (Array.getElem?_eq_some_iff.1 hG).1, hmk, hR2, hbl⟩
/-- append(x, y), y in a block of its own. -/
theorem append_one (E : Elt sT eT z s b) (w : World) (B : Nat) (v : Value) (n : Nat) (F G : Nat → Value) (cs : Array Value) (hown : Row w B eT s v n F) (hG : ∀ j, j < s → cs[j]? = some (G j)) (h1 : ∀ q, (G q).oneCell' = true) (hn : (n + 1) * b ≤ 140737488355328) (hn2 : n + 1 ≤ maxLen) (hB : B ≤ w.heap.size) :
    ∃ g k w', (∀ ty, (Builtin.append_ #[sT, sT] ty #[v, .slice (some ⟨w.heap.size, 0, none⟩) 1 1]).run Tryd.prog (w.alloc (.cells cs eT)) = .ok (.slice (some ⟨g, 0, none⟩) (n + 1) k) w') ∧ B ≤ g ∧ Row w' B eT s (.slice (some ⟨g, 0, none⟩) (n + 1) k) (n + 1) (fun i => if i < n * s then F i else G (i - n * s)) ∧ (w.alloc (.cells cs eT)).grownBy w' v.ownBlock ∧ (v.ownBlock = some g ∨ w.heap.size ≤ g) := by
  have hA : AtV (w.alloc (.cells cs eT)) (some ⟨w.heap.size, 0, none⟩) (1 * s) G := fun i hi => ⟨_, rfl, by
    rw [Addr.add_mid, Nat.zero_add]
    exact (Blk.new w eT cs).cell i (hG i (by omega))⟩
  obtain ⟨v', w', hr, hR, hg, hnil, hob⟩ := append_row E (w.alloc (.cells cs eT)) B v n 1 F G (some ⟨w.heap.size, 0, none⟩) 1 (hown.alloc _) hA (fun h => by cases h) h1 hn2 hn (by simp; omega)
  rcases hR.2 with ⟨e1, e2⟩ | ⟨g, k, cur, rfl, hgB, hG', hmk, _⟩
  · omega
  · refine ⟨g, k, w', hr, hgB, hR, hg, ?_⟩
    rcases hob with h | h
    · exact .inl (by rw [← h]; rfl)
    · right
      have : (some g : Option Nat) = some (w.alloc (.cells cs eT)).heap.size := h
      injection this with this
      rw [this]; simp
end
end Go.Proofs.YtamejhhjfnfalaaDoor

/- Contracts of the law's Own and Gates. -/
namespace Go.Proofs.YtamejhhjfnfalaaDoor
open Go.RowKit

set_option maxHeartbeats 4000000 in
set_option maxRecDepth 100000 in
theorem own_any (w : World) (N : Int) (Ag : Option Addr) (n cg : Nat) (y : Nat → Nat → Int) (Ao : Option Addr) (m co : Nat) (o : Nat → Int) (hg : AtV w Ag (n * 3) (gv y)) (ho : AtV w Ao m (iv o)) (hn : n ≤ cg) (hm : m ≤ co) (zg : Ag = none → n = 0 ∧ cg = 0) (zo : Ao = none → m = 0 ∧ co = 0) :
    Calls Tryd.prog 10 #[circV N Ag n cg Ao m co] w fun e w' => ∃ g1 k1 g2 k2, e = .returned (circV N (some ⟨g1, 0, none⟩) (min n 4200) k1 (some ⟨g2, 0, none⟩) (min m 80) k2) ∧ w.heap.size ≤ g1 ∧ w.heap.size ≤ g2 ∧ Row w' w.heap.size 84 3 (.slice (some ⟨g1, 0, none⟩) (min n 4200) k1) (min n 4200) (gv y) ∧ Row w' w.heap.size 3 1 (.slice (some ⟨g2, 0, none⟩) (min m 80) k2) (min m 80) (iv o) ∧ Below w.heap.size w w' := by
  obtain ⟨M, hM⟩ : ∃ M, min n 4200 = M := ⟨_, rfl⟩
  obtain ⟨L, hL⟩ : ∃ L, min m 80 = L := ⟨_, rfl⟩
  have m1 : (if (4200 : Int) < (n : Int) then (4200 : Int) else (n : Int)) = (M : Int) := by split <;> omega
  have m2 : (if 4200 < n then (4200 : Int) else (n : Int)) = (M : Int) := by split <;> omega
  have l1 : (if (80 : Int) < (m : Int) then (80 : Int) else (m : Int)) = (L : Int) := by split <;> omega
  have l2 : (if 80 < m then (80 : Int) else (m : Int)) = (L : Int) := by split <;> omega
  have HM := Lib.hid (show M ≤ n ∧ M ≤ 4200 ∧ L ≤ m ∧ L ≤ 80 by omega)
  have s1 := fun wx => run_head_row eltG wx Ag n cg M (by have := HM.out; omega)
  have s2 := fun wx => run_head_row eltI wx Ao m co L (by have := HM.out; omega)
  rw [hM, hL]
  clear hM hL
  have b2 : Below w.heap.size w ((w.alloc (.cells #[.int .i64 N, .slice Ag n cg, .slice Ao m co] 25)).alloc (.cells #[.int .i64 0, .slice none 0 0, .slice none 0 0] 25)) := ((Below.refl _ w).alloc (Nat.le_refl _) _).alloc (by simp) _
  have X2 : circB ((w.alloc (.cells #[.int .i64 N, .slice Ag n cg, .slice Ao m co] 25)).alloc (.cells #[.int .i64 0, .slice none 0 0, .slice none 0 0] 25)) w.heap.size N Ag n cg Ao m co := (Blk.new w _ _).alloc _
  have Z2 : circB ((w.alloc (.cells #[.int .i64 N, .slice Ag n cg, .slice Ao m co] 25)).alloc (.cells #[.int .i64 0, .slice none 0 0, .slice none 0 0] 25)) (w.heap.size + 1) 0 none 0 0 none 0 0 := by
    have := Blk.new (w.alloc (.cells #[.int .i64 N, .slice Ag n cg, .slice Ao m co] 25)) 25 #[.int .i64 0, .slice none 0 0, .slice none 0 0]
    rwa [World.size_alloc] at this
  have hs2 : ((w.alloc (.cells #[.int .i64 N, .slice Ag n cg, .slice Ao m co] 25)).alloc (.cells #[.int .i64 0, .slice none 0 0, .slice none 0 0] 25)).heap.size = w.heap.size + 1 + 1 := by simp
  have hgo := AtV.lt hg
  obtain ⟨g1, k1, w4, r1, hg1, hl1, hk1, hR1, hb4⟩ := append_empty eltG _ Ag M cg (gv y) ((hg.below b2).less (Nat.mul_le_mul_right 3 HM.out.1)) (fun h => by have := zg h; exact ⟨by have := HM.out; omega, this.2⟩) (gv_one y) (by have := HM.out; unfold maxLen; omega) (by have := HM.out; omega)
  rw [hs2] at r1 hg1 hR1 hb4
  have X4 := X2.below hb4 (by omega)
  have Z4 := Z2.below hb4 (by omega)
  have b4 : Below w.heap.size w w4 := b2.trans (hb4.mono (by omega))
  have X5 := X4.set 1 (.slice (some ⟨g1, 0, none⟩) M k1)
  have Z5 := Z4.far (p := ⟨w.heap.size, 1, none⟩) (by show w.heap.size + 1 ≠ w.heap.size; omega) (.slice (some ⟨g1, 0, none⟩) M k1)
  have b5 := b4.setCell (p := ⟨w.heap.size, 1, none⟩) (Nat.le_refl _) (.slice (some ⟨g1, 0, none⟩) M k1)
  have R5 : Row (w4.setCell ⟨w.heap.size, 1, none⟩ (.slice (some ⟨g1, 0, none⟩) M k1)) (w.heap.size + 1 + 1) 84 3 (.slice (some ⟨g1, 0, none⟩) M k1) M (gv y) := hR1.chg ((Chg.refl (fun q => q = w.heap.size) w4).set (p := ⟨w.heap.size, 1, none⟩) (.inr rfl) _) (fun g h => by
    have : some g1 = some g := h
    injection this with this
    omega)
  have hs5 : (w4.setCell ⟨w.heap.size, 1, none⟩ (.slice (some ⟨g1, 0, none⟩) M k1)).heap.size = w4.heap.size := by simp [World.setCell]
  obtain ⟨g2, k2, w6, r2, hg2, hl2, hk2, hR2, hb6⟩ := append_empty eltI (w4.setCell ⟨w.heap.size, 1, none⟩ (.slice (some ⟨g1, 0, none⟩) M k1)) Ao L co (iv o) (by rw [Nat.mul_one]; exact (ho.belowB b5 (AtV.lt ho)).less HM.out.2.2.1) (fun h => by have := zo h; exact ⟨by have := HM.out; omega, this.2⟩) (iv_one o) (by have := HM.out; unfold maxLen; omega) (by have := HM.out; omega)
  rw [hs5] at r2 hg2 hR2 hb6
  have hw4 : w.heap.size + 1 + 1 ≤ w4.heap.size := by omega
  have X6 := X5.below hb6 (by omega)
  have Z6 := Z5.below hb6 (by omega)
  have R6 : Row w6 (w.heap.size + 1 + 1) 84 3 (.slice (some ⟨g1, 0, none⟩) M k1) M (gv y) := R5.below (by rw [hs5]; exact hb6)
  have b6 := b5.trans (hb6.mono (by omega))
  have x40 := X4.cell 0 rfl
  have x41 := X4.cell 1 rfl
  have x42 := X4.cell 2 rfl
  have x4f := X4.frozen
  have x6f := X6.frozen
  have x62 := X6.cell 2 (v := .slice Ao m co) rfl
  have x51 := X5.cell 2 rfl
  have x5a := (X5.alloc (.cells #[] 3)).cell 2 rfl
  have c1 := X2.cell 1 rfl
  have HR1 := Lib.hid r1
  have HR2 := Lib.hid r2
  have X7 := X6.set 2 (.slice (some ⟨g2, 0, none⟩) L k2)
  have Z7 := Z6.far (p := ⟨w.heap.size, 2, none⟩) (by show w.heap.size + 1 ≠ w.heap.size; omega) (.slice (some ⟨g2, 0, none⟩) L k2)
  have b7 := b6.setCell (p := ⟨w.heap.size, 2, none⟩) (Nat.le_refl _) (.slice (some ⟨g2, 0, none⟩) L k2)
  have c7 := ((Chg.refl (fun q => q = w.heap.size ∨ q = w.heap.size + 1) w6).set (p := ⟨w.heap.size, 2, none⟩) (.inr (.inl rfl)) (.slice (some ⟨g2, 0, none⟩) L k2))
  have x70 := X7.cell 0 (v := .int .i64 N) rfl
  have x71 := X7.cell 1 (v := .slice (some ⟨g1, 0, none⟩) M k1) rfl
  have x72 := X7.cell 2 (v := .slice (some ⟨g2, 0, none⟩) L k2) rfl
  have z7f := Z7.frozen
  have z70 := Z7.cell 0 (v := .int .i64 0) rfl
  have z71 := Z7.cell 1 (v := .slice none 0 0) rfl
  have z72 := Z7.cell 2 (v := .slice none 0 0) rfl
  have HF := Lib.hid (And.intro Z7 (And.intro R6 (And.intro hR2 (And.intro b7 c7))))
  have HG := Lib.hid (And.intro hg1 (And.intro hg2 hw4))
  clear X7 Z7 b7 c7 b2 X2 Z2 hs2 hgo r1 hR1 hb4 hk1 hl1 X4 Z4 b4 X5 Z5 b5 R5 hs5 r2 hg2 hl2 hk2 hR2 hb6 X6 Z6 R6 b6 hg ho hn hm zg zo hg1 hw4
  go_enter Tryd.func10, Tryd.ntmps10
  go_wp2_with (first
    | (at_builtin; refine wpList_append_run rfl _ _ 22 rfl (.slice (some ⟨w.heap.size + 1 + 1, 0, none⟩) 0 0) (.slice Ag M cg) (.slice (some ⟨g1, 0, none⟩) M k1) w4 rfl rfl (HR1.out _) ?_)
    | (at_builtin; refine wpList_append_run rfl _ _ 23 rfl (.slice (some ⟨w4.heap.size, 0, none⟩) 0 0) (.slice Ao L co) (.slice (some ⟨g2, 0, none⟩) L k2) w6 rfl rfl (HR2.out _) ?_))
  have Z8 := ((HF.out.1.set 0 (.int .i64 N)).set 1 (.slice (some ⟨g1, 0, none⟩) M k1)).set 2 (.slice (some ⟨g2, 0, none⟩) L k2)
  have p0 := Z8.cell 0 rfl
  have p1 := Z8.cell 1 rfl
  have p2 := Z8.cell 2 rfl
  have c8 := ((HF.out.2.2.2.2.set (p := ⟨w.heap.size + 1, 0, none⟩) (.inr (.inr rfl)) (.int .i64 N)).set (p := ⟨w.heap.size + 1, 1, none⟩) (.inr (.inr rfl)) (.slice (some ⟨g1, 0, none⟩) M k1)).set (p := ⟨w.heap.size + 1, 2, none⟩) (.inr (.inr rfl)) (.slice (some ⟨g2, 0, none⟩) L k2)
  have b8 := ((HF.out.2.2.2.1.setCell (p := ⟨w.heap.size + 1, 0, none⟩) (by show w.heap.size ≤ w.heap.size + 1; omega) (.int .i64 N)).setCell (p := ⟨w.heap.size + 1, 1, none⟩) (by show w.heap.size ≤ w.heap.size + 1; omega) (.slice (some ⟨g1, 0, none⟩) M k1)).setCell (p := ⟨w.heap.size + 1, 2, none⟩) (by show w.heap.size ≤ w.heap.size + 1; omega) (.slice (some ⟨g2, 0, none⟩) L k2)
  have hg := HG.out
  refine bodyPost_ret (v := circV N (some ⟨g1, 0, none⟩) M k1 (some ⟨g2, 0, none⟩) L k2) (by simp [results, Tryd.results10, go_sem, p0, p1, p2]) rfl ⟨g1, k1, g2, k2, rfl, by omega, by omega, (HF.out.2.1.mono (base' := w.heap.size) ?_).chg c8 ?_, (HF.out.2.2.1.mono (base' := w.heap.size) ?_).chg c8 ?_, b8⟩
  · intro g h
    obtain rfl : g1 = g := Option.some.inj h
    omega
  · intro g h e
    obtain rfl : g1 = g := Option.some.inj h
    omega
  · intro g h
    obtain rfl : g2 = g := Option.some.inj h
    omega
  · intro g h e
    obtain rfl : g2 = g := Option.some.inj h
    omega
end Go.Proofs.YtamejhhjfnfalaaDoor

/- Contract of the law's Gates; copy of flags; Check's answer for a circuit. -/
namespace Go.Proofs.YtamejhhjfnfalaaDoor
open Go.RowKit

set_option maxHeartbeats 2000000 in
set_option maxRecDepth 100000 in
theorem gates_any (w : World) (N : Int) (Ag : Option Addr) (n cg : Nat) (y : Nat → Nat → Int) (Ao : Option Addr) (m co : Nat) (hg : AtV w Ag (n * 3) (gv y)) (hn : n ≤ 1000000) :
    Calls Tryd.prog 13 #[circV N Ag n cg Ao m co] w fun e w' => ∃ v, e = .returned v ∧ Row w' w.heap.size 96 3 v n (gv y) ∧ Below w.heap.size w w' := by
  have hb0 := (Below.refl w.heap.size w).alloc (Nat.le_refl _) (.cells #[.int .i64 N, .slice Ag n cg, .slice Ao m co] 25)
  have HX := Blk.new w 25 #[.int .i64 N, .slice Ag n cg, .slice Ao m co]
  have c1 := HX.cell 1 (v := .slice Ag n cg) rfl
  have HN := Lib.hid hn
  have H0 := Lib.hid (And.intro hg hb0)
  clear hg hb0 HX hn
  go_enter Tryd.func13, Tryd.ntmps13
  go_wp2
  clear c1
  generalize hw0 : (w.alloc (.cells #[.int .i64 N, .slice Ag n cg, .slice Ao m co] 25)) = w0 at *
  go_loopw [3, 9] (fun v' i wr => ∃ k : Nat, ∃ v, k ≤ n ∧ v = v' ∧ i = .int .i64 k ∧ Hid (Row wr w.heap.size 96 3 v k (gv y) ∧ Below w.heap.size w wr)) (fun _ i _ => n - (intOf i).toNat)
  case atStart => exact ⟨0, _, Nat.zero_le _, rfl, rfl, Row.nil _ _ _ _ _, H0.out.2⟩
  case round =>
    obtain ⟨k, v, hk, rfl, rfl, HI⟩ := hrel
    have hlw := HI.out.2.size
    by_cases hlt2 : k < n
    · obtain ⟨ad, rfl, ae, hae, g0, g1, g2, hbk⟩ := (H0.out.1.belowB HI.out.2 (AtV.lt H0.out.1)).gate k hlt2
      have lt1 : (k : Int) < (n : Int) := by omega
      have lt0 : (0 : Int) ≤ (k : Int) := by omega
      have e1 : IntKind.i64.wrap ((k : Int) + 1) = (k : Int) + 1 := i64_nat _ (by omega) (by have := HN.out; omega)
      have HGn := Blk.new wr 84 #[.int .i64 (y k 0), .int .i64 (y k 1), .int .i64 (y k 2)]
      have q0 := HGn.cell 0 (v := .int .i64 (y k 0)) rfl
      have q1 := HGn.cell 1 (v := .int .i64 (y k 1)) rfl
      have q2 := HGn.cell 2 (v := .int .i64 (y k 2)) rfl
      have hb2 := HI.out.2.trans (((Below.refl wr.heap.size wr).alloc (Nat.le_refl _) (.cells #[.int .i64 (y k 0), .int .i64 (y k 1), .int .i64 (y k 2)] 84)).mono hlw)
      have hs2 : (wr.alloc (.cells #[.int .i64 (y k 0), .int .i64 (y k 1), .int .i64 (y k 2)] 84)).heap.size = wr.heap.size + 1 := by simp
      obtain ⟨g, kk, w3, hr, hgB, hR, hgr, _⟩ := append_one eltR (wr.alloc (.cells #[.int .i64 (y k 0), .int .i64 (y k 1), .int .i64 (y k 2)] 84)) w.heap.size v k (gv y) (fun j => .int .i64 (y k j)) #[.int .i64 (y k 0), .int .i64 (y k 1), .int .i64 (y k 2)] (HI.out.1.alloc _) (fun j hj => by
        rcases (show j = 0 ∨ j = 1 ∨ j = 2 by omega) with rfl | rfl | rfl <;> rfl) (fun _ => rfl) (by have := HN.out; omega) (by have := HN.out; unfold maxLen; omega) (by omega)
      rw [hs2] at hr
      have hown := HI.out.1.own
      have hb3 : Below w.heap.size w w3 := (hb2.alloc hb2.size (.cells #[.int .i64 (y k 0), .int .i64 (y k 1), .int .i64 (y k 2)] 96)).grown hgr (by simp; omega) (fun q hq => (hown q hq).1)
      have HR := Lib.hid hr
      have HF := Lib.hid (And.intro (hR.congr (G := gv y) (fun i hi => by
        by_cases h : i < k * 3
        · rw [if_pos h]
        · rw [if_neg h]
          unfold gv
          rw [show i / 3 = k by omega, show i % 3 = i - k * 3 by omega])) hb3)
      have HLt := Lib.hid hlt2
      clear HGn hlt2 hbk hb2 hr hgB hR hgr hown hb3 hs2 HI
      go_wp2_with (at_builtin; refine wpList_append_run rfl _ _ 40 rfl v (.slice (some ⟨wr.heap.size + 1, 0, none⟩) 1 1) (.slice (some ⟨g, 0, none⟩) (k + 1) kk) w3 rfl rfl (HR.out _) ?_)
      go_roundw
      case rel => exact ⟨k + 1, _, by have := HLt.out; omega, rfl, by go_num, HF.out.1, HF.out.2⟩
      case measure => simp [intOf]; have := HLt.out; omega
    · obtain rfl : k = n := by omega
      have lt1 : ¬ (k : Int) < (k : Int) := by omega
      clear hlt2 hk
      go_wp2
      go_ret
      exact ⟨v, rfl, HI.out.1, HI.out.2⟩
theorem check_ok {w : World} {N : Int} {Ag : Option Addr} {n cg : Nat} {y : Nat → Nat → Int} {Ao : Option Addr} {m co : Nat} {o : Nat → Int} (hh : Handle w) (hg : AtV w Ag (n * 3) (gv y)) (ho : AtV w Ao m (iv o)) (hn : n ≤ maxLen) (hm : m ≤ maxLen) (hG : Circ.Good N n y m o) :
    Calls Tryd.prog 19 #[circV N Ag n cg Ao m co] w fun e w' => e = .returned .nilIface ∧ Below w.heap.size w w' :=
  (check_any w N Ag n cg y Ao m co o hh hg ho hn hm).mono fun e w' h => by
    rcases h.1 with h1 | h1
    · exact ⟨h1.2, h.2⟩
    · exact absurd hG h1.1
theorem check_bad {w : World} {N : Int} {Ag : Option Addr} {n cg : Nat} {y : Nat → Nat → Int} {Ao : Option Addr} {m co : Nat} {o : Nat → Int} (hh : Handle w) (hg : AtV w Ag (n * 3) (gv y)) (ho : AtV w Ao m (iv o)) (hn : n ≤ maxLen) (hm : m ≤ maxLen) (hG : ¬ Circ.Good N n y m o) :
    Calls Tryd.prog 19 #[circV N Ag n cg Ao m co] w fun e w' => (∃ p a, e = .returned (chain [(p, a)] 90)) ∧ Below w.heap.size w w' :=
  (check_any w N Ag n cg y Ao m co o hh hg ho hn hm).mono fun e w' h => by
    rcases h.1 with h1 | h1
    · exact absurd h1.1 hG
    · exact ⟨h1.2, h.2⟩
/-- copy onto a list of flags of the call's own. -/
theorem copy_bits (w : World) (B g N C : Nat) (F : Nat → Value) (A : Option Addr) (K c : Nat) (f : Nat → Bool) (hR : Row w B 4 1 (.slice (some ⟨g, 0, none⟩) N C) N F) (hA : AtV w A K (bv f)) (h0 : A = none → K = 0 ∧ c = 0) :
    ∃ k w', (∀ ty, (Builtin.copy_ #[49, 49] ty #[.slice (some ⟨g, 0, none⟩) N C, .slice A K c]).run Tryd.prog w = .ok (goInt k) w') ∧ Row w' B 4 1 (.slice (some ⟨g, 0, none⟩) N C) N (fun i => if i < K then bv f i else F i) ∧ Chg (fun q => q = g) w w' := by
  rcases A with _ | ad
  · obtain ⟨rfl, rfl⟩ := h0 rfl
    exact ⟨0, w, fun ty => run_copy_nil Tryd.prog w 49 49 ty 4 _ _ _ eltB.und (by rw [eltB.size1]; rfl), hR.congr fun i _ => by simp, Chg.refl _ _⟩
  · obtain ⟨hl, h⟩ := hR
    rcases h with ⟨e1, _⟩ | ⟨g', cap, cur, e1, hb, hg, hnc, hm, hsz, ht⟩
    · cases e1
    · injection e1 with e1 _ e3
      injection e1 with e1
      injection e1 with e1
      subst e1 e3
      have hcl : (flat (min K N) (bv f)).length = Nat.min K N := flat_length _ _
      have hfit : 0 + (flat (min K N) (bv f)).length ≤ cur.size := by rw [flat_length]; omega
      refine ⟨_, _, fun ty => run_copy_row (P := Tryd.prog) w 49 49 ty 4 g 0 N C ad K c cur 4 (flat (min K N) (bv f)) eltB.und eltB.size1 hg hcl (fun j v hj => ?_) hfit (flat_one (bv_one f)), ⟨by rw [flat_length], .inr ⟨g, C, _, rfl, hb, setRow_heap _ _ _ _ _ _ hg, hnc, hm, ?_, ?_⟩⟩, ?_⟩
      · exact (hA.less (Nat.min_le_left K N)).news j v hj
      · simp [flat_length]
        omega
      · apply List.ext_getElem?
        intro j
        rw [List.getElem?_take]
        by_cases hj : j < N
        · rw [if_pos (by omega), flat_get _ _ _ (by omega)]
          simp only [List.take_zero, List.nil_append, Nat.zero_add]
          have h2 : (cur.toList.take (N * 1))[j]? = some (F j) := by rw [ht, flat_get _ _ _ (by omega)]
          rw [List.getElem?_take, if_pos (by omega)] at h2
          by_cases hk : j < K
          · rw [if_pos hk, List.getElem?_append_left (by rw [flat_length]; omega), flat_get _ _ _ (by omega)]
          · rw [if_neg hk, List.getElem?_append_right (by rw [flat_length]; omega), List.getElem?_drop, flat_length]
            rw [show min K N + (j - min K N) = j by omega]
            exact h2
        · rw [if_neg (by omega), flat_none _ _ _ (by omega)]
      · exact ⟨rfl, rfl, rfl, by simp [World.setRow], fun k _ hs => setRow_other w g k _ hs⟩
end Go.Proofs.YtamejhhjfnfalaaDoor

/- Contracts of the document's Good and Eval. -/
namespace Go.Proofs.YtamejhhjfnfalaaDoor
open Go.RowKit

/-- What the document's Good answers. -/
def GdAns (good : Prop) (w : World) (e : Ending) (w' : World) : Prop := (good ∧ e = .returned (.bool true) ∨ ¬ good ∧ e = .returned (.bool false)) ∧ Below w.heap.size w w'
set_option maxHeartbeats 8000000 in
set_option maxRecDepth 100000 in
theorem rgood_any (w : World) (N : Int) (Ag : Option Addr) (n cg : Nat) (y : Nat → Nat → Int) (Ao : Option Addr) (m co : Nat) (o : Nat → Int) (hg : AtV w Ag (n * 3) (gv y)) (ho : AtV w Ao m (iv o)) (hn : n ≤ 1000000) (hm : m ≤ 1000000) :
    Calls Tryd.prog 14 #[.int .i64 N, .slice Ag n cg, .slice Ao m co] w (GdAns (Circ.Good N n y m o) w) := by
  have H0 := Lib.hid (And.intro hg ho)
  have HMx := Lib.hid (And.intro hn hm)
  clear hg ho hn hm
  by_cases h1 : N < 0
  · have HN := Lib.hid (show ¬ Circ.Good N n y m o from fun h => by have := h.n0; omega)
    go_enter Tryd.func14, Tryd.ntmps14
    go_wp2
    go_ret
    exact ⟨.inr ⟨HN.out, rfl⟩, Below.refl _ _⟩
  have b1 : decide (N < 0) = false := decide_eq_false h1
  by_cases h2 : 4096 < N
  · have HN := Lib.hid (show ¬ Circ.Good N n y m o from fun h => by have := h.n1; omega)
    go_enter Tryd.func14, Tryd.ntmps14
    go_wp2
    go_ret
    exact ⟨.inr ⟨HN.out, rfl⟩, Below.refl _ _⟩
  have b2 : decide (4096 < N) = false := decide_eq_false h2
  by_cases h3 : 4096 < n
  · have HN := Lib.hid (show ¬ Circ.Good N n y m o from fun h => by have := h.g; omega)
    have l3 : (4096 : Int) < (n : Int) := by omega
    clear h3
    go_enter Tryd.func14, Tryd.ntmps14
    go_wp2
    go_ret
    exact ⟨.inr ⟨HN.out, rfl⟩, Below.refl _ _⟩
  have b3 : ¬ (4096 : Int) < (n : Int) := by omega
  have b3d : decide ((4096 : Int) < (n : Int)) = false := decide_eq_false b3
  by_cases h4 : 64 < m
  · have HN := Lib.hid (show ¬ Circ.Good N n y m o from fun h => by have := h.u; omega)
    have l4 : (64 : Int) < (m : Int) := by omega
    clear h4 h3
    go_enter Tryd.func14, Tryd.ntmps14
    go_wp2
    go_ret
    exact ⟨.inr ⟨HN.out, rfl⟩, Below.refl _ _⟩
  have b4 : ¬ (64 : Int) < (m : Int) := by omega
  have b4d : decide ((64 : Int) < (m : Int)) = false := decide_eq_false b4
  have HL := Lib.hid (show 0 ≤ N ∧ N ≤ 4096 ∧ n ≤ 4096 ∧ m ≤ 64 from ⟨by omega, by omega, by omega, by omega⟩)
  clear h3 h4 h1 h2
  go_enter Tryd.func14, Tryd.ntmps14
  go_wp2
  clear b1 b2 b3 b3d b4 b4d
  go_loopw [7] (fun i wr => ∃ k : Nat, k ≤ n ∧ i = .int .i64 k ∧ Hid (Below w.heap.size w wr ∧ ∀ j, j < k → Circ.FitsP (y j 0) (y j 1) (y j 2) (N + j))) (fun i _ => n - (intOf i).toNat)
  case atStart => exact ⟨0, Nat.zero_le _, rfl, Below.refl _ _, fun j hj => absurd hj (by omega)⟩
  case round =>
    obtain ⟨k, hk, rfl, HI⟩ := hrel
    have hlw := HI.out.1.size
    by_cases hlt2 : k < n
    · obtain ⟨ad, rfl, ae, hae, g0, g1, g2, hbk⟩ := (H0.out.1.below HI.out.1).gate k hlt2
      have lt1 : (k : Int) < (n : Int) := by omega
      have lt0 : (0 : Int) ≤ (k : Int) := by omega
      have e1 : IntKind.i64.wrap ((k : Int) + 1) = (k : Int) + 1 := i64_nat _ (by omega) (by have := HL.out; omega)
      have e2 : IntKind.i64.wrap (N + (k : Int)) = N + (k : Int) := i64_nat _ (by have := HL.out; omega) (by have := HL.out; omega)
      have HGn := Blk.new wr 96 #[.int .i64 (y k 0), .int .i64 (y k 1), .int .i64 (y k 2)]
      have q0 := HGn.cell 0 (v := .int .i64 (y k 0)) rfl
      have q1 := HGn.cell 1 (v := .int .i64 (y k 1)) rfl
      have q2 := HGn.cell 2 (v := .int .i64 (y k 2)) rfl
      have HB2 := Lib.hid (HI.out.1.trans (((Below.refl wr.heap.size wr).alloc (Nat.le_refl _) (.cells #[.int .i64 (y k 0), .int .i64 (y k 1), .int .i64 (y k 2)] 96)).mono hlw))
      have HLt := Lib.hid hlt2
      have HFQ := Lib.hid (show (Circ.Good N n y m o → Circ.FitsP (y k 0) (y k 1) (y k 2) (N + k)) from fun h => h.fit k hlt2)
      clear HGn hlt2 hbk
      obtain ⟨u0, hu0⟩ : ∃ x, y k 0 = x := ⟨_, rfl⟩
      obtain ⟨u1, hu1⟩ : ∃ x, y k 1 = x := ⟨_, rfl⟩
      obtain ⟨u2, hu2⟩ : ∃ x, y k 2 = x := ⟨_, rfl⟩
      rw [hu0] at g0 q0 q1 q2 HB2 HFQ
      rw [hu1] at g1 q0 q1 q2 HB2 HFQ
      rw [hu2] at g2 q0 q1 q2 HB2 HFQ
      have HU := Lib.hid (And.intro hu0 (And.intro hu1 hu2))
      clear hu0 hu1 hu2
      by_cases t1 : u0 < 1
      · have HN := Lib.hid (show ¬ Circ.Good N n y m o from fun h => by have := HFQ.out h; unfold Circ.FitsP at this; omega)
        go_wp2
        go_ret
        exact ⟨.inr ⟨HN.out, rfl⟩, HB2.out⟩
      have d1 : decide (u0 < 1) = false := decide_eq_false t1
      by_cases t2 : 3 < u0
      · have HN := Lib.hid (show ¬ Circ.Good N n y m o from fun h => by have := HFQ.out h; unfold Circ.FitsP at this; omega)
        go_wp2
        go_ret
        exact ⟨.inr ⟨HN.out, rfl⟩, HB2.out⟩
      have d2 : decide (3 < u0) = false := decide_eq_false t2
      by_cases t3 : u1 < 0
      · have HN := Lib.hid (show ¬ Circ.Good N n y m o from fun h => by have := HFQ.out h; unfold Circ.FitsP at this; omega)
        go_wp2
        go_ret
        exact ⟨.inr ⟨HN.out, rfl⟩, HB2.out⟩
      have d3 : decide (u1 < 0) = false := decide_eq_false t3
      by_cases t4 : N + (k : Int) ≤ u1
      · have HN := Lib.hid (show ¬ Circ.Good N n y m o from fun h => by have := HFQ.out h; unfold Circ.FitsP at this; omega)
        go_wp2
        go_ret
        exact ⟨.inr ⟨HN.out, rfl⟩, HB2.out⟩
      have d4 : decide (N + (k : Int) ≤ u1) = false := decide_eq_false t4
      by_cases t5 : u2 < 0
      · have HN := Lib.hid (show ¬ Circ.Good N n y m o from fun h => by have := HFQ.out h; unfold Circ.FitsP at this; omega)
        go_wp2
        go_ret
        exact ⟨.inr ⟨HN.out, rfl⟩, HB2.out⟩
      have d5 : decide (u2 < 0) = false := decide_eq_false t5
      by_cases t6 : u0 < 3
      · have n3 : (u0 == 3) = false := by simp; omega
        by_cases t7 : N + (k : Int) ≤ u2
        · have HN := Lib.hid (show ¬ Circ.Good N n y m o from fun h => by have := HFQ.out h; unfold Circ.FitsP at this; omega)
          go_wp2
          go_ret
          exact ⟨.inr ⟨HN.out, rfl⟩, HB2.out⟩
        · have d7 : decide (N + (k : Int) ≤ u2) = false := decide_eq_false t7
          have HFt := Lib.hid (show Circ.FitsP u0 u1 u2 (N + (k : Int)) from by unfold Circ.FitsP; omega)
          go_wp2
          go_roundw
          case rel => exact ⟨k + 1, by have := HLt.out; omega, by go_num, HB2.out, fun j hj => by
            rcases Nat.lt_or_ge j k with h | h
            · exact HI.out.2 j h
            · obtain rfl : j = k := by omega
              rw [HU.out.1, HU.out.2.1, HU.out.2.2]
              exact HFt.out⟩
          case measure => simp [intOf]; have := HLt.out; omega
      · have d6 : decide (u0 < 3) = false := decide_eq_false t6
        have n3 : (u0 == 3) = true := by simp; omega
        by_cases t7 : u2 = 0
        · have n7 : (u2 != 0) = false := by simp [t7]
          have n8 : (u2 == 0) = true := by simp [t7]
          have HFt := Lib.hid (show Circ.FitsP u0 u1 u2 (N + (k : Int)) from by unfold Circ.FitsP; omega)
          clear t7
          go_wp2
          go_roundw
          case rel => exact ⟨k + 1, by have := HLt.out; omega, by go_num, HB2.out, fun j hj => by
            rcases Nat.lt_or_ge j k with h | h
            · exact HI.out.2 j h
            · obtain rfl : j = k := by omega
              rw [HU.out.1, HU.out.2.1, HU.out.2.2]
              exact HFt.out⟩
          case measure => simp [intOf]; have := HLt.out; omega
        · have n7 : (u2 != 0) = true := by simp [t7]
          have n8 : (u2 == 0) = false := by simp [t7]
          have HN := Lib.hid (show ¬ Circ.Good N n y m o from fun h => by have := HFQ.out h; unfold Circ.FitsP at this; omega)
          go_wp2
          go_ret
          exact ⟨.inr ⟨HN.out, rfl⟩, HB2.out⟩
    · obtain rfl : k = n := by omega
      have lt1 : ¬ (k : Int) < (k : Int) := by omega
      have e2 : IntKind.i64.wrap (N + (k : Int)) = N + (k : Int) := i64_nat _ (by have := HL.out; omega) (by have := HL.out; omega)
      obtain ⟨wB, hwB⟩ : ∃ x, x = wr := ⟨_, rfl⟩
      subst hwB
      have HFs := Lib.hid HI.out.2
      have HBB := Lib.hid HI.out.1
      clear HI hlt2 hk
      go_wp2
      go_loopw [9] (fun i wr => ∃ t : Nat, t ≤ m ∧ i = .int .i64 t ∧ Hid (wr = wB ∧ ∀ j, j < t → 0 ≤ o j ∧ o j < N + k)) (fun i _ => m - (intOf i).toNat)
      case atStart => exact ⟨0, Nat.zero_le _, rfl, rfl, fun j hj => absurd hj (by omega)⟩
      case round =>
        obtain ⟨t, ht, rfl, HI⟩ := hrel
        obtain ⟨rfl, hrs⟩ := HI.out
        have HR := Lib.hid hrs
        clear HI hrs
        by_cases hlt2 : t < m
        · obtain ⟨ad, rfl, co1⟩ := (H0.out.2.below HBB.out) t hlt2
          unfold iv at co1
          have lt2 : (t : Int) < (m : Int) := by omega
          have lt0 : (0 : Int) ≤ (t : Int) := by omega
          have e1 : IntKind.i64.wrap ((t : Int) + 1) = (t : Int) + 1 := i64_nat _ (by omega) (by have := HL.out; omega)
          have HLt := Lib.hid hlt2
          have HFQ := Lib.hid (show (Circ.Good N k y m o → 0 ≤ o t ∧ o t < N + k) from fun h => h.out t hlt2)
          clear hlt2
          obtain ⟨u, hu⟩ : ∃ x, o t = x := ⟨_, rfl⟩
          rw [hu] at co1 HFQ
          have HU := Lib.hid hu
          clear hu
          by_cases t1 : u < 0
          · have HN := Lib.hid (show ¬ Circ.Good N k y m o from fun h => by have := HFQ.out h; omega)
            go_wp2
            go_ret
            exact ⟨.inr ⟨HN.out, rfl⟩, HBB.out⟩
          have d1 : decide (u < 0) = false := decide_eq_false t1
          by_cases t2 : N + (k : Int) ≤ u
          · have HN := Lib.hid (show ¬ Circ.Good N k y m o from fun h => by have := HFQ.out h; omega)
            go_wp2
            go_ret
            exact ⟨.inr ⟨HN.out, rfl⟩, HBB.out⟩
          have d2 : decide (N + (k : Int) ≤ u) = false := decide_eq_false t2
          have HFt := Lib.hid (show 0 ≤ u ∧ u < N + (k : Int) by omega)
          go_wp2
          go_roundw
          case rel => exact ⟨t + 1, by have := HLt.out; omega, by go_num, trivial, fun j hj => by
            rcases Nat.lt_or_ge j t with h | h
            · exact HR.out j h
            · obtain rfl : j = t := by omega
              rw [HU.out]
              exact HFt.out⟩
          case measure => simp [intOf]; have := HLt.out; omega
        · obtain rfl : t = m := by omega
          have lt2 : ¬ (t : Int) < (t : Int) := by omega
          have HGd := Lib.hid (show Circ.Good N k y t o from ⟨HL.out.1, HL.out.2.1, HL.out.2.2.1, HL.out.2.2.2, HFs.out, HR.out⟩)
          clear hlt2 ht
          go_wp2
          go_ret
          exact ⟨.inl ⟨HGd.out, rfl⟩, HBB.out⟩
/-- A list of flags grows by what the next gate makes. -/
theorem grow_bit (w1 w4 : World) (ws N k : Nat) (v : Value) (f : Nat → Bool) (y : Nat → Nat → Int) (a b : Nat) (bit : Bool) (ha : y k 1 = (a : Int)) (hb : y k 2 = (b : Int)) (hbit : Circ.gate (y k 0) (Circ.vals N f y k a) (Circ.vals N f y k b) = bit) (hR : Row w4 ws 4 1 v (N + k) (bv (Circ.vals N f y k))) (hB : Below ws w1 w4) (hs1 : ws ≤ w1.heap.size) (hN : N + k ≤ 1000000) :
    ∃ g kk w5, (∀ ty, (Builtin.append_ #[49, 49] ty #[v, .slice (some ⟨w4.heap.size, 0, none⟩) 1 1]).run Tryd.prog (w4.alloc (.cells #[.bool bit] 4)) = .ok (.slice (some ⟨g, 0, none⟩) (N + k + 1) kk) w5) ∧ Row w5 ws 4 1 (.slice (some ⟨g, 0, none⟩) (N + k + 1) kk) (N + k + 1) (bv (Circ.vals N f y (k + 1))) ∧ Below ws w1 w5 := by
  have hs4 := hB.size
  obtain ⟨g, kk, w5, hr, hgB, hR5, hgr, _⟩ := append_one eltB w4 ws v (N + k) (bv (Circ.vals N f y k)) (bv fun _ => bit) #[.bool bit] hR (fun j hj => by
    obtain rfl : j = 0 := by omega
    rfl) (bv_one _) (by omega) (by unfold maxLen; omega) (by omega)
  have hown := hR.own
  refine ⟨g, kk, w5, hr, hR5.congr (fun i hi => ?_), (hB.alloc (by omega) (.cells #[.bool bit] 4)).grown hgr (by simp; omega) (fun q hq => (hown q hq).1)⟩
  have HV : Circ.vals N f y (k + 1) = fun i => if i = N + k then bit else Circ.vals N f y k i := by
    show (fun i => if i = N + k then Circ.gate (y k 0) (Circ.vals N f y k (y k 1).toNat) (Circ.vals N f y k (y k 2).toNat) else Circ.vals N f y k i) = _
    rw [ha, hb, Int.toNat_natCast, Int.toNat_natCast, hbit]
  unfold bv
  rw [HV]
  by_cases h : i = N + k
  · subst h; rw [if_neg (by omega)]; simp
  · rw [if_pos (by omega)]; simp [h]
end Go.Proofs.YtamejhhjfnfalaaDoor

/- Contract of the document's Eval. -/
namespace Go.Proofs.YtamejhhjfnfalaaDoor
open Go.RowKit

set_option maxHeartbeats 8000000 in
set_option maxRecDepth 100000 in
theorem reval_any (w : World) (N : Nat) (Ag : Option Addr) (n cg : Nat) (y : Nat → Nat → Int) (Ao : Option Addr) (m co : Nat) (o : Nat → Int) (A : Option Addr) (c : Nat) (f : Nat → Bool) (hg : AtV w Ag (n * 3) (gv y)) (ho : AtV w Ao m (iv o)) (hA : AtV w A N (bv f)) (hz : A = none → N = 0 ∧ c = 0) (hG : Circ.Good N n y m o) :
    Calls Tryd.prog 22 #[.slice Ag n cg, .slice Ao m co, .slice A N c] w fun e w' => ∃ v, e = .returned v ∧ Row w' w.heap.size 4 1 v m (bv fun i => Circ.vals N f y n (o i).toNat) ∧ Below w.heap.size w w' := by
  have hN := hG.n1
  have hn := hG.g
  have hm := hG.u
  have HG := Lib.hid hG
  have HN := Lib.hid (show N ≤ 4096 ∧ n ≤ 4096 ∧ m ≤ 64 by omega)
  obtain ⟨g0, k0, w1, hr1, hg0, _, hk0, hR1, hb1⟩ := append_empty eltB w A N c (bv f) (by rw [Nat.mul_one]; exact hA) hz (bv_one f) (by unfold maxLen; omega) (by omega)
  have HR1 := Lib.hid hr1
  have H0 := Lib.hid (And.intro hg (And.intro ho (And.intro hR1 hb1)))
  obtain ⟨ws, hws⟩ : ∃ x, w.heap.size = x := ⟨_, rfl⟩
  have HWS := Lib.hid hws
  clear hg ho hA hz hG hN hn hm hr1 hR1 hb1 hg0 hk0 hws
  go_enter Tryd.func22, Tryd.ntmps22
  go_wp2_with (at_builtin; refine wpList_append_run rfl _ _ 49 rfl (.slice (some ⟨w.heap.size, 0, none⟩) 0 0) (.slice A N c) (.slice (some ⟨g0, 0, none⟩) N k0) w1 rfl rfl (HR1.out _) ?_)
  clear HR1
  rw [HWS.out] at H0 ⊢
  go_loopw [7, 8] (fun v' i wr => ∃ k : Nat, ∃ v, k ≤ n ∧ v = v' ∧ i = .int .i64 k ∧ Hid (Row wr ws 4 1 v (N + k) (bv (Circ.vals N f y k)) ∧ Below ws w wr)) (fun _ i _ => n - (intOf i).toNat)
  case atStart => exact ⟨0, _, Nat.zero_le _, rfl, rfl, H0.out.2.2.1, H0.out.2.2.2⟩
  case round =>
    obtain ⟨k, v, hk, rfl, rfl, HI⟩ := hrel
    have hlw := HI.out.2.size
    have hws := HWS.out
    by_cases hlt2 : k < n
    · obtain ⟨ad, rfl, ae, hae, g0, g1, g2, hbk⟩ := (H0.out.1.below (by rw [hws]; exact HI.out.2)).gate k hlt2
      obtain ⟨a, ha, b, hb, hab⟩ : ∃ a : Nat, y k 1 = (a : Int) ∧ ∃ b : Nat, y k 2 = (b : Int) ∧ a < N + k ∧ (y k 0 = 1 ∨ y k 0 = 2 → b < N + k) ∧ (y k 0 = 1 ∨ y k 0 = 2 ∨ y k 0 = 3) := by
        rcases HG.out.fit k hlt2 with ⟨h0, h⟩ | ⟨h0, h⟩
        · exact ⟨(y k 1).toNat, by omega, (y k 2).toNat, by omega, by omega, by omega, by omega⟩
        · exact ⟨(y k 1).toNat, by omega, (y k 2).toNat, by omega, by omega, by omega, by omega⟩
      rw [ha] at g1
      rw [hb] at g2
      have lt1 : (k : Int) < (n : Int) := by omega
      have lt0 : (0 : Int) ≤ (k : Int) := by omega
      have e1 : IntKind.i64.wrap ((k : Int) + 1) = (k : Int) + 1 := i64_nat _ (by omega) (by have := HN.out; omega)
      have HGn := Blk.new wr 96 #[.int .i64 (y k 0), .int .i64 (a : Int), .int .i64 (b : Int)]
      have q0 := HGn.cell 0 (v := .int .i64 (y k 0)) rfl
      have q1 := HGn.cell 1 (v := .int .i64 (a : Int)) rfl
      have q2 := HGn.cell 2 (v := .int .i64 (b : Int)) rfl
      have hb2 : Below ws w (wr.alloc (.cells #[.int .i64 (y k 0), .int .i64 (a : Int), .int .i64 (b : Int)] 96)) := HI.out.2.trans (((Below.refl wr.heap.size wr).alloc (Nat.le_refl _) _).mono (by omega))
      have hR2 := HI.out.1.alloc (.cells #[.int .i64 (y k 0), .int .i64 (a : Int), .int .i64 (b : Int)] 96)
      obtain ⟨Aw, cw, rfl, hnc, hcm, hnil, hAt, hbl, _⟩ := hR2.read
      rw [Nat.mul_one] at hAt
      obtain ⟨aw, rfl, ca⟩ := hAt a hab.1
      have cbb : y k 0 = 1 ∨ y k 0 = 2 → (wr.alloc (.cells #[.int .i64 (y k 0), .int .i64 (a : Int), .int .i64 (b : Int)] 96)).cell? (aw.add b) = some (.bool (Circ.vals N f y k b)) ∧ (b : Int) < (N : Int) + (k : Int) ∧ (0 : Int) ≤ (b : Int) := fun h => by
        obtain ⟨aw', e, cb⟩ := hAt b (hab.2.1 h)
        cases e
        exact ⟨cb, by have := hab.2.1 h; omega, by omega⟩
      unfold bv at ca
      have la : (a : Int) < (N : Int) + (k : Int) := by have := hab.1; omega
      have la0 : (0 : Int) ≤ (a : Int) := by omega
      have hle1 : ws ≤ w.heap.size := by omega
      have HLt := Lib.hid hlt2
      have hNk : N + k ≤ 1000000 := by have := HN.out; omega
      have hkd := hab.2.2
      by_cases h1 : y k 0 = 1
      · obtain ⟨cb, lb, lb0⟩ := cbb (.inl h1)
        have n1 : (y k 0 == 1) = true := by rw [h1]; rfl
        obtain ⟨g, kk, w5, hr, hR5, hb5⟩ := grow_bit w (wr.alloc (.cells #[.int .i64 (y k 0), .int .i64 (a : Int), .int .i64 (b : Int)] 96)).drew ws N k _ f y a b (Circ.vals N f y k a != Circ.vals N f y k b) ha hb (by unfold Circ.gate; rw [if_pos h1]) (hR2.chg (Chg.drew (Chg.refl (fun _ => False) _)) (fun _ _ h => h)) hb2.drew hle1 hNk
        have HR := Lib.hid hr
        have HF := Lib.hid (And.intro hR5 hb5)
        clear HGn hbk hb2 hR2 hnc hcm hnil hAt hbl ha hb hab cbb hws hlt2 h1 hkd hr hR5 hb5 hle1 hNk HI
        go_wp2
        generalize (wr.alloc (.cells #[.int .i64 (y k 0), .int .i64 (a : Int), .int .i64 (b : Int)] 96)) = w2 at *
        refine region_y [13, 14] (fun w' => w'.cell? ⟨wr.heap.size, 1, none⟩ = some (.int .i64 (a : Int)) ∧ w'.cell? ⟨wr.heap.size, 2, none⟩ = some (.int .i64 (b : Int)) ∧ w'.cell? (aw.add a) = some (.bool (Circ.vals N f y k a)) ∧ w'.cell? (aw.add b) = some (.bool (Circ.vals N f y k b))) (by kernel_rfl) ?_
        have hS : w2.drew.cell? ⟨wr.heap.size, 1, none⟩ = some (.int .i64 (a : Int)) ∧ w2.drew.cell? ⟨wr.heap.size, 2, none⟩ = some (.int .i64 (b : Int)) ∧ w2.drew.cell? (aw.add a) = some (.bool (Circ.vals N f y k a)) ∧ w2.drew.cell? (aw.add b) = some (.bool (Circ.vals N f y k b)) := ⟨q1, q2, ca, cb⟩
        clear q0 q1 q2 ca cb
        generalize w2.drew = w3 at *
        refine yu (i := 0) rfl (.slice (some aw) (N + k) cw) (by kernel_rfl) (by kernel_rfl) (by kernel_rfl) (fun _ _ _ h => h) (fun w' => by go_simp) ?_
        try simp only [Act.put, List.setIfInBounds_toArray, List.set_cons_zero, List.set_cons_succ]
        refine yu (i := 1) rfl (.slice (some aw) (N + k) cw) (by kernel_rfl) (by kernel_rfl) (by kernel_rfl) (fun _ _ _ h => h) (fun w' => by go_simp) ?_
        try simp only [Act.put, List.setIfInBounds_toArray, List.set_cons_zero, List.set_cons_succ]
        refine yu (i := 2) rfl (.pointer (some ⟨wr.heap.size, 1, none⟩)) (by kernel_rfl) (by kernel_rfl) (by kernel_rfl) (fun _ _ _ h => h) (fun w' => by go_simp) ?_
        try simp only [Act.put, List.setIfInBounds_toArray, List.set_cons_zero, List.set_cons_succ]
        refine yt [13, 14, 12, 11, 5, 4] (i := 3) rfl (.int .i64 (a : Int)) (by kernel_rfl) (by kernel_rfl) (by kernel_rfl) (by kernel_rfl) (fun _ _ _ h => h) hS (fun w' d0 => by obtain ⟨d1, d2, d3, d4⟩ := d0; go_simp) ?_
        try simp only [Act.put, List.setIfInBounds_toArray, List.set_cons_zero, List.set_cons_succ]
        refine yu (i := 4) rfl (.pointer (some (aw.add a))) (by kernel_rfl) (by kernel_rfl) (by kernel_rfl) (fun _ _ _ h => h) (fun w' => by go_simp) ?_
        try simp only [Act.put, List.setIfInBounds_toArray, List.set_cons_zero, List.set_cons_succ]
        refine yt [13, 14, 12, 11] (i := 5) rfl (.bool (Circ.vals N f y k a)) (by kernel_rfl) (by kernel_rfl) (by kernel_rfl) (by kernel_rfl) (fun _ _ _ h => h) hS (fun w' d0 => by obtain ⟨d1, d2, d3, d4⟩ := d0; go_simp) ?_
        try simp only [Act.put, List.setIfInBounds_toArray, List.set_cons_zero, List.set_cons_succ]
        refine yu (i := 6) rfl (.slice (some aw) (N + k) cw) (by kernel_rfl) (by kernel_rfl) (by kernel_rfl) (fun _ _ _ h => h) (fun w' => by go_simp) ?_
        try simp only [Act.put, List.setIfInBounds_toArray, List.set_cons_zero, List.set_cons_succ]
        refine yu (i := 7) rfl (.pointer (some ⟨wr.heap.size, 2, none⟩)) (by kernel_rfl) (by kernel_rfl) (by kernel_rfl) (fun _ _ _ h => h) (fun w' => by go_simp) ?_
        try simp only [Act.put, List.setIfInBounds_toArray, List.set_cons_zero, List.set_cons_succ]
        refine yt [13, 14, 12, 11, 10, 9] (i := 8) rfl (.int .i64 (b : Int)) (by kernel_rfl) (by kernel_rfl) (by kernel_rfl) (by kernel_rfl) (fun _ _ _ h => h) hS (fun w' d0 => by obtain ⟨d1, d2, d3, d4⟩ := d0; go_simp) ?_
        try simp only [Act.put, List.setIfInBounds_toArray, List.set_cons_zero, List.set_cons_succ]
        refine yu (i := 9) rfl (.pointer (some (aw.add b))) (by kernel_rfl) (by kernel_rfl) (by kernel_rfl) (fun _ _ _ h => h) (fun w' => by go_simp) ?_
        try simp only [Act.put, List.setIfInBounds_toArray, List.set_cons_zero, List.set_cons_succ]
        refine yt [13, 14, 12, 11] (i := 10) rfl (.bool (Circ.vals N f y k b)) (by kernel_rfl) (by kernel_rfl) (by kernel_rfl) (by kernel_rfl) (fun _ _ _ h => h) hS (fun w' d0 => by obtain ⟨d1, d2, d3, d4⟩ := d0; go_simp) ?_
        try simp only [Act.put, List.setIfInBounds_toArray, List.set_cons_zero, List.set_cons_succ]
        refine yu (i := 11) rfl (.bool (Circ.vals N f y k a != Circ.vals N f y k b)) (by kernel_rfl) (by kernel_rfl) (by kernel_rfl) (fun _ _ _ h => h) (fun w' => by go_simp; cases Circ.vals N f y k a <;> cases Circ.vals N f y k b <;> rfl) ?_
        try simp only [Act.put, List.setIfInBounds_toArray, List.set_cons_zero, List.set_cons_succ]
        refine y1 (i := 12) (by kernel_rfl) rfl (fun K hK => ?_)
        go_simp
        refine hK.out _ _ (.inr fun _ => ⟨(World.cell?_alloc_lt _ _ ⟨wr.heap.size, 1, none⟩ (World.block_lt_of_cell? _ _ hS.1)).trans hS.1, (World.cell?_alloc_lt _ _ ⟨wr.heap.size, 2, none⟩ (World.block_lt_of_cell? _ _ hS.2.1)).trans hS.2.1, (World.cell?_alloc_lt _ _ (aw.add a) (World.block_lt_of_cell? _ _ hS.2.2.1)).trans hS.2.2.1, (World.cell?_alloc_lt _ _ (aw.add b) (World.block_lt_of_cell? _ _ hS.2.2.2)).trans hS.2.2.2⟩) ?_
        clear hK K
        try simp only [Act.put, List.setIfInBounds_toArray, List.set_cons_zero, List.set_cons_succ]
        refine y1 (i := 13) (by kernel_rfl) rfl (fun K hK => ?_)
        refine wp_append_run _ _ 49 rfl (.slice (some aw) (N + k) cw) (.slice (some ⟨w3.heap.size, 0, none⟩) 1 1) (.slice (some ⟨g, 0, none⟩) (N + k + 1) kk) w5 rfl rfl (HR.out _) ?_
        refine hK.out _ _ (.inl (by decide)) ?_
        clear hK K
        try simp only [Act.put, List.setIfInBounds_toArray, List.set_cons_zero, List.set_cons_succ]
        refine y1 (i := 14) (by kernel_rfl) rfl (fun K hK => ?_)
        go_simp
        refine hK.out _ _ (.inl (by decide)) ?_
        clear hK K
        try simp only [Act.put, List.setIfInBounds_toArray, List.set_cons_zero, List.set_cons_succ]
        refine wpAnyY_done (by kernel_rfl) ?_ _
        go_wp2
        go_roundw
        case rel => exact ⟨k + 1, _, by have := HLt.out; omega, rfl, by go_num, HF.out.1, HF.out.2⟩
        case measure => simp [intOf]; have := HLt.out; omega
      · have n1 : (y k 0 == 1) = false := by simpa using h1
        have hs2 : (wr.alloc (.cells #[.int .i64 (y k 0), .int .i64 (a : Int), .int .i64 (b : Int)] 96)).heap.size = wr.heap.size + 1 := by simp
        by_cases h2 : y k 0 = 2
        · obtain ⟨cb, lb, lb0⟩ := cbb (.inr h2)
          have n2 : (y k 0 == 2) = true := by rw [h2]; rfl
          cases hva : Circ.vals N f y k a with
          | false =>
            rw [hva] at ca
            obtain ⟨g, kk, w5, hr, hR5, hb5⟩ := grow_bit w (wr.alloc (.cells #[.int .i64 (y k 0), .int .i64 (a : Int), .int .i64 (b : Int)] 96)) ws N k _ f y a b (false) ha hb (by unfold Circ.gate; rw [if_neg h1, if_pos h2, hva]; rfl) hR2 hb2 hle1 hNk
            rw [hs2] at hr
            have HR := Lib.hid hr
            have HF := Lib.hid (And.intro hR5 hb5)
            clear HGn hbk hb2 hR2 hnc hcm hnil hAt hbl ha hb hab cbb hws hlt2 h1 h2 hkd hs2 hr hR5 hb5 hle1 hNk HI hva
            go_wp2_with (at_builtin; refine wpList_append_run rfl _ _ 49 rfl (.slice (some aw) (N + k) cw) (.slice (some ⟨wr.heap.size + 1, 0, none⟩) 1 1) (.slice (some ⟨g, 0, none⟩) (N + k + 1) kk) w5 rfl rfl (HR.out _) ?_)
            go_roundw
            case rel => exact ⟨k + 1, _, by have := HLt.out; omega, rfl, by go_num, HF.out.1, HF.out.2⟩
            case measure => simp [intOf]; have := HLt.out; omega
          | true =>
            rw [hva] at ca
            obtain ⟨g, kk, w5, hr, hR5, hb5⟩ := grow_bit w (wr.alloc (.cells #[.int .i64 (y k 0), .int .i64 (a : Int), .int .i64 (b : Int)] 96)) ws N k _ f y a b (Circ.vals N f y k b) ha hb (by unfold Circ.gate; rw [if_neg h1, if_pos h2, hva]; rfl) hR2 hb2 hle1 hNk
            rw [hs2] at hr
            have HR := Lib.hid hr
            have HF := Lib.hid (And.intro hR5 hb5)
            clear HGn hbk hb2 hR2 hnc hcm hnil hAt hbl ha hb hab cbb hws hlt2 h1 h2 hkd hs2 hr hR5 hb5 hle1 hNk HI hva
            go_wp2_with (at_builtin; refine wpList_append_run rfl _ _ 49 rfl (.slice (some aw) (N + k) cw) (.slice (some ⟨wr.heap.size + 1, 0, none⟩) 1 1) (.slice (some ⟨g, 0, none⟩) (N + k + 1) kk) w5 rfl rfl (HR.out _) ?_)
            go_roundw
            case rel => exact ⟨k + 1, _, by have := HLt.out; omega, rfl, by go_num, HF.out.1, HF.out.2⟩
            case measure => simp [intOf]; have := HLt.out; omega
        · have n2 : (y k 0 == 2) = false := by simpa using h2
          obtain ⟨g, kk, w5, hr, hR5, hb5⟩ := grow_bit w (wr.alloc (.cells #[.int .i64 (y k 0), .int .i64 (a : Int), .int .i64 (b : Int)] 96)) ws N k _ f y a b (!Circ.vals N f y k a) ha hb (by unfold Circ.gate; rw [if_neg h1, if_neg h2]) hR2 hb2 hle1 hNk
          rw [hs2] at hr
          have HR := Lib.hid hr
          have HF := Lib.hid (And.intro hR5 hb5)
          clear HGn hbk hb2 hR2 hnc hcm hnil hAt hbl ha hb hab cbb hws hlt2 h1 h2 hkd hs2 hr hR5 hb5 hle1 hNk HI
          go_wp2_with (at_builtin; refine wpList_append_run rfl _ _ 49 rfl (.slice (some aw) (N + k) cw) (.slice (some ⟨wr.heap.size + 1, 0, none⟩) 1 1) (.slice (some ⟨g, 0, none⟩) (N + k + 1) kk) w5 rfl rfl (HR.out _) ?_)
          go_roundw
          case rel => exact ⟨k + 1, _, by have := HLt.out; omega, rfl, by go_num, HF.out.1, HF.out.2⟩
          case measure => simp [intOf]; have := HLt.out; omega
    · obtain rfl : k = n := by omega
      have lt1 : ¬ (k : Int) < (k : Int) := by omega
      obtain ⟨wB, hwB⟩ : ∃ x, x = wr := ⟨_, rfl⟩
      subst hwB
      obtain ⟨Aw, cw, rfl, hnc, hcm, hnil, hAt, hbl, _⟩ := HI.out.1.read
      rw [Nat.mul_one] at hAt
      have HB := Lib.hid (And.intro hAt HI.out.2)
      have hsB : ws ≤ wB.heap.size := by omega
      clear hnc hcm hnil hAt hbl hlt2 hk HI hws
      go_wp2
      go_loopw [10, 11] (fun v' i wr => ∃ t : Nat, ∃ v, t ≤ m ∧ v = v' ∧ i = .int .i64 t ∧ Hid (Row wr wB.heap.size 4 1 v t (bv fun q => Circ.vals N f y k (o q).toNat) ∧ Below wB.heap.size wB wr)) (fun _ i _ => m - (intOf i).toNat)
      case atStart => exact ⟨0, _, Nat.zero_le _, rfl, rfl, Row.nil _ _ _ _ _, Below.refl _ _⟩
      case round =>
        obtain ⟨t, v, ht, rfl, rfl, HI⟩ := hrel
        by_cases hlt2 : t < m
        · have hb0r : Below w.heap.size w wr := by
            rw [HWS.out]
            exact HB.out.2.trans (HI.out.2.mono hsB)
          obtain ⟨ad, rfl, co1⟩ := (H0.out.2.1.below hb0r) t hlt2
          unfold iv at co1
          obtain ⟨a, ha, hal⟩ : ∃ a : Nat, o t = (a : Int) ∧ a < N + k := by
            have := HG.out.out t hlt2
            exact ⟨(o t).toNat, by omega, by omega⟩
          obtain ⟨ad2, rfl, cw1⟩ := (HB.out.1.below HI.out.2) a hal
          unfold bv at cw1
          rw [ha] at co1
          have lt2 : (t : Int) < (m : Int) := by omega
          have lt0 : (0 : Int) ≤ (t : Int) := by omega
          have la1 : (a : Int) < (N : Int) + (k : Int) := by omega
          have la0 : (0 : Int) ≤ (a : Int) := by omega
          have e1 : IntKind.i64.wrap ((t : Int) + 1) = (t : Int) + 1 := i64_nat _ (by omega) (by have := HN.out; omega)
          have hsr := HI.out.2.size
          have hown := HI.out.1.own
          obtain ⟨g, kk, w5, hr, hgB, hR5, hgr, _⟩ := append_one eltB wr wB.heap.size v t (bv fun q => Circ.vals N f y k (o q).toNat) (bv fun _ => Circ.vals N f y k a) #[.bool (Circ.vals N f y k a)] HI.out.1 (fun j hj => by
            obtain rfl : j = 0 := by omega
            rfl) (bv_one _) (by have := HN.out; omega) (by have := HN.out; unfold maxLen; omega) hsr
          have hb5 : Below wB.heap.size wB w5 := (HI.out.2.alloc hsr (.cells #[.bool (Circ.vals N f y k a)] 4)).grown hgr (by simp; omega) (fun q hq => (hown q hq).1)
          have HR := Lib.hid hr
          have HF := Lib.hid (And.intro (hR5.congr (G := bv fun q => Circ.vals N f y k (o q).toNat) (fun i hi => by
            dsimp only [bv]
            by_cases h : i < t * 1
            · rw [if_pos h]
            · rw [if_neg h, show i = t by omega, ha, Int.toNat_natCast])) hb5)
          have HLt := Lib.hid hlt2
          clear hlt2 hal ha hb0r hsr hown hr hgB hR5 hgr hb5 HI
          go_wp2_with (at_builtin; refine wpList_append_run rfl _ _ 49 rfl v (.slice (some ⟨wr.heap.size, 0, none⟩) 1 1) (.slice (some ⟨g, 0, none⟩) (t + 1) kk) w5 rfl rfl (HR.out _) ?_)
          go_roundw
          case rel => exact ⟨t + 1, _, by have := HLt.out; omega, rfl, by go_num, HF.out.1, HF.out.2⟩
          case measure => simp [intOf]; have := HLt.out; omega
        · obtain rfl : t = m := by omega
          have lt2 : ¬ (t : Int) < (t : Int) := by omega
          clear hlt2 ht
          go_wp2
          go_ret
          exact ⟨v, rfl, HI.out.1.mono (base' := w.heap.size) (fun g h => by have := (HI.out.1.own g h).1; have := HWS.out; omega), by rw [HWS.out]; exact HB.out.2.trans (HI.out.2.mono hsB)⟩
end Go.Proofs.YtamejhhjfnfalaaDoor

/- A circuit in memory, of the law's own. -/
namespace Go.Proofs.YtamejhhjfnfalaaDoor
open Go.RowKit

/-- A circuit in a block of its own, and its lists. -/
structure Ci (b : Nat) (N : Int) (g1 n k1 g2 m k2 : Nat) (y : Nat → Nat → Int) (o : Nat → Int) (w : World) : Prop where
  c : circB w b N (some ⟨g1, 0, none⟩) n k1 (some ⟨g2, 0, none⟩) m k2
  g : AtV w (some ⟨g1, 0, none⟩) (n * 3) (gv y)
  o : AtV w (some ⟨g2, 0, none⟩) m (iv o)
section
variable {b : Nat} {N : Int} {g1 n k1 g2 m k2 : Nat} {y : Nat → Nat → Int} {o : Nat → Int} {w w' : World}
theorem Ci.below (h : Ci b N g1 n k1 g2 m k2 y o w) (hb : Below w.heap.size w w') : Ci b N g1 n k1 g2 m k2 y o w' := ⟨h.c.below hb h.c.lt, h.g.below hb, h.o.below hb⟩
theorem Ci.cells (h : Ci b N g1 n k1 g2 m k2 y o w) : w.cell? ⟨b, 0, none⟩ = some (.int .i64 N) ∧ w.cell? ⟨b, 1, none⟩ = some (.slice (some ⟨g1, 0, none⟩) n k1) ∧ w.cell? ⟨b, 2, none⟩ = some (.slice (some ⟨g2, 0, none⟩) m k2) :=
  ⟨h.c.cell 0 rfl, h.c.cell 1 rfl, h.c.cell 2 rfl⟩
/-- A list of the call's own, read where it lies. -/
theorem Row.atv {base e s g c : Nat} {F : Nat → Value} (h : Row w base e s (.slice (some ⟨g, 0, none⟩) n c) n F) : AtV w (some ⟨g, 0, none⟩) (n * s) F := fun i hi => ⟨_, rfl, by
  rw [Addr.add_mid, Nat.zero_add]; exact h.cellAt i hi⟩
theorem Row.le {base e s g n c : Nat} {F : Nat → Value} (h : Row w base e s (.slice (some ⟨g, 0, none⟩) n c) n F) : n ≤ c := by
  obtain ⟨A, c', e1, h1, _⟩ := h.read
  injection e1 with _ _ e3
  omega
/-- What Own answers, stored in a block. -/
theorem ci_store (X : Array Value) (hX : Blk w b 25 X) (hs : X.size = 3) (h1 : b ≠ g1) (h2 : b ≠ g2) (R1 : AtV w (some ⟨g1, 0, none⟩) (n * 3) (gv y)) (R2 : AtV w (some ⟨g2, 0, none⟩) m (iv o)) :
    Ci b N g1 n k1 g2 m k2 y o (((w.setCell ⟨b, 0, none⟩ (.int .i64 N)).setCell ⟨b, 1, none⟩ (.slice (some ⟨g1, 0, none⟩) n k1)).setCell ⟨b, 2, none⟩ (.slice (some ⟨g2, 0, none⟩) m k2)) := by
  have hc := (((Chg.refl (fun q => q = b) w).set (p := ⟨b, 0, none⟩) (.inr rfl) (.int .i64 N)).set (p := ⟨b, 1, none⟩) (.inr rfl) (.slice (some ⟨g1, 0, none⟩) n k1)).set (p := ⟨b, 2, none⟩) (.inr rfl) (.slice (some ⟨g2, 0, none⟩) m k2)
  refine ⟨?_, R1.chg hc fun ad e _ h => ?_, R2.chg hc fun ad e _ h => ?_⟩
  · have := ((hX.set 0 (.int .i64 N)).set 1 (.slice (some ⟨g1, 0, none⟩) n k1)).set 2 (.slice (some ⟨g2, 0, none⟩) m k2)
    obtain ⟨x0, x1, x2, rfl⟩ : ∃ x0 x1 x2, X = #[x0, x1, x2] := by
      rcases X with ⟨l⟩
      match l, hs with
      | [x0, x1, x2], _ => exact ⟨x0, x1, x2, rfl⟩
    exact this
  · cases e; exact h1 h.symm
  · cases e; exact h2 h.symm
end
theorem Handle.belowS {w w' : World} (h : Handle w) (hb : Below w.heap.size w w') : Handle w' := h.below hb h.pos
theorem gate_cells {w : World} {g n : Nat} {y : Nat → Nat → Int} (h : AtV w (some ⟨g, 0, none⟩) (n * 3) (gv y)) (i : Nat) (hi : i < n) : w.cell? ⟨g, i * 3, none⟩ = some (.int .i64 (y i 0)) ∧ w.cell? ⟨g, i * 3 + 1, none⟩ = some (.int .i64 (y i 1)) ∧ w.cell? ⟨g, i * 3 + 2, none⟩ = some (.int .i64 (y i 2)) := by
  have key : ∀ j, j < 3 → w.cell? ⟨g, i * 3 + j, none⟩ = some (.int .i64 (y i j)) := fun j hj => by
    obtain ⟨ad, e, hc⟩ := h (i * 3 + j) (by omega)
    cases e
    rw [Addr.add_mid, Nat.zero_add] at hc
    unfold gv at hc
    rwa [show (i * 3 + j) / 3 = i by omega, show (i * 3 + j) % 3 = j by omega] at hc
  exact ⟨key 0 (by omega), key 1 (by omega), key 2 (by omega)⟩
theorem drew_below (w : World) : Below w.heap.size w w.drew := ⟨rfl, rfl, rfl, Nat.le_refl _, fun _ _ => rfl⟩
end Go.Proofs.YtamejhhjfnfalaaDoor
