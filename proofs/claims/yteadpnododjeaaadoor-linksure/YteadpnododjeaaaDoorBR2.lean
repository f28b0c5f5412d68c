/- Lists of bytes: those that are only read, those of the call's own that grow. -/
import Derived.Test.YteadpnododjeaaaDoorBB0
import Derived.Test.YteadpnododjeaaaDoorBB8
import Derived.Maps.AppendAt
import Derived.Deep.RegionLaw
import Derived.Deep.DeepAppendWide
namespace Go.Proofs.YteadpnododjeaaaDoor
open Go.RowKit

section
variable {P : Program} {w : World} {ops : Array Oper} {rest : List Oper} {o : Oper} {a : Act} {K : Act → World → Prop} {Q : Exit → Act → World → Prop}
/-- An append whose run is known. -/
theorem wp_append_run (s x : Operand) (t : TypeId) (ho : o.op = .call { callee := .builtin .append, args := #[s, x], argTypes := #[t, t] }) (v x' v' : Value) (w' : World) (hs : a.eval s = v) (hx : a.eval x = x')
    (hr : (Builtin.append_ #[t, t] o.type #[v, x']).run P w = .ok v' w') (h : K (a.put o.dst v') w') : o.wp P a w K Q := by
  unfold Oper.wp execOp
  simp only [ho, resolve, invoke, builtin, Sem.run_bind, Sem.run_pure, Result.andThen_ok, List.map_toArray, List.map_cons, List.map_nil, hs, hx, hr]
  exact h
theorem wpList_append_run (hgd : o.guard = none) (s x : Operand) (t : TypeId) (ho : o.op = .call { callee := .builtin .append, args := #[s, x], argTypes := #[t, t] }) (v x' v' : Value) (w' : World) (hs : a.eval s = v) (hx : a.eval x = x')
    (hr : (Builtin.append_ #[t, t] o.type #[v, x']).run P w = .ok v' w') (h : wpList P ops Q rest (a.put o.dst v') w') : wpList P ops Q (o :: rest) a w :=
  wpList_plain hgd fun _ hK => wp_append_run s x t ho v x' v' w' hs hx hr (hK _ _ h)
/-- The same, where a guard says yes. -/
theorem wpList_append_want (hw : Region.wanted o (yielded ops a.tmps) = true) (s x : Operand) (t : TypeId) (ho : o.op = .call { callee := .builtin .append, args := #[s, x], argTypes := #[t, t] }) (v x' v' : Value) (w' : World) (hs : a.eval s = v) (hx : a.eval x = x')
    (hr : (Builtin.append_ #[t, t] o.type #[v, x']).run P w = .ok v' w') (h : wpList P ops Q rest (a.put o.dst v') w') : wpList P ops Q (o :: rest) a w :=
  BigFrame.wpList_want hw fun _ hK => wp_append_run s x t ho v x' v' w' hs hx hr (hK _ _ h)
theorem step_append_eq {E : Prop} (hgd : o.guard = none) (s x : Operand) (t : TypeId) (ho : o.op = .call { callee := .builtin .append, args := #[s, x], argTypes := #[t, t] }) (v x' v' : Value) (w' : World) (hs : a.eval s = v) (hx : a.eval x = x')
    (hr : (Builtin.append_ #[t, t] o.type #[v, x']).run P w = .ok v' w') (h : K (a.put o.dst v') w') : if Region.wanted o (yielded ops a.tmps) = true then Oper.wp P o a w K Q else E := by
  have hw : Region.wanted o (yielded ops a.tmps) = true := by simp [Region.wanted, hgd]
  rw [if_pos hw]
  exact wp_append_run s x t ho v x' v' w' hs hx hr h
end
/-- Bytes that are read from an address on. -/
def AtB (w : World) (ad : Addr) (n : Nat) (f : Nat → Nat) : Prop := ∀ i, i < n → w.cell? (ad.add i) = some (.int .u8 (f i : Int))
theorem AtB.below {w w' : World} {ad : Addr} {n : Nat} {f : Nat → Nat} (h : AtB w ad n f) (hb : Below w.heap.size w w') : AtB w' ad n f := fun i hi =>
  (hb.cell (World.block_lt_of_cell? _ _ (h i hi))).trans (h i hi)
theorem AtB.congr {w : World} {ad : Addr} {n : Nat} {f g : Nat → Nat} (h : AtB w ad n f) (hf : ∀ i, i < n → f i = g i) : AtB w ad n g := fun i hi => by rw [← hf i hi]; exact h i hi
theorem AtB.own {w : World} {g N t : Nat} {f : Nat → Nat} (h : OwnB w g N t f) : AtB w ⟨g, 0, none⟩ N f := fun i hi => by
  rw [Addr.add_mid, Nat.zero_add]; exact h.cell i hi
theorem AtB.sub {w : World} {g o : Nat} {n : Nat} {f : Nat → Nat} (h : AtB w ⟨g, o, none⟩ n f) (d m : Nat) (hm : d + m ≤ n) : AtB w ⟨g, o + d, none⟩ m (fun i => f (d + i)) := fun i hi => by
  have := h (d + i) (by omega)
  rw [Addr.add_mid] at this ⊢
  rw [show o + d + i = o + (d + i) by omega]; exact this
theorem AtB.cell {w : World} {g o n : Nat} {f : Nat → Nat} (h : AtB w ⟨g, o, none⟩ n f) (i : Nat) (hi : i < n) : w.cell? ⟨g, o + i, none⟩ = some (.int .u8 (f i : Int)) := by
  have := h i hi
  rwa [Addr.add_mid] at this
theorem infoB : ∃ i, Tryd.prog.info? 5 = some i ∧ i.zero = some (.int .u8 0) ∧ i.size = 1 ∧ i.bytes = 1 := info_parts Tryd.infoU8
theorem newsB {w : World} {n : Nat} {f : Nat → Nat} {ad : Addr} (h : AtB w ad n f) : ∀ j u, (bys n f).toList[j]? = some u → w.cell? (ad.add j) = some u := by
  intro j u hu
  rw [Array.getElem?_toList] at hu
  rcases Nat.lt_or_ge j n with hj | hj
  · rw [bys_get _ _ _ hj] at hu; rw [← hu]; exact h j hj
  · rw [bys_none _ _ _ hj] at hu; cases hu
theorem bys_oneL (n : Nat) (f : Nat → Nat) : ∀ u ∈ (bys n f).toList, u.oneCell' = true := by
  intro v hv
  have := Array.all_eq_true_iff_forall_mem.1 (bys_one n f) v (by simpa using hv)
  exact this
/-- First n of f, then g. -/
def thenB (n : Nat) (f g : Nat → Nat) (i : Nat) : Nat := if i < n then f i else g (i - n)
theorem bys_app (n m : Nat) (f g : Nat → Nat) : (bys n f).toList ++ (bys m g).toList = (bys (n + m) (thenB n f g)).toList := by
  have hl : (bys n f).toList.length = n := by simp [bys_size]
  apply List.ext_getElem?
  intro i
  rcases Nat.lt_or_ge i n with hi | hi
  · rw [List.getElem?_append_left (by omega), Array.getElem?_toList, Array.getElem?_toList, bys_get _ _ _ hi, bys_get _ _ _ (by omega)]
    unfold thenB; rw [if_pos hi]
  · rw [List.getElem?_append_right (by omega), hl, Array.getElem?_toList, Array.getElem?_toList]
    rcases Nat.lt_or_ge i (n + m) with h | h
    · rw [bys_get _ _ _ (by omega), bys_get _ _ _ h]; unfold thenB; rw [if_neg (by omega)]
    · rw [bys_none _ _ _ (by omega), bys_none _ _ _ h]
/-- A list of the call's own: n bytes f, in blocks from base on. -/
def OR (w : World) (base : Nat) (v : Value) (n : Nat) (f : Nat → Nat) : Prop := w.ownsRow base 5 1 v n (bys n f).toList
theorem OR.congr {w : World} {base n : Nat} {v : Value} {f g : Nat → Nat} (h : OR w base v n f) (hf : ∀ i, i < n → f i = g i) : OR w base v n g := by
  unfold OR at h ⊢; rwa [bys_congr hf] at h
theorem OR.nil (w : World) (base : Nat) (f : Nat → Nat) : OR w base (.slice none 0 0) 0 f := World.ownsRow_nil _ _ _ _
theorem OR.alloc {w : World} {base n : Nat} {v : Value} {f : Nat → Nat} (h : OR w base v n f) (o : Obj) : OR (w.alloc o) base v n f := World.ownsRow.alloc h o
theorem OR.drew {w : World} {base n : Nat} {v : Value} {f : Nat → Nat} (h : OR w base v n f) : OR w.drew base v n f := World.ownsRow.drew h
/-- append onto a list of the call's own. -/
theorem append_ownB (w : World) (base : Nat) (v : Value) (n m : Nat) (f g : Nat → Nat) (ad : Addr) (c : Nat) (hown : OR w base v n f) (hA : AtB w ad m g) (hn : n + m ≤ 150000000000000) (hbase : base ≤ w.heap.size) :
    ∃ v' w', (Builtin.append_ #[23, 23] 23 #[v, .slice (some ad) m c]).run Tryd.prog w = .ok v' w' ∧ OR w' base v' (n + m) (thenB n f g) ∧ Below base w w' := by
  obtain ⟨i0, hi, hz0, hz1, hz2⟩ := infoB
  obtain ⟨v', w', hr, h2, h3, _⟩ := run_append_own_wide w base 23 23 5 i0 (.int .u8 0) 1 1 Tryd.underlying23 hi hz0 hz1 hz2 rfl (by omega) v n _ hown ad m c (bys m g).toList (by simp [bys_size]) (newsB hA) (bys_oneL m g) (by unfold maxLen; omega) (by omega) hbase
  refine ⟨v', w', hr, by unfold OR; rw [← bys_app]; exact h2, (Below.refl base w).grown h3 hbase fun k hk => ?_⟩
  rcases hown.2 with ⟨rfl, _⟩ | ⟨g', cap, cur, rfl, hb, _⟩
  · simp [Value.ownBlock] at hk
  · simp [Value.ownBlock] at hk; omega
/-- A list of the call's own, read. -/
theorem OR.read {w : World} {base n : Nat} {v : Value} {f : Nat → Nat} (h : OR w base v n f) (hn : 0 < n) : ∃ g c, v = .slice (some ⟨g, 0, none⟩) n c ∧ base ≤ g ∧ n ≤ c ∧ c ≤ maxLen ∧ AtB w ⟨g, 0, none⟩ n f := by
  rcases h.2 with ⟨rfl, hx⟩ | ⟨g, cap, cur, rfl, hb, hg, hnc, hm, hsz, ht⟩
  · omega
  · refine ⟨g, cap, rfl, hb, hnc, hm, fun i hi => ?_⟩
    rw [Addr.add_mid, Nat.zero_add, cell_of_row w g i cur 5 (0, 0) hg]
    have : (cur.toList.take (n * 1))[i]? = some (.int .u8 (f i : Int)) := by rw [ht, Array.getElem?_toList, bys_get _ _ _ hi]
    rw [Nat.mul_one, List.getElem?_take, if_pos hi] at this
    simpa using this
/-- All blocks but g are as they were. -/
structure Keep (g : Nat) (w w' : World) : Prop where
  os : w'.os = w.os
  tape : w'.tape = w.tape
  output : w'.output = w.output
  size : w.heap.size ≤ w'.heap.size
  block : ∀ k, k < w.heap.size → k ≠ g → w'.heap[k]? = w.heap[k]?
theorem Keep.below {g B : Nat} {w0 w w' : World} (h : Keep g w w') (hb : Below B w0 w) (hB : B ≤ g) (hs : B ≤ w.heap.size) : Below B w0 w' :=
  hb.trans ⟨h.os, h.tape, h.output, h.size, fun k hk => h.block k (by omega) (by omega)⟩
theorem Keep.atB {g : Nat} {w w' : World} (h : Keep g w w') {ad : Addr} {n : Nat} {f : Nat → Nat} (ha : AtB w ad n f) (hg : ad.block ≠ g) : AtB w' ad n f := fun i hi => by
  have hc := ha i hi
  have hb : (ad.add i).block = ad.block := by unfold Addr.add; split <;> rfl
  rw [World.cell?_of_block (w := w) (h.block _ (World.block_lt_of_cell? _ _ hc) (by rw [hb]; exact hg))]
  exact hc
set_option maxRecDepth 100000 in
/-- append onto a list that lies in block g: what lay there may still be read. -/
theorem append_at (w : World) (base g c n m : Nat) (f h : Nat → Nat) (ad : Addr) (d : Nat) (hown : OR w base (.slice (some ⟨g, 0, none⟩) n c) n f) (hA : AtB w ad m h) (hn : n + m ≤ 140737488355328) (hbase : base ≤ w.heap.size) :
    ∃ g' c' w', (Builtin.append_ #[23, 23] 23 #[.slice (some ⟨g, 0, none⟩) n c, .slice (some ad) m d]).run Tryd.prog w = .ok (.slice (some ⟨g', 0, none⟩) (n + m) c') w' ∧ OR w' base (.slice (some ⟨g', 0, none⟩) (n + m) c') (n + m) (thenB n f h) ∧ Keep g w w' ∧ (g' = g ∨ g' = w.heap.size) ∧
      ∀ j, j < n → w'.cell? ⟨g, j, none⟩ = some (.int .u8 (f j : Int)) := by
  obtain ⟨i0, hi, hz0, hz1, hz2⟩ := infoB
  have hl : (bys m h).toList.length = m * i0.size := by rw [hz1]; simp [bys_size]
  obtain ⟨v', w', hr, h2, h3, h4, h5⟩ := run_append_own_at w base 23 23 5 i0 (.int .u8 0) 1 1 Tryd.underlying23 hi hz0 hz1 hz2 rfl (by omega) _ n _ hown ad m d (bys m h).toList (by simp [bys_size]) (newsB hA) (bys_oneL m h) (by unfold maxLen; omega) (by omega) hbase
  have hown' : w.ownsRow base 5 i0.size (.slice (some ⟨g, 0, none⟩) n c) n (bys n f).toList := by rw [hz1]; exact hown
  rcases h2.2 with ⟨hv, _⟩ | ⟨g', c', cur, hv, _, hg', _, _, _, ht⟩
  · have := (h4.1 hv).1; cases this
  · subst hv
    have hO : OR w' base (.slice (some ⟨g', 0, none⟩) (n + m) c') (n + m) (thenB n f h) := by unfold OR; rw [← bys_app]; exact h2
    have hgg : g' = g ∨ g' = w.heap.size := by
      rcases h5 with e | e
      · left; simpa [Value.ownBlock] using e
      · right; simpa [Value.ownBlock] using e
    refine ⟨g', c', w', hr, hO, ⟨h3.os, h3.tape, h3.output, h3.size, fun k hk hne => h3.block k hk (fun e => hne (by simpa [Value.ownBlock] using e))⟩, hgg, fun j hj => ?_⟩
    have hc : w.cell? ⟨g, j, none⟩ = some (.int .u8 (f j : Int)) := by
      have := hown.cells (g := g) rfl j (.int .u8 (f j : Int)) (by rw [Array.getElem?_toList, bys_get _ _ _ hj])
      rwa [Addr.add_mid, Nat.zero_add] at this
    rcases hgg with rfl | e
    · have : (cur.toList.take ((n + m) * 1))[j]? = some (.int .u8 (f j : Int)) := by
        rw [ht, List.getElem?_append_left (by simp [bys_size]; omega), Array.getElem?_toList, bys_get _ _ _ hj]
      rw [Nat.mul_one, List.getElem?_take, if_pos (by omega)] at this
      rw [cell_of_row w' g' j cur 5 (0, 0) hg']
      simpa using this
    · by_cases hroom : n + m ≤ c
      · rcases hown.2 with ⟨hx, _⟩ | ⟨g2, cap, cu, hv2, hb2, hg2, hnc2, hm2, hsz2, ht2⟩
        · cases hx
        · injection hv2 with e1 e2 e3
          injection e1 with e1
          injection e1 with e1
          subst e1 e3
          have hfit : n * i0.size + (bys m h).toList.length ≤ cu.size := by rw [hl, hsz2, hz1, ← Nat.add_mul]; exact Nat.mul_le_mul_right _ hroom
          have hr2 := run_append_room (P := Tryd.prog) w 23 23 5 i0 Tryd.underlying23 hi g n c cu hg2 ad m d (bys m h).toList hl (newsB hA) (bys_oneL m h) hroom hfit
          have := hr.symm.trans hr2
          injection this with t1 _
          injection t1 with t1 _ _
          injection t1 with t1
          injection t1 with t1
          have hlt : g < w.heap.size := (Array.getElem?_eq_some_iff.1 hg2).1
          omega
      · have hr2 := run_append_grow (P := Tryd.prog) w 23 23 5 i0 (.int .u8 0) Tryd.underlying23 hi hz0 ⟨g, 0, none⟩ n c (bys n f).toList hown'.1 (hown.cells (g := g) rfl) ad m d (bys m h).toList hl (newsB hA) (by omega) (by omega) (growslice_fits (by omega) (by rw [hz2]; omega))
        have := hr.symm.trans hr2
        injection this with _ t2
        subst t2
        have hlt := World.block_lt_of_cell? _ _ hc
        rw [World.cell?_alloc_lt _ _ _ (by simpa using hlt)]
        exact hc
/-- append onto nil. -/
theorem append_nil (w : World) (base m : Nat) (h : Nat → Nat) (ad : Addr) (d : Nat) (hA : AtB w ad m h) (hm : 0 < m) (hn : m ≤ 140737488355328) (hbase : base ≤ w.heap.size) :
    ∃ g' c' w', (Builtin.append_ #[23, 23] 23 #[.slice none 0 0, .slice (some ad) m d]).run Tryd.prog w = .ok (.slice (some ⟨g', 0, none⟩) m c') w' ∧ OR w' base (.slice (some ⟨g', 0, none⟩) m c') m h ∧ Below w.heap.size w w' ∧ g' = w.heap.size := by
  obtain ⟨i0, hi, hz0, hz1, hz2⟩ := infoB
  obtain ⟨v', w', hr, h2, h3, h4, h5⟩ := run_append_own_at w base 23 23 5 i0 (.int .u8 0) 1 1 Tryd.underlying23 hi hz0 hz1 hz2 rfl (by omega) _ 0 _ (OR.nil w base h) ad m d (bys m h).toList (by simp [bys_size]) (newsB hA) (bys_oneL m h) (by unfold maxLen; omega) (by omega) hbase
  rw [Nat.zero_add, bys_app, Nat.zero_add] at h2
  rcases h2.2 with ⟨hv, _⟩ | ⟨g', c', cur, hv, _⟩
  · have := (h4.1 hv).2; omega
  · subst hv
    refine ⟨g', c', w', hr, OR.congr h2 (fun i _ => by unfold thenB; rw [if_neg (by omega), Nat.sub_zero]), ⟨h3.os, h3.tape, h3.output, h3.size, fun k hk => h3.block k hk (fun e => by cases e)⟩, ?_⟩
    rcases h5 with e | e
    · cases e
    · simpa [Value.ownBlock] using e
theorem OR.lt {w : World} {base g n c : Nat} {f : Nat → Nat} (h : OR w base (.slice (some ⟨g, 0, none⟩) n c) n f) : base ≤ g ∧ g < w.heap.size ∧ n ≤ c ∧ c ≤ maxLen ∧ AtB w ⟨g, 0, none⟩ n f := by
  rcases h.2 with ⟨hx, _⟩ | ⟨g', cap, cur, hv, hb, hg, hnc, hm, hsz, ht⟩
  · cases hx
  · injection hv with e1 e2 e3
    injection e1 with e1
    injection e1 with e1
    subst e1 e3
    refine ⟨hb, (Array.getElem?_eq_some_iff.1 hg).1, hnc, hm, fun i hi => ?_⟩
    rw [Addr.add_mid, Nat.zero_add, cell_of_row w _ i cur 5 (0, 0) hg]
    have : (cur.toList.take (n * 1))[i]? = some (.int .u8 (f i : Int)) := by rw [ht, Array.getElem?_toList, bys_get _ _ _ hi]
    rw [Nat.mul_one, List.getElem?_take, if_pos hi] at this
    simpa using this
theorem OR.set {w : World} {base n : Nat} {v : Value} {f : Nat → Nat} (h : OR w base v n f) {p : Addr} (hp : p.block < base) (u : Value) : OR (w.setCell p u) base v n f := ownsRow_setCell_below h hp u
theorem OR.one (w : World) (x : Nat) : AtB (w.alloc (.cells #[.int .u8 (x : Int)] 5)) ⟨w.heap.size, 0, none⟩ 1 (fun _ => x) := fun i hi => by
  obtain rfl : i = 0 := by omega
  simp [Addr.add]
end Go.Proofs.YteadpnododjeaaaDoor
