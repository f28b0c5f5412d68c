/- An end's lists in memory: cut from the front, longer at the end; each payload a block of its own. -/
import Derived.Test.YteadpnododjeaaaDoorNB1
import Derived.ArgAppend
namespace Go.Proofs.YteadpnododjeaaaDoor
open Go.RowKit

/-- A payload: its block, how many bytes, which. -/
structure Fr where
  blk : Nat
  len : Nat
  cap : Nat
  dat : Nat → Nat
def frV (x : Fr) : Value := .slice (some ⟨x.blk, 0, none⟩) x.len x.cap
/-- The payload lies in memory. -/
structure Lies (w : World) (base : Nat) (x : Fr) : Prop where
  own : OR w base (frV x) x.len x.dat
  lt : ∀ i, x.dat i < 256
  small : x.len ≤ 140737488365328
/-- A list of payloads: some cells of a block, in a row. -/
def Way (w : World) (base : Nat) (v : Value) (L : List Fr) : Prop :=
  (v = .slice none 0 0 ∧ L = []) ∨ ∃ g o cap cur, v = .slice (some ⟨g, o, none⟩) L.length cap ∧ base ≤ g ∧ w.heap[g]? = some (.cells cur 23 (0, 0)) ∧ L.length ≤ cap ∧ o + cap ≤ cur.size ∧ ∀ i x, L[i]? = some x → cur[o + i]? = some (frV x)

section
variable {w w' w2 : World} {base : Nat} {v : Value} {L : List Fr}
theorem heap_ne {b c : Nat} {x y : Array Value} {t u : TypeId} {f g : Nat × Nat} (h : w.heap[b]? = some (.cells x t f)) (h' : w.heap[c]? = some (.cells y u g)) (hne : t ≠ u) : b ≠ c := by
  intro e
  subst e
  rw [h] at h'
  injection h' with h'
  injection h' with _ h2
  exact hne h2
theorem OR.heap {g n c : Nat} {f : Nat → Nat} (h : OR w base (.slice (some ⟨g, 0, none⟩) n c) n f) (hb : w'.heap[g]? = w.heap[g]?) : OR w' base (.slice (some ⟨g, 0, none⟩) n c) n f := by
  refine ⟨h.1, ?_⟩
  rcases h.2 with ⟨h0, _⟩ | ⟨g', cap, cur, e, h1, h2, rest⟩
  · cases h0
  · have hg : g = g' := by injection e with e1; injection e1 with e1; injection e1
    subst hg
    exact .inr ⟨g, cap, cur, e, h1, hb.trans h2, rest⟩
theorem OR.mono {base2 g n c : Nat} {f : Nat → Nat} (h : OR w base (.slice (some ⟨g, 0, none⟩) n c) n f) (hb : base2 ≤ g) : OR w base2 (.slice (some ⟨g, 0, none⟩) n c) n f := by
  refine ⟨h.1, ?_⟩
  rcases h.2 with ⟨h0, _⟩ | ⟨g', cap, cur, e, h1, h2, rest⟩
  · cases h0
  · have hg : g = g' := by injection e with e1; injection e1 with e1; injection e1
    subst hg
    exact .inr ⟨g, cap, cur, e, hb, h2, rest⟩
theorem Lies.heap {x : Fr} (h : Lies w base x) (hb : w'.heap[x.blk]? = w.heap[x.blk]?) : Lies w' base x := ⟨OR.heap h.own hb, h.lt, h.small⟩
theorem Lies.lo {x : Fr} (h : Lies w base x) : base ≤ x.blk := h.own.lt.1
theorem Lies.inside {x : Fr} (h : Lies w base x) : x.blk < w.heap.size := h.own.lt.2.1
theorem Lies.mono {base2 : Nat} {x : Fr} (h : Lies w base x) (hb : base2 ≤ x.blk) : Lies w base2 x := ⟨OR.mono h.own hb, h.lt, h.small⟩
theorem Lies.below {x : Fr} (h : Lies w base x) (hb : Below w.heap.size w w') : Lies w' base x := h.heap (hb.block _ h.inside)
theorem Lies.atB {x : Fr} (h : Lies w base x) : AtB w ⟨x.blk, 0, none⟩ x.len x.dat := h.own.lt.2.2.2.2
theorem Lies.atBO {x : Fr} (h : Lies w base x) : AtBO w (some ⟨x.blk, 0, none⟩) x.len x.dat := h.atB.opt
theorem Lies.block {x : Fr} (h : Lies w base x) : ∃ cur, w.heap[x.blk]? = some (.cells cur 5 (0, 0)) := by
  rcases h.own.2 with ⟨h0, _⟩ | ⟨g', cap, cur, e, h1, h2, rest⟩
  · cases h0
  · have hg : x.blk = g' := by injection e with e1; injection e1 with e1; injection e1
    exact ⟨cur, by rw [hg]; exact h2⟩
theorem Lies.ofOwn {g n : Nat} {f : Nat → Nat} (h : OwnB w g n 5 f) (hb : base ≤ g) (hf : ∀ i, f i < 256) (hn : n ≤ 140737488355328) : Lies w base ⟨g, n, n, f⟩ :=
  ⟨⟨by simp [bys_size], .inr ⟨g, n, bys n f, rfl, hb, h, Nat.le_refl _, by unfold maxLen; show n ≤ _; omega, by simp [bys_size], by rw [Nat.mul_one]; exact List.take_of_length_le (by simp [bys_size])⟩⟩, hf, by show n ≤ _; omega⟩
theorem Way.nil (w : World) (base : Nat) : Way w base (.slice none 0 0) [] := .inl ⟨rfl, rfl⟩
theorem Way.heap (h : Way w base v L) (hb : ∀ b, v.ownBlock = some b → w'.heap[b]? = w.heap[b]?) : Way w' base v L := by
  rcases h with h0 | ⟨g, o, cap, cur, rfl, h1, h2, rest⟩
  · exact .inl h0
  · exact .inr ⟨g, o, cap, cur, rfl, h1, (hb g rfl).trans h2, rest⟩
theorem Way.block (h : Way w base v L) {b : Nat} (hb : v.ownBlock = some b) : base ≤ b ∧ ∃ cur, w.heap[b]? = some (.cells cur 23 (0, 0)) := by
  rcases h with ⟨rfl, _⟩ | ⟨g, o, cap, cur, rfl, h1, h2, rest⟩
  · cases hb
  · have : g = b := by simpa [Value.ownBlock] using hb
    subst this
    exact ⟨h1, cur, h2⟩
theorem Way.slice (h : Way w base v L) : ∃ A c, v = .slice A L.length c ∧ L.length ≤ c := by
  rcases h with ⟨rfl, h0⟩ | ⟨g, o, cap, cur, rfl, h1, h2, h3, _⟩
  · exact ⟨none, 0, by rw [h0]; rfl, by rw [h0]; exact Nat.le_refl _⟩
  · exact ⟨some ⟨g, o, none⟩, cap, rfl, h3⟩
theorem Way.cell (h : Way w base v L) {i : Nat} {x : Fr} (hx : L[i]? = some x) : ∃ g o c, v = .slice (some ⟨g, o, none⟩) L.length c ∧ w.cell? ⟨g, o + i, none⟩ = some (frV x) ∧ w.frozen? ⟨g, o + i, none⟩ = false ∧ L.length ≤ c := by
  rcases h with ⟨_, h0⟩ | ⟨g, o, cap, cur, rfl, h1, h2, h3, h4, h5⟩
  · rw [h0] at hx; cases hx
  · refine ⟨g, o, cap, rfl, ?_, by simp [World.frozen?, h2], h3⟩
    rw [cell_of_row w g (o + i) cur 23 (0, 0) h2]
    exact h5 i x hx
theorem setCell_row {g j : Nat} {cur : Array Value} {t : TypeId} {f : Nat × Nat} (u : Value) (h : w.heap[g]? = some (.cells cur t f)) : (w.setCell ⟨g, j, none⟩ u).heap[g]? = some (.cells (cur.setIfInBounds j u) t f) := by
  simp [World.setCell, Array.getElem?_modify, h]
theorem Way.set (h : Way w base v L) {p : Addr} (hp : v.ownBlock ≠ some p.block) (u : Value) : Way (w.setCell p u) base v L :=
  h.heap fun b hb => Below.heap_setCell w p u b (fun e => hp (by rw [← e]; exact hb))
/-- The first one is let go of and cut off. -/
theorem Way.cut {x : Fr} (h : Way w base v (x :: L)) : ∃ g o c, v = .slice (some ⟨g, o, none⟩) (L.length + 1) c ∧ L.length + 1 ≤ c ∧ w.cell? ⟨g, o, none⟩ = some (frV x) ∧ w.frozen? ⟨g, o, none⟩ = false ∧
    Way (w.setCell ⟨g, o, none⟩ (.slice none 0 0)) base (.slice (tl (some ⟨g, o, none⟩) c 1) L.length (c - 1)) L ∧ Value.ownBlock (.slice (tl (some ⟨g, o, none⟩) c 1) L.length (c - 1)) = some g := by
  have hc := h.cell (i := 0) (x := x) rfl
  rcases h with ⟨_, h0⟩ | ⟨g, o, cap, cur, rfl, h1, h2, h3, h4, h5⟩
  · cases h0
  · obtain ⟨g', o', c', e, hc1, hc2, hc3⟩ := hc
    injection e with e1 e2 e3
    injection e1 with e1
    injection e1 with e1 e4
    subst e1 e3 e4
    rw [List.length_cons] at h3
    refine ⟨g, o, cap, rfl, h3, hc1, hc2, ?_, ?_⟩
    · by_cases hcp : cap = 1
      · subst hcp
        have hL : L = [] := List.eq_nil_of_length_eq_zero (by omega)
        subst hL
        refine .inr ⟨g, o, 0, _, ?_, h1, setCell_row _ h2, Nat.le_refl _, by simp; omega, fun i x hx => by cases hx⟩
        simp [tl]
      · refine .inr ⟨g, o + 1, cap - 1, _, ?_, h1, setCell_row _ h2, by omega, by simp; omega, fun i y hy => ?_⟩
        · simp [tl, hcp, Addr.add]
        · rw [Array.getElem?_setIfInBounds_ne (by omega)]
          have := h5 (i + 1) y (by simpa using hy)
          rwa [show o + (i + 1) = o + 1 + i by omega] at this
    · unfold tl
      split
      · rfl
      · simp [Value.ownBlock, Addr.add]
theorem Tryd.infoBs : (Tryd.prog.info? 23).map (fun i => (i.zero, i.size, i.bytes)) = some (some (.slice none 0 0), 1, 24) := by kernel_rfl
theorem way_new (w : World) (base : Nat) (hb : base ≤ w.heap.size) (L : List Fr) (k c : Nat) (hk : c = L.length + k) :
    Way (w.drew.alloc (.cells ((L.map frV).toArray ++ Builtin.zeroCells (Value.slice none 0 0).cells k) 23)) base (.slice (some ⟨w.heap.size, 0, none⟩) L.length c) L := by
  refine .inr ⟨w.heap.size, 0, c, _, rfl, hb, heap_alloc_new w.drew _, by omega, ?_, fun i x hx => ?_⟩
  · simp only [Array.size_append, List.size_toArray, List.length_map, size_zeroCells]
    simp [Value.cells]; omega
  · have hi : i < L.length := (List.getElem?_eq_some_iff.1 hx).1
    rw [Nat.zero_add, Array.getElem?_append_left (by simpa using hi)]
    simp [hx]
theorem append_fr (w : World) (base : Nat) (v : Value) (L : List Fr) (x : Fr) (g : Nat) (hW : Way w base v L) (hc : w.cell? ⟨g, 0, none⟩ = some (frV x)) (hn : L.length ≤ 1000000) (hbase : base ≤ w.heap.size) :
    ∃ v' w', (Builtin.append_ #[27, 27] 27 #[v, .slice (some ⟨g, 0, none⟩) 1 1]).run Tryd.prog w = .ok v' w' ∧ Way w' base v' (L ++ [x]) ∧ w.grownBy w' v.ownBlock ∧ (v'.ownBlock = v.ownBlock ∨ v'.ownBlock = some w.heap.size) := by
  obtain ⟨i0, hi, hz0, hz1, hz2⟩ := info_parts Tryd.infoBs
  have hnews : ∀ j u, [frV x][j]? = some u → w.cell? ((⟨g, 0, none⟩ : Addr).add j) = some u := fun j u hu => by
    rcases j with _ | j
    · have : frV x = u := by simpa using hu
      subst this
      rw [Addr.add_mid]; exact hc
    · simp at hu
  have h1 : ∀ u ∈ [frV x], u.oneCell' = true := fun u hu => by obtain rfl := List.mem_singleton.1 hu; rfl
  have hlen : ([frV x] : List Value).length = 1 * i0.size := by rw [hz1]; rfl
  rcases hW with ⟨rfl, rfl⟩ | ⟨b, o, cap, cur, rfl, hb1, hb2, hb3, hb4, hb5⟩
  · have hr := run_append_nil (P := Tryd.prog) w 27 27 23 i0 (.slice none 0 0) Tryd.underlying27 hi hz0 ⟨g, 0, none⟩ 1 1 [frV x] hlen hnews (by omega) (by omega) (by rw [hz2]; omega)
    refine ⟨_, _, hr, ?_, ⟨rfl, rfl, rfl, by simp, fun k hk _ => Below.heap_alloc w.drew _ k hk⟩, .inr rfl⟩
    exact way_new w base hbase [x] _ _ (by have := grownCap_ge w 1 0 23; show _ = 1 + _; omega)
  · by_cases hroom : L.length + 1 ≤ cap
    · have hr := run_append_room_cells (P := Tryd.prog) w 27 27 23 i0 Tryd.underlying27 hi b o L.length cap ⟨g, 0, none⟩ 1 1 [frV x] hlen hnews h1 hroom
        (fun j hj => by
          obtain rfl : j = 0 := by simpa using hj
          rw [hz1, cell_of_row w b _ cur 23 (0, 0) hb2]
          simp
          omega)
        (fun j hj => by simp [World.frozen?, hb2])
      rw [hz1, Nat.mul_one] at hr
      refine ⟨_, _, hr, .inr ⟨b, o, cap, cur.setIfInBounds (o + L.length) (frV x), by rw [List.length_append]; rfl, hb1, setCell_row _ hb2, by rw [List.length_append]; exact hroom, by simpa using hb4, fun i y hy => ?_⟩, ⟨rfl, rfl, rfl, by simp [World.setCells, World.setCell], fun k hk hne => Below.heap_setCell w _ _ k fun e => hne (by rw [e]; rfl)⟩, .inl rfl⟩
      by_cases hil : i < L.length
      · rw [List.getElem?_append_left hil] at hy
        rw [Array.getElem?_setIfInBounds_ne (by omega)]
        exact hb5 i y hy
      · have hl := (List.getElem?_eq_some_iff.1 hy).1
        rw [List.length_append, List.length_singleton] at hl
        obtain rfl : i = L.length := by omega
        rw [List.getElem?_append_right (Nat.le_refl _), Nat.sub_self] at hy
        have : x = y := by simpa using hy
        subst this
        rw [Array.getElem?_setIfInBounds_self_of_lt (by omega)]
    · have holds : ∀ j u, (L.map frV)[j]? = some u → w.cell? ((⟨b, o, none⟩ : Addr).add j) = some u := fun j u hu => by
        rw [List.getElem?_map] at hu
        obtain ⟨y, hy, rfl⟩ := Option.map_eq_some_iff.1 hu
        rw [Addr.add_mid, cell_of_row w b _ cur 23 (0, 0) hb2]
        exact hb5 j y hy
      have hr := run_append_grow (P := Tryd.prog) w 27 27 23 i0 (.slice none 0 0) Tryd.underlying27 hi hz0 ⟨b, o, none⟩ L.length cap (L.map frV) (by rw [hz1]; simp) holds ⟨g, 0, none⟩ 1 1 [frV x] hlen hnews (by omega) (by omega) (growslice_fits (by omega) (by rw [hz2]; omega))
      refine ⟨_, _, hr, ?_, ⟨rfl, rfl, rfl, by simp, fun k hk _ => Below.heap_alloc w.drew _ k hk⟩, .inr rfl⟩
      have := way_new w base hbase (L ++ [x]) (grownCap w (L.length + 1) cap 23 - (L.length + 1)) (grownCap w (L.length + 1) cap 23) (by have := grownCap_ge w (L.length + 1) cap 23; rw [List.length_append]; show _ = L.length + 1 + _; omega)
      rw [List.length_append, List.map_append] at this
      have e : (L.map frV).toArray ++ [frV x].toArray = (L.map frV ++ List.map frV [x]).toArray := by simp
      rw [e]
      exact this
end
theorem elemW : Tryd.prog.elem 27 = 23 := by kernel_rfl
theorem sizeW (w : World) : (sizeOf (Tryd.prog.elem 27)).run Tryd.prog w = .ok 1 w := by
  obtain ⟨i0, hi, _, hz1, _⟩ := info_parts Tryd.infoBs
  rw [elemW]
  simp [sizeOf, typeInfo, hi, hz1]
theorem undW : Tryd.prog.underlying 27 = some (.slice (Tryd.prog.elem 27)) := by rw [elemW]; exact Tryd.underlying27
theorem run_tailW (w : World) (A : Option Addr) (n c l : Nat) (hl : l ≤ n) :
    (Instr.slice 27 (.slice A n c) (some (.int .i64 (l : Int))) none none).run Tryd.prog w = .ok (.slice (tl A c l) (n - l) (c - l)) w := by
  have hr := run_slice_l w 27 A n c undW .i64 (l : Int) (by omega) (by omega)
  rw [sizeW] at hr
  rw [hr]
  simp only [Result.andThen, sliced, Int.toNat_natCast, Nat.mul_one]
  rfl
end Go.Proofs.YteadpnododjeaaaDoor
