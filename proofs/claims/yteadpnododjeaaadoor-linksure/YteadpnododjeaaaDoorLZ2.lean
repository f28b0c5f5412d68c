/- LinkSure's own memory: the ends' array, three arrays of two lists of texts. -/
import Derived.Test.YteadpnododjeaaaDoorLZ1
namespace Go.Proofs.YteadpnododjeaaaDoor
open Go.RowKit

/-- A list of texts. -/
def Strs (w : World) (v : Value) (l : List ByteArray) : Prop := w.ownsRow 0 9 1 v l.length (l.map Value.string)
theorem infoS : ∃ i, Tryd.prog.info? 9 = some i ∧ i.zero = some (.string ⟨#[]⟩) ∧ i.size = 1 ∧ i.bytes = 16 := info_parts (by kernel_rfl : (Tryd.prog.info? 9).map (fun i => (i.zero, i.size, i.bytes)) = some (some (.string ⟨#[]⟩), 1, 16))
/-- Texts that are read from where a list begins. -/
def SrcS (w : World) (A : Option Addr) (l : List ByteArray) : Prop := ∀ (i : Nat) (t : ByteArray), l[i]? = some t → ∃ ad, A = some ad ∧ w.cell? (ad.add i) = some (.string t)
theorem SrcS.below {w w' : World} {A : Option Addr} {l : List ByteArray} (h : SrcS w A l) (hb : Below w.heap.size w w') : SrcS w' A l := fun i t ht => by
  obtain ⟨ad, e, hc⟩ := h i t ht
  exact ⟨ad, e, (hb.cell (World.block_lt_of_cell? _ _ hc)).trans hc⟩
section
variable {w w' : World} {v : Value} {l : List ByteArray}
theorem Strs.nil (w : World) : Strs w (.slice none 0 0) [] := World.ownsRow_nil _ _ _ _
theorem Strs.heap (h : Strs w v l) (hb : ∀ b, v.ownBlock = some b → w'.heap[b]? = w.heap[b]?) : Strs w' v l := by
  refine ⟨h.1, ?_⟩
  rcases h.2 with h0 | ⟨g, cap, cur, rfl, h1, h2, rest⟩
  · exact .inl h0
  · exact .inr ⟨g, cap, cur, rfl, h1, (hb g rfl).trans h2, rest⟩
theorem Strs.block (h : Strs w v l) {b : Nat} (hb : v.ownBlock = some b) : ∃ cur, w.heap[b]? = some (.cells cur 9 (0, 0)) := by
  rcases h.2 with ⟨rfl, _⟩ | ⟨g, cap, cur, rfl, h1, h2, rest⟩
  · cases hb
  · have : g = b := by simpa [Value.ownBlock] using hb
    subst this
    exact ⟨cur, h2⟩
theorem Strs.slice (h : Strs w v l) : ∃ A c, v = .slice A l.length c ∧ l.length ≤ c ∧ (A = none → l = [] ∧ c = 0) ∧ SrcS w A l := by
  rcases h.2 with ⟨rfl, h0⟩ | ⟨g, cap, cur, rfl, h1, h2, h3, h4, h5, h6⟩
  · have hl := List.length_eq_zero_iff.1 h0
    subst hl
    exact ⟨none, 0, rfl, by simp, fun _ => ⟨rfl, rfl⟩, fun i t ht => by simp at ht⟩
  · refine ⟨some ⟨g, 0, none⟩, cap, rfl, h3, fun h => (by cases h), fun i t ht => ⟨_, rfl, ?_⟩⟩
    have hi : i < l.length := (List.getElem?_eq_some_iff.1 ht).1
    rw [Addr.add_mid, Nat.zero_add, cell_of_row w g i cur 9 (0, 0) h2]
    have : (cur.toList.take (l.length * 1))[i]? = some (.string t) := by rw [h6, List.getElem?_map, ht]; rfl
    rw [Nat.mul_one, List.getElem?_take, if_pos hi] at this
    simpa using this
end
/-- append onto a list of texts. -/
theorem append_G (w : World) (base : Nat) (v : Value) (xs ys : List ByteArray) (A : Option Addr) (m c : Nat) (hown : w.ownsRow base 9 1 v xs.length (xs.map Value.string)) (hm : m = ys.length) (hS : SrcS w A ys) (h0 : A = none → m = 0 ∧ c = 0) (hn : xs.length + ys.length ≤ 1000000) (hbase : base ≤ w.heap.size) :
    ∃ v' w', (Builtin.append_ #[36, 36] 36 #[v, .slice A m c]).run Tryd.prog w = .ok v' w' ∧ w'.ownsRow base 9 1 v' (xs ++ ys).length ((xs ++ ys).map Value.string) ∧ w.grownBy w' v.ownBlock ∧ (v'.ownBlock = v.ownBlock ∨ v'.ownBlock = some w.heap.size) := by
  obtain ⟨i0, hi, hz0, hz1, hz2⟩ := infoS
  subst hm
  rcases A with _ | ad
  · obtain ⟨hl, rfl⟩ := h0 rfl
    have hys := List.length_eq_zero_iff.1 hl
    subst hys
    exact ⟨v, w, run_append_owned_none w base 36 36 9 i0 1 Tryd.underlying36 hi _ _ _ hown, by rw [List.append_nil]; exact hown, ⟨rfl, rfl, rfl, Nat.le_refl _, fun _ _ _ => rfl⟩, .inl rfl⟩
  · obtain ⟨v', w', hr, h2, h3, _, h5⟩ := run_append_own_at w base 36 36 9 i0 (.string ⟨#[]⟩) 1 16 Tryd.underlying36 hi hz0 hz1 hz2 rfl (by omega) v xs.length _ hown ad ys.length c (ys.map Value.string) (by simp)
      (fun j u hu => by
        rw [List.getElem?_map] at hu
        obtain ⟨t, ht, rfl⟩ := Option.map_eq_some_iff.1 hu
        obtain ⟨ad', e, hc⟩ := hS j t ht
        cases e
        exact hc)
      (fun u hu => by obtain ⟨t, _, rfl⟩ := List.mem_map.1 hu; rfl) (by unfold maxLen; omega) (by omega) hbase
    refine ⟨v', w', hr, ?_, h3, h5⟩
    rw [List.length_append, List.map_append]
    exact h2
/-- Where the law keeps what. -/
structure Mem (w : World) (ge ga p0 p1 : Nat) (v : Nat → Nat → Value) (L : Lists) : Prop where
  e : w.heap[ge]? = some (.cells #[.pointer (some ⟨p0, 0, none⟩), .pointer (some ⟨p1, 0, none⟩)] 64 (0, 0))
  a : ∀ j, j < 3 → w.heap[ga + j]? = some (.cells #[v j 0, v j 1] 65 (0, 0))
  r : ∀ j k, j < 3 → k < 2 → Strs w (v j k) (L j k)
  ap : ∀ j k j' k' b, j < 3 → k < 2 → j' < 3 → k' < 2 → ¬ (j = j' ∧ k = k') → (v j k).ownBlock = some b → (v j' k').ownBlock ≠ some b
/-- Only lists of texts and their arrays have changed. -/
def Only (w w' : World) : Prop := ∀ (b : Nat) (cur : Array Value) (t : TypeId) (f : Nat × Nat), w.heap[b]? = some (.cells cur t f) → t ≠ 65 → t ≠ 9 → w'.heap[b]? = w.heap[b]?
section
variable {w w' w0 : World} {ge ga p0 p1 base N : Nat} {v : Nat → Nat → Value} {L : Lists} {s t : En}
theorem Mem.heap (h : Mem w ge ga p0 p1 v L) (hb : ∀ (b : Nat) (cur : Array Value) (u : TypeId), w.heap[b]? = some (.cells cur u (0, 0)) → (u = 64 ∨ u = 65 ∨ u = 9) → w'.heap[b]? = w.heap[b]?) : Mem w' ge ga p0 p1 v L :=
  ⟨(hb _ _ _ h.e (.inl rfl)).trans h.e, fun j hj => (hb _ _ _ (h.a j hj) (.inr (.inl rfl))).trans (h.a j hj), fun j k hj hk => (h.r j k hj hk).heap fun b e => by
    obtain ⟨cur, hc⟩ := (h.r j k hj hk).block e
    exact hb _ _ _ hc (.inr (.inr rfl)), h.ap⟩
theorem Mem.below (h : Mem w ge ga p0 p1 v L) (hb : Below w.heap.size w w') : Mem w' ge ga p0 p1 v L := h.heap fun b _ _ hc _ => hb.block b (Array.getElem?_eq_some_iff.1 hc).1
theorem EndAt.foreign (h : EndAt w base s) {b : Nat} {cur : Array Value} {u : TypeId} (hc : w.heap[b]? = some (.cells cur u (0, 0))) (hu : u = 64 ∨ u = 65 ∨ u = 9 ∨ u = 41) : ¬ s.own b := fun ho => by
  have hne : u ≠ 76 ∧ u ≠ 23 ∧ u ≠ 22 := by rcases hu with rfl | rfl | rfl | rfl <;> decide
  rcases ho with rfl | ho | ho | ho
  · exact heap_ne hc h.blk hne.1 rfl
  · obtain ⟨_, c, h2⟩ := h.wq.block ho
    exact heap_ne hc h2 hne.2.1 rfl
  · obtain ⟨_, c, h2⟩ := h.wc.block ho
    exact heap_ne hc h2 hne.2.1 rfl
  · obtain ⟨_, c, h2⟩ := h.wo.block ho
    exact heap_ne hc h2 hne.2.2 rfl
theorem Mem.kept (h : Mem w ge ga p0 p1 v L) (hE : EndAt w base s) (hk : Kept s w w') : Mem w' ge ga p0 p1 v L := h.heap fun b cur u hc hu => hk.block b (Array.getElem?_eq_some_iff.1 hc).1 (hE.foreign hc (by
  rcases hu with h | h | h
  · exact .inl h
  · exact .inr (.inl h)
  · exact .inr (.inr (.inl h))))
theorem EndAt.only (h : EndAt w base s) (ho : Only w w') : EndAt w' base s := h.heap fun b hl hx => by
  rcases hx with (rfl | hx | hx | hx) | ⟨cur, hc⟩
  · exact ho _ _ _ _ h.blk (by decide) (by decide)
  · obtain ⟨_, cur, hc⟩ := h.wq.block hx
    exact ho _ _ _ _ hc (by decide) (by decide)
  · obtain ⟨_, cur, hc⟩ := h.wc.block hx
    exact ho _ _ _ _ hc (by decide) (by decide)
  · obtain ⟨_, cur, hc⟩ := h.wo.block hx
    exact ho _ _ _ _ hc (by decide) (by decide)
  · exact ho _ _ _ _ hc (by decide) (by decide)
theorem Duo.only (h : Duo w0 w s t N) (hb : Below w0.heap.size w0 w') (ho : Only w w') : Duo w0 w' s t N :=
  ⟨⟨h.l.only ho, h.r.only ho, h.two.ap⟩, hb, h.fl, h.fr, (show Laid w0 → Laid w' from fun hL => hL.below hb h.two2) (by
    have hb := h.blw
    refine ⟨fun k hk => ?_, ?_⟩
    · exact (hb.cell (p := ⟨0, k, none⟩) (by have := h.two2; show 0 < _; omega)).symm.trans (h.laid.1 k hk)
    · exact (hb.cell (p := ⟨1, 0, none⟩) (by have := h.two2; show 1 < _; omega)).symm.trans h.laid.2), h.two2⟩
theorem Mem.cell (h : Mem w ge ga p0 p1 v L) {j k : Nat} (hj : j < 3) (hk : k < 2) : w.cell? ⟨ga + j, k, none⟩ = some (v j k) := by
  rw [cell_of_row w (ga + j) k _ _ (0, 0) (h.a j hj)]
  rcases (show k = 0 ∨ k = 1 by omega) with rfl | rfl <;> rfl
theorem Mem.frozen (h : Mem w ge ga p0 p1 v L) {j : Nat} (hj : j < 3) (k : Nat) : w.frozen? ⟨ga + j, k, none⟩ = false := by have := h.a j hj; simp [World.frozen?, this]
/-- One list has become another (its block, and new ones, are all that changed); then its place in its array is set. -/
theorem Mem.list (h : Mem w ge ga p0 p1 v L) {j k : Nat} (hj : j < 3) (hk : k < 2) (hg : w.grownBy w' (v j k).ownBlock) (x : Value) (l : List ByteArray) (hS : Strs w' x l) (hx : ∀ b, x.ownBlock = some b → (v j k).ownBlock = some b ∨ w.heap.size ≤ b) :
    Mem (w'.setCell ⟨ga + j, k, none⟩ x) ge ga p0 p1 (put2 v j k x) (put2 L j k l) ∧ Only w (w'.setCell ⟨ga + j, k, none⟩ x) := by
  have hlt : ∀ {b : Nat} {cur : Array Value} {u : TypeId} {f : Nat × Nat}, w.heap[b]? = some (.cells cur u f) → b < w.heap.size := fun hc => (Array.getElem?_eq_some_iff.1 hc).1
  have hold : ∀ (b : Nat) (cur : Array Value) (u : TypeId) (f : Nat × Nat), w.heap[b]? = some (.cells cur u f) → u ≠ 9 → w'.heap[b]? = w.heap[b]? := fun b cur u f hc hu => hg.block b (hlt hc) fun e => by
    obtain ⟨c2, h2⟩ := (h.r j k hj hk).block e.symm
    exact heap_ne hc h2 hu rfl
  have hset : ∀ b, b ≠ ga + j → (w'.setCell ⟨ga + j, k, none⟩ x).heap[b]? = w'.heap[b]? := fun b hb => Below.heap_setCell w' _ x b hb
  have hne : ∀ (b : Nat) (cur : Array Value) (u : TypeId) (f : Nat × Nat), w.heap[b]? = some (.cells cur u f) → u ≠ 65 → b ≠ ga + j := fun b cur u f hc hu => heap_ne hc (h.a j hj) hu
  refine ⟨⟨?_, fun i hi => ?_, fun i q hi hq => ?_, fun i q i' q' b hi hq hi' hq' hd h1 h2 => ?_⟩, fun b cur u f hc h1 h2 => (hset b (hne b cur u f hc h1)).trans (hold b cur u f hc h2)⟩
  · exact ((hset _ (hne _ _ _ _ h.e (by decide))).trans (hold _ _ _ _ h.e (by decide))).trans h.e
  · have hw' := (hold _ _ _ _ (h.a i hi) (by decide)).trans (h.a i hi)
    by_cases e : i = j
    · subst e
      rw [setCell_row x hw']
      rcases (show k = 0 ∨ k = 1 by omega) with rfl | rfl
      · rw [put2_same, put2_other _ _ _ _ _ _ (by omega)]; rfl
      · rw [put2_same, put2_other _ _ _ _ _ _ (by omega)]; rfl
    · rw [hset _ (by omega), hw', put2_other _ _ _ _ _ _ (fun h => e h.1), put2_other _ _ _ _ _ _ (fun h => e h.1)]
  · by_cases e : i = j ∧ q = k
    · obtain ⟨rfl, rfl⟩ := e
      rw [put2_same, put2_same]
      refine hS.heap fun b hb => hset b fun e2 => ?_
      subst e2
      obtain ⟨cur, hc⟩ := hS.block hb
      have hw' := (hold _ _ _ _ (h.a i hi) (by decide)).trans (h.a i hi)
      exact heap_ne hc hw' (by decide) rfl
    · rw [put2_other _ _ _ _ _ _ e, put2_other _ _ _ _ _ _ e]
      refine (h.r i q hi hq).heap fun b hb => ?_
      obtain ⟨cur, hc⟩ := (h.r i q hi hq).block hb
      rw [hset b (hne b _ _ _ hc (by decide))]
      exact hg.block b (hlt hc) fun e2 => h.ap i q j k b hi hq hj hk e hb e2.symm
  · by_cases e : i = j ∧ q = k
    · obtain ⟨rfl, rfl⟩ := e
      rw [put2_same] at h1
      rw [put2_other _ _ _ _ _ _ (fun h => hd ⟨h.1.symm, h.2.symm⟩)] at h2
      rcases hx b h1 with h1 | h1
      · exact h.ap _ _ _ _ b hi hq hi' hq' hd h1 h2
      · obtain ⟨cur, hc⟩ := (h.r i' q' hi' hq').block h2
        have := hlt hc
        omega
    · rw [put2_other _ _ _ _ _ _ e] at h1
      by_cases e' : i' = j ∧ q' = k
      · obtain ⟨rfl, rfl⟩ := e'
        rw [put2_same] at h2
        rcases hx b h2 with h2 | h2
        · exact h.ap _ _ _ _ b hi hq hi' hq' hd h1 h2
        · obtain ⟨cur, hc⟩ := (h.r i q hi hq).block h1
          have := hlt hc
          omega
      · rw [put2_other _ _ _ _ _ _ e'] at h2
        exact h.ap _ _ _ _ b hi hq hi' hq' hd h1 h2
/-- A text more onto a list. -/
theorem Mem.push (h : Mem w ge ga p0 p1 v L) {j k : Nat} (hj : j < 3) (hk : k < 2) (x : ByteArray) (hl : (L j k).length ≤ 500000) (hbase : base ≤ w.heap.size) (hb0 : Below base w0 w) (hga : base ≤ ga) (hrow : ∀ b, (v j k).ownBlock = some b → base ≤ b) :
    ∃ v' w3, (Builtin.append_ #[36, 36] 36 #[v j k, .slice (some ⟨w.heap.size, 0, none⟩) 1 1]).run Tryd.prog (w.alloc (.cells #[.string x] 9)) = .ok v' w3 ∧
      Mem (w3.setCell ⟨ga + j, k, none⟩ v') ge ga p0 p1 (put2 v j k v') (put2 L j k (L j k ++ [x])) ∧ Only w (w3.setCell ⟨ga + j, k, none⟩ v') ∧ Below base w0 (w3.setCell ⟨ga + j, k, none⟩ v') ∧ (∃ A c, v' = .slice A ((L j k).length + 1) c) ∧ (∀ b, v'.ownBlock = some b → base ≤ b) ∧
      Below base w0 w3 ∧ Only w w3 ∧ w3.cell? ⟨ga + j, k, none⟩ = some (v j k) ∧ w3.frozen? ⟨ga + j, k, none⟩ = false := by
  have hb1 : Below w.heap.size w (w.alloc (.cells #[.string x] 9)) := (Below.refl _ _).alloc (Nat.le_refl _) _
  have h1 := h.below hb1
  obtain ⟨v', w3, hr, hS, hgr, hvb⟩ := append_G (w.alloc (.cells #[.string x] 9)) 0 (v j k) (L j k) [x] (some ⟨w.heap.size, 0, none⟩) 1 1 (h1.r j k hj hk) rfl (fun i t ht => by
    rcases i with _ | i
    · have : x = t := by simpa using ht
      subst this
      exact ⟨_, rfl, by simp [Addr.add]⟩
    · simp at ht) (fun h => by cases h) (by show _ + 1 ≤ _; omega) (Nat.zero_le _)
  have hg3 : w.grownBy w3 (v j k).ownBlock := ⟨hgr.os, hgr.tape, hgr.output, by have := hgr.size; simp at this; omega, fun b hb hne => (hgr.block b (by simp; omega) hne).trans (hb1.block b hb)⟩
  have hvn : ∀ b, v'.ownBlock = some b → (v j k).ownBlock = some b ∨ w.heap.size ≤ b := fun b e => by
    rcases hvb with hv | hv
    · exact .inl (hv ▸ e)
    · exact .inr (by have : (w.alloc (.cells #[.string x] 9)).heap.size = b := Option.some.inj (hv.symm.trans e); simp at this; omega)
  obtain ⟨hM, hO⟩ := h.list hj hk hg3 v' _ hS hvn
  have hb3 : Below base w0 w3 := hb0.trans ⟨hg3.os, hg3.tape, hg3.output, hg3.size, fun b hb => hg3.block b (by omega) fun e => by have := hrow b e.symm; omega⟩
  have hO3 : Only w w3 := fun b cur u f hc _ h2 => hg3.block b (Array.getElem?_eq_some_iff.1 hc).1 fun e => by
    obtain ⟨c2, h3⟩ := (h.r j k hj hk).block e.symm
    exact heap_ne hc h3 h2 rfl
  have hh : w3.heap[ga + j]? = w.heap[ga + j]? := hg3.block _ (Array.getElem?_eq_some_iff.1 (h.a j hj)).1 fun e => by
    obtain ⟨c2, h3⟩ := (h.r j k hj hk).block e.symm
    exact heap_ne (h.a j hj) h3 (by decide) rfl
  refine ⟨v', w3, hr, hM, hO, hb3.setCell (p := ⟨ga + j, k, none⟩) (by show base ≤ ga + j; omega) _, ?_, fun b e => (hvn b e).elim (hrow b) fun h => by omega, hb3, hO3, (World.cell?_of_block (a := ⟨ga + j, k, none⟩) hh).trans (h.cell hj hk), (World.frozen?_of_block (a := ⟨ga + j, k, none⟩) hh).trans (h.frozen hj k)⟩
  obtain ⟨A, c, hv, _⟩ := Strs.slice (l := L j k ++ [x]) hS
  exact ⟨A, c, by rw [hv, List.length_append]; rfl⟩
end
end Go.Proofs.YteadpnododjeaaaDoor
