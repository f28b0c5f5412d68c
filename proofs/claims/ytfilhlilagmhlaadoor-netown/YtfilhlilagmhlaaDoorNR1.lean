/- The document's net: lists of texts in memory; put, At. -/
import Derived.Test.YtfilhlilagmhlaaDoorNX2
namespace Go.Proofs.YtfilhlilagmhlaaDoor
open Go.RowKit

/-- A document's net in block g. -/
def RN (w : World) (g : Nat) (a b : Value) : Prop := w.heap[g]? = some (.cells #[a, b] 29 (0, 0))
section
variable {w w' : World} {g : Nat} {a b : Value}
theorem RN.lt (h : RN w g a b) : g < w.heap.size := (Array.getElem?_eq_some_iff.1 h).1
theorem RN.cell0 (h : RN w g a b) : w.cell? ⟨g, 0, none⟩ = some a := by rw [cell_of_row w g 0 _ _ (0, 0) h]; rfl
theorem RN.cell1 (h : RN w g a b) : w.cell? ⟨g, 1, none⟩ = some b := by rw [cell_of_row w g 1 _ _ (0, 0) h]; rfl
theorem RN.frozen (h : RN w g a b) (i : Nat) : w.frozen? ⟨g, i, none⟩ = false := by unfold RN at h; simp [World.frozen?, h]
theorem RN.below {B : Nat} (h : RN w g a b) (hb : Below B w w') (hg : g < B) : RN w' g a b := (hb.block g hg).trans h
theorem RN.heap (h : RN w g a b) (hb : w'.heap[g]? = w.heap[g]?) : RN w' g a b := hb.trans h
theorem RN.alloc (h : RN w g a b) (o : Obj) : RN (w.alloc o) g a b := (Below.heap_alloc w o g h.lt).trans h
theorem RN.new (w : World) (a b : Value) : RN (w.alloc (.cells #[a, b] 29)) w.heap.size a b := heap_alloc_new w _
theorem RN.set0 (h : RN w g a b) (x : Value) : RN (w.setCell ⟨g, 0, none⟩ x) g x b := by
  unfold RN at h ⊢
  simp [World.setCell, Array.getElem?_modify, h]
theorem RN.set1 (h : RN w g a b) (x : Value) : RN (w.setCell ⟨g, 1, none⟩ x) g a x := by
  unfold RN at h ⊢
  simp [World.setCell, Array.getElem?_modify, h]
theorem RN.far (h : RN w g a b) {p : Addr} (hp : g ≠ p.block) (u : Value) : RN (w.setCell p u) g a b := (Below.heap_setCell w p u g hp).trans h
theorem RN.set (h : RN w g a b) (x y : Value) : RN ((w.setCell ⟨g, 0, none⟩ x).setCell ⟨g, 1, none⟩ y) g x y := (h.set0 x).set1 y
end
abbrev rv (a b : Value) : Value := .agg #[a, b]
abbrev nilS : Value := .slice none 0 0
/-- A list of texts. -/
def Strs (w : World) (v : Value) (l : List ByteArray) : Prop := w.ownsRow 0 9 1 v l.length (l.map Value.string)
section
variable {w w' : World} {v : Value} {l : List ByteArray}
theorem Strs.nil (w : World) : Strs w nilS [] := World.ownsRow_nil _ _ _ _
theorem Strs.heap (h : Strs w v l) (hb : ∀ (b : Nat) (cur : Array Value), w.heap[b]? = some (.cells cur 9 (0, 0)) → w'.heap[b]? = w.heap[b]?) : Strs w' v l := by
  refine ⟨h.1, ?_⟩
  rcases h.2 with h0 | ⟨g, cap, cur, rfl, h1, h2, rest⟩
  · exact .inl h0
  · exact .inr ⟨g, cap, cur, rfl, h1, (hb g cur h2).trans h2, rest⟩
theorem Strs.below (h : Strs w v l) (hb : Below w.heap.size w w') : Strs w' v l := h.heap fun b _ hc => hb.block b (Array.getElem?_eq_some_iff.1 hc).1
theorem Strs.step {base : Nat} (h : Strs w v l) (hb : Step base w w') : Strs w' v l := h.heap fun b cur hc => hb.oth b cur _ _ hc (by decide) (by decide) (by decide)
theorem Strs.slice (h : Strs w v l) : ∃ A c, v = .slice A l.length c ∧ l.length ≤ c ∧ c ≤ maxLen ∧ (A = none → l = [] ∧ c = 0) ∧ ∀ i t, l[i]? = some t → ∃ ad, A = some ad ∧ w.cell? (ad.add i) = some (.string t) := by
  rcases h.2 with ⟨rfl, h0⟩ | ⟨g, cap, cur, rfl, h1, h2, h3, h4, h5, h6⟩
  · have hl := List.length_eq_zero_iff.1 h0
    subst hl
    exact ⟨none, 0, rfl, by simp, Nat.zero_le _, fun _ => ⟨rfl, rfl⟩, fun i t ht => by simp at ht⟩
  · refine ⟨some ⟨g, 0, none⟩, cap, rfl, h3, h4, fun h => (by cases h), fun i t ht => ⟨_, rfl, ?_⟩⟩
    have hi : i < l.length := (List.getElem?_eq_some_iff.1 ht).1
    rw [Addr.add_mid, Nat.zero_add, cell_of_row w g i cur 9 (0, 0) h2]
    have : (cur.toList.take (l.length * 1))[i]? = some (.string t) := by rw [h6, List.getElem?_map, ht]; rfl
    rw [Nat.mul_one, List.getElem?_take, if_pos hi] at this
    simpa using this
end
theorem infoS : ∃ i, Tryd.prog.info? 9 = some i ∧ i.zero = some (.string ⟨#[]⟩) ∧ i.size = 1 ∧ i.bytes = 16 := info_parts (by kernel_rfl : (Tryd.prog.info? 9).map (fun i => (i.zero, i.size, i.bytes)) = some (some (.string ⟨#[]⟩), 1, 16))
/-- Texts that are read from where a list begins. -/
def SrcS (w : World) (A : Option Addr) (l : List ByteArray) : Prop := ∀ i t, l[i]? = some t → ∃ ad, A = some ad ∧ w.cell? (ad.add i) = some (.string t)
theorem SrcS.below {w w' : World} {A : Option Addr} {l : List ByteArray} (h : SrcS w A l) (hb : Below w.heap.size w w') : SrcS w' A l := fun i t ht => by
  obtain ⟨ad, e, hc⟩ := h i t ht
  exact ⟨ad, e, (hb.cell (World.block_lt_of_cell? _ _ hc)).trans hc⟩
/-- append onto a list of texts of the call's own. -/
theorem append_S (w : World) (base : Nat) (v : Value) (xs ys : List ByteArray) (A : Option Addr) (m c : Nat) (hown : w.ownsRow base 9 1 v xs.length (xs.map Value.string)) (hm : m = ys.length) (hS : SrcS w A ys) (h0 : A = none → m = 0 ∧ c = 0) (hn : xs.length + ys.length ≤ 1000) (hbase : base ≤ w.heap.size) :
    ∃ v' w', (Builtin.append_ #[26, 26] 26 #[v, .slice A m c]).run Tryd.prog w = .ok v' w' ∧ w'.ownsRow base 9 1 v' (xs ++ ys).length ((xs ++ ys).map Value.string) ∧ Below base w w' := by
  obtain ⟨i0, hi, hz0, hz1, hz2⟩ := infoS
  subst hm
  rcases A with _ | ad
  · obtain ⟨hl, rfl⟩ := h0 rfl
    have hys := List.length_eq_zero_iff.1 hl
    subst hys
    exact ⟨v, w, run_append_owned_none w base 26 26 9 i0 1 Tryd.underlying26 hi _ _ _ hown, by rw [List.append_nil]; exact hown, Below.refl _ _⟩
  · obtain ⟨v', w', hr, h2, h3, _⟩ := run_append_own_at w base 26 26 9 i0 (.string ⟨#[]⟩) 1 16 Tryd.underlying26 hi hz0 hz1 hz2 rfl (by omega) v xs.length _ hown ad ys.length c (ys.map Value.string) (by simp)
      (fun j u hu => by
        rw [List.getElem?_map] at hu
        cases ht : ys[j]? with
        | none => rw [ht] at hu; cases hu
        | some t =>
          rw [ht] at hu
          obtain ⟨ad', e, hc⟩ := hS j t ht
          cases e
          have : Value.string t = u := by simpa using hu
          rw [← this]; exact hc)
      (fun u hu => by obtain ⟨t, _, rfl⟩ := List.mem_map.1 hu; rfl) (by unfold maxLen; omega) (by omega) hbase
    refine ⟨v', w', hr, by rw [List.map_append, List.length_append]; exact h2, (Below.refl base w).grown h3 hbase fun k hk => ?_⟩
    rcases hown.2 with ⟨rfl, _⟩ | ⟨g', cap, cur, rfl, hb, _⟩
    · simp [Value.ownBlock] at hk
    · simp [Value.ownBlock] at hk; omega
theorem Strs.of_own {w : World} {base : Nat} {v : Value} {l : List ByteArray} (h : w.ownsRow base 9 1 v l.length (l.map Value.string)) : Strs w v l := by
  refine ⟨h.1, ?_⟩
  rcases h.2 with h0 | ⟨g, cap, cur, rfl, h1, rest⟩
  · exact .inl h0
  · exact .inr ⟨g, cap, cur, rfl, Nat.zero_le _, rest⟩
theorem emptyS (w : World) : (w.alloc (.cells #[] 9)).ownsRow w.heap.size 9 1 (.slice (some ⟨w.heap.size, 0, none⟩) 0 0) ([] : List ByteArray).length (([] : List ByteArray).map Value.string) :=
  World.ownsRow_made w #[] 0 (Nat.le_refl _) (Nat.zero_le _) rfl
set_option maxHeartbeats 1000000 in
set_option maxRecDepth 100000 in
theorem put_0 (A0 A1 A : Option Addr) (n0 c0 n1 c1 n c : Nat) (w : World) :
    Calls Tryd.prog 31 #[rv (.slice A0 n0 c0) (.slice A1 n1 c1), .int .i64 0, .slice A n c] w fun e w' => e = .returned (rv (.slice A n c) (.slice A1 n1 c1)) ∧ Below w.heap.size w w' := by
  go_enter Tryd.func31, Tryd.ntmps31
  go_wp2
  have hr : RN ((w.alloc (.cells #[.slice A n c, .slice A1 n1 c1] 29)).alloc (.cells #[.slice A n c, .slice A1 n1 c1] 29)) (w.heap.size + 1) (.slice A n c) (.slice A1 n1 c1) := by
    have := RN.new (w.alloc (.cells #[.slice A n c, .slice A1 n1 c1] 29)) (.slice A n c) (.slice A1 n1 c1)
    simp only [World.size_alloc] at this
    exact this
  have s0 := hr.cell0
  have s1 := hr.cell1
  exact bodyPost_ret (v := rv (.slice A n c) (.slice A1 n1 c1)) (by simp [results, Tryd.results31, go_sem, s0, s1]) rfl
    ⟨rfl, ((Below.refl _ _).alloc (Nat.le_refl _) _).alloc (by simp) _⟩
set_option maxHeartbeats 1000000 in
set_option maxRecDepth 100000 in
theorem put_1 (A0 A1 A : Option Addr) (n0 c0 n1 c1 n c : Nat) (w : World) :
    Calls Tryd.prog 31 #[rv (.slice A0 n0 c0) (.slice A1 n1 c1), .int .i64 1, .slice A n c] w fun e w' => e = .returned (rv (.slice A0 n0 c0) (.slice A n c)) ∧ Below w.heap.size w w' := by
  go_enter Tryd.func31, Tryd.ntmps31
  go_wp2
  have hr : RN ((w.alloc (.cells #[.slice A0 n0 c0, .slice A n c] 29)).alloc (.cells #[.slice A0 n0 c0, .slice A n c] 29)) (w.heap.size + 1) (.slice A0 n0 c0) (.slice A n c) := by
    have := RN.new (w.alloc (.cells #[.slice A0 n0 c0, .slice A n c] 29)) (.slice A0 n0 c0) (.slice A n c)
    simp only [World.size_alloc] at this
    exact this
  have s0 := hr.cell0
  have s1 := hr.cell1
  exact bodyPost_ret (v := rv (.slice A0 n0 c0) (.slice A n c)) (by simp [results, Tryd.results31, go_sem, s0, s1]) rfl
    ⟨rfl, ((Below.refl _ _).alloc (Nat.le_refl _) _).alloc (by simp) _⟩
/-- A document's net as a value: two lists of texts. -/
structure Rf (w : World) (v : Nat → Value) (T : Txt) : Prop where
  strs : ∀ k, k < 2 → Strs w (v k) (T k)
abbrev rvf (v : Nat → Value) : Value := .agg #[v 0, v 1]
def vput (v : Nat → Value) (k : Nat) (x : Value) : Nat → Value := fun q => if q = k then x else v q
theorem Rf.below {w w' : World} {v : Nat → Value} {T : Txt} (h : Rf w v T) (hb : Below w.heap.size w w') : Rf w' v T := ⟨fun k hk => (h.strs k hk).below hb⟩
theorem Rf.step {base : Nat} {w w' : World} {v : Nat → Value} {T : Txt} (h : Rf w v T) (hb : Step base w w') : Rf w' v T := ⟨fun k hk => (h.strs k hk).step hb⟩
theorem Rf.put {w : World} {v : Nat → Value} {T : Txt} (h : Rf w v T) (k : Nat) (x : Value) (l : List ByteArray) (hx : Strs w x l) : Rf w (vput v k x) (upd T k l) := ⟨fun q hq => by
  by_cases e : q = k
  · subst e; simp only [vput, upd, if_true]; exact hx
  · simp only [vput, upd, e, if_false]; exact h.strs q hq⟩
theorem put_any {w : World} (v : Nat → Value) (T : Txt) (k : Nat) (x : Value) (h : Rf w v T) (hk : k < 2) (hx : ∃ A n c, x = .slice A n c) :
    Calls Tryd.prog 31 #[rvf v, .int .i64 (k : Int), x] w fun e w' => e = .returned (rvf (vput v k x)) ∧ Below w.heap.size w w' := by
  obtain ⟨A, n, c, rfl⟩ := hx
  obtain ⟨A0, c0, h0, _⟩ := (h.strs 0 (by omega)).slice
  obtain ⟨A1, c1, h1, _⟩ := (h.strs 1 (by omega)).slice
  unfold rvf
  rcases (show k = 0 ∨ k = 1 by omega) with rfl | rfl
  · have e0 : vput v 0 (.slice A n c) 0 = .slice A n c := rfl
    have e1 : vput v 0 (.slice A n c) 1 = v 1 := rfl
    rw [e0, e1, h0, h1]
    exact put_0 A0 A1 A _ _ _ _ n c w
  · have e0 : vput v 1 (.slice A n c) 0 = v 0 := rfl
    have e1 : vput v 1 (.slice A n c) 1 = .slice A n c := rfl
    rw [e0, e1, h0, h1]
    exact put_1 A0 A1 A _ _ _ _ n c w
/-- What the document's At answers. -/
def RAt (w : World) (t : ByteArray) (c : Int) (e : Ending) (w' : World) : Prop := e = .returned (.tuple #[.string t, .int .i64 c]) ∧ Below w.heap.size w w'
set_option maxHeartbeats 1000000 in
set_option maxRecDepth 100000 in
theorem rat_way {w : World} (v : Nat → Value) (T : Txt) (z i : Int) (h : Rf w v T) (hz : z < 0 ∨ 2 ≤ z) :
    Calls Tryd.prog 22 #[rvf v, .int .i64 z, .int .i64 i] w (RAt w ⟨#[]⟩ 1) := by
  obtain ⟨A0, c0, h0, _⟩ := (h.strs 0 (by omega)).slice
  obtain ⟨A1, c1, h1, _⟩ := (h.strs 1 (by omega)).slice
  unfold rvf
  rw [h0, h1]
  generalize (T 0).length = n0
  generalize (T 1).length = n1
  clear h h0 h1
  by_cases hz0 : z < 0
  · clear hz
    go_enter Tryd.func22, Tryd.ntmps22
    go_wp2
    go_ret2
    exact ⟨rfl, (Below.refl _ _).alloc (Nat.le_refl _) _⟩
  · have k1 : decide (z < 0) = false := decide_eq_false hz0
    have k2 : (1 : Int) < z := by omega
    clear hz hz0
    go_enter Tryd.func22, Tryd.ntmps22
    go_wp2
    go_ret2
    exact ⟨rfl, (Below.refl _ _).alloc (Nat.le_refl _) _⟩
set_option maxHeartbeats 1000000 in
set_option maxRecDepth 100000 in
theorem rat_none {w : World} (v : Nat → Value) (T : Txt) (k : Nat) (z : Int) (h : Rf w v T) (hk : k < 2) (hz : z < 0 ∨ ((T k).length : Int) ≤ z) :
    Calls Tryd.prog 22 #[rvf v, .int .i64 (k : Int), .int .i64 z] w (RAt w ⟨#[]⟩ 4) := by
  obtain ⟨A0, c0, h0, _⟩ := (h.strs 0 (by omega)).slice
  obtain ⟨A1, c1, h1, _⟩ := (h.strs 1 (by omega)).slice
  unfold rvf
  rw [h0, h1]
  clear h h0 h1
  by_cases hz0 : z < 0
  · clear hz
    rcases (show k = 0 ∨ k = 1 by omega) with rfl | rfl
    all_goals
      clear hk
      generalize (T 0).length = n0
      generalize (T 1).length = n1
      go_enter Tryd.func22, Tryd.ntmps22
      go_wp2
      go_ret2
      exact ⟨rfl, (Below.refl _ _).alloc (Nat.le_refl _) _⟩
  · have k1 : decide (z < 0) = false := decide_eq_false hz0
    have k2 : ((T k).length : Int) ≤ z := by omega
    clear hz hz0
    rcases (show k = 0 ∨ k = 1 by omega) with rfl | rfl
    all_goals
      clear hk
      generalize (T 0).length = n0 at *
      generalize (T 1).length = n1 at *
      go_enter Tryd.func22, Tryd.ntmps22
      go_wp2
      go_ret2
      exact ⟨rfl, (Below.refl _ _).alloc (Nat.le_refl _) _⟩
set_option maxHeartbeats 1000000 in
set_option maxRecDepth 100000 in
theorem rat_ok {w : World} (v : Nat → Value) (T : Txt) (k i : Nat) (t : ByteArray) (h : Rf w v T) (hk : k < 2) (ht : (T k)[i]? = some t) :
    Calls Tryd.prog 22 #[rvf v, .int .i64 (k : Int), .int .i64 (i : Int)] w (RAt w t 0) := by
  obtain ⟨A0, c0, h0, _, _, _, hs0⟩ := (h.strs 0 (by omega)).slice
  obtain ⟨A1, c1, h1, _, _, _, hs1⟩ := (h.strs 1 (by omega)).slice
  unfold rvf
  rw [h0, h1]
  have hi : i < (T k).length := (List.getElem?_eq_some_iff.1 ht).1
  have k1 : decide ((i : Int) < 0) = false := decide_eq_false (by omega)
  have k2 : decide (((T k).length : Int) ≤ (i : Int)) = false := decide_eq_false (by omega)
  have k3 : decide ((T k).length ≤ i) = false := decide_eq_false (by omega)
  have k4 : (i : Int) < ((T k).length : Int) := by omega
  rcases (show k = 0 ∨ k = 1 by omega) with rfl | rfl
  · obtain ⟨ad, rfl, hc⟩ := hs0 i t ht
    have hc2 : ∀ o : Obj, (w.alloc o).cell? (ad.add i) = some (.string t) := fun o => by
      rw [World.cell?_alloc_lt _ _ _ (World.block_lt_of_cell? _ _ hc)]; exact hc
    clear h h0 h1 hs0 hs1 hk ht hi hc
    generalize (T 0).length = n0 at *
    generalize (T 1).length = n1 at *
    go_enter Tryd.func22, Tryd.ntmps22
    go_wp2
    go_ret2
    exact ⟨rfl, (Below.refl _ _).alloc (Nat.le_refl _) _⟩
  · obtain ⟨ad, rfl, hc⟩ := hs1 i t ht
    have hc2 : ∀ o : Obj, (w.alloc o).cell? (ad.add i) = some (.string t) := fun o => by
      rw [World.cell?_alloc_lt _ _ _ (World.block_lt_of_cell? _ _ hc)]; exact hc
    clear h h0 h1 hs0 hs1 hk ht hi hc
    generalize (T 0).length = n0 at *
    generalize (T 1).length = n1 at *
    go_enter Tryd.func22, Tryd.ntmps22
    go_wp2
    go_ret2
    exact ⟨rfl, (Below.refl _ _).alloc (Nat.le_refl _) _⟩
end Go.Proofs.YtfilhlilagmhlaaDoor
