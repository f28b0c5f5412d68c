/- LinkSure: what holds between two ends and the frames under way. No function of the program is run here. -/
import Derived.Test.YteadpnododjeaaaDoorLX4a
namespace Go.Proofs.YteadpnododjeaaaDoor
open Go.RowKit

/-- A payload's text. -/
def Fr.txt (x : Fr) : ByteArray := strB x.len x.dat
/-- A frame under way to an end. S: what the other end's Send took; m: the number of its first one that waits; q: the number that it wants next. -/
def Okf (S : List ByteArray) (m q : Nat) (fr : ByteArray) : Prop :=
  ∃ n F, fr = strB n F ∧ (∀ i, F i < 256) ∧ 9 ≤ n ∧ n ≤ 2000000 ∧ (Link.isF F n → (F 0 = 0 → Link.num F ≤ m ∧ S[Link.num F]? = some (strB (n - 9) fun j => F (j + 5))) ∧ (F 0 = 1 → Link.num F < q))
theorem Okf.mono {S : List ByteArray} {m q m' q' : Nat} {fr : ByteArray} (T : List ByteArray) (h : Okf S m q fr) (hm : m ≤ m') (hq : q ≤ q') : Okf (S ++ T) m' q' fr := by
  obtain ⟨n, F, h1, h2, h3, h4, h5⟩ := h
  refine ⟨n, F, h1, h2, h3, h4, fun hF => ⟨fun h0 => ?_, fun h0 => Nat.lt_of_lt_of_le ((h5 hF).2 h0) hq⟩⟩
  obtain ⟨ha, hb⟩ := (h5 hF).1 h0
  exact ⟨Nat.le_trans ha hm, by rw [List.getElem?_append_left (List.getElem?_eq_some_iff.1 hb).1]; exact hb⟩
theorem Okf.mono0 {S : List ByteArray} {m q m' q' : Nat} {fr : ByteArray} (h : Okf S m q fr) (hm : m ≤ m') (hq : q ≤ q') : Okf S m' q' fr := by
  have := h.mono [] hm hq
  rwa [List.append_nil] at this
/-- Two lists for each end: frames to it (0), what its Send took (1), what was taken at it (2). -/
abbrev Lists := Nat → Nat → List ByteArray
structure Inv (s : Nat → En) (L : Lists) : Prop where
  q : ∀ k, k < 2 → (s k).Q.map Fr.txt = (L 1 k).drop (s k).num
  nw : ∀ k, k < 2 → (s k).num ≤ (s (1 - k)).want ∧ (s (1 - k)).want ≤ (s k).num + 1 ∧ (s (1 - k)).want ≤ (L 1 k).length
  c : ∀ k, k < 2 → L 2 k ++ (s k).C.map Fr.txt = (L 1 (1 - k)).take (s k).want
  f : ∀ k, k < 2 → ∀ fr ∈ L 0 k, Okf (L 1 (1 - k)) (s (1 - k)).num (s (1 - k)).want fr
  o : ∀ k, k < 2 → ∀ x ∈ (s k).O, x < (s k).want
def put1 {α : Type} (s : Nat → α) (k : Nat) (t : α) : Nat → α := fun i => if i = k then t else s i
def put2 {α : Type} (L : Nat → Nat → α) (j k : Nat) (l : α) : Nat → Nat → α := fun a b => if a = j ∧ b = k then l else L a b
section
variable {s : Nat → En} {L : Lists} {k : Nat}
theorem put1_same {α : Type} (s : Nat → α) (k : Nat) (t : α) : put1 s k t k = t := by unfold put1; rw [if_pos rfl]
theorem put1_other {α : Type} (s : Nat → α) (k i : Nat) (t : α) (h : i ≠ k) : put1 s k t i = s i := by unfold put1; rw [if_neg h]
theorem put2_same {α : Type} (L : Nat → Nat → α) (j k : Nat) (l : α) : put2 L j k l j k = l := by unfold put2; rw [if_pos ⟨rfl, rfl⟩]
theorem put2_other {α : Type} (L : Nat → Nat → α) (j k a b : Nat) (l : α) (h : ¬ (a = j ∧ b = k)) : put2 L j k l a b = L a b := by unfold put2; rw [if_neg h]
theorem put1_f {α β : Type} (s : Nat → α) (k : Nat) (t : α) (g : α → β) (h : g t = g (s k)) (i : Nat) : g (put1 s k t i) = g (s i) := by
  by_cases e : i = k
  · subst e; rw [put1_same, h]
  · rw [put1_other _ _ _ _ e]
/-- An end has changed in what no other thing speaks of. -/
theorem Inv.plain (h : Inv s L) (t : En) (h1 : t.Q = (s k).Q) (h2 : t.num = (s k).num) (h3 : t.want = (s k).want) (h4 : t.C = (s k).C) (h5 : ∀ x ∈ t.O, x < t.want) : Inv (put1 s k t) L := by
  have hQ : ∀ i, (put1 s k t i).Q = (s i).Q := put1_f _ _ _ (fun e : En => e.Q) h1
  have hn : ∀ i, (put1 s k t i).num = (s i).num := put1_f _ _ _ (fun e : En => e.num) h2
  have hw : ∀ i, (put1 s k t i).want = (s i).want := put1_f _ _ _ (fun e : En => e.want) h3
  have hC : ∀ i, (put1 s k t i).C = (s i).C := put1_f _ _ _ (fun e : En => e.C) h4
  refine ⟨fun i hi => by rw [hQ, hn]; exact h.q i hi, fun i hi => by rw [hn, hw]; exact h.nw i hi, fun i hi => by rw [hC, hw]; exact h.c i hi, fun i hi => by rw [hn, hw]; exact h.f i hi, fun i hi x hx => ?_⟩
  by_cases e : i = k
  · subst e; rw [put1_same] at hx ⊢; exact h5 x hx
  · rw [put1_other _ _ _ _ e] at hx ⊢; exact h.o i hi x hx
/-- Send took a payload. -/
theorem Inv.send (h : Inv s L) (hk : k < 2) (v : Value) (x : Fr) : Inv (put1 s k { s k with qv := v, Q := (s k).Q ++ [x] }) (put2 L 1 k (L 1 k ++ [x.txt])) := by
  have hn : ∀ i, (put1 s k { s k with qv := v, Q := (s k).Q ++ [x] } i).num = (s i).num := put1_f _ _ _ (fun e : En => e.num) rfl
  have hw : ∀ i, (put1 s k { s k with qv := v, Q := (s k).Q ++ [x] } i).want = (s i).want := put1_f _ _ _ (fun e : En => e.want) rfl
  have hC : ∀ i, (put1 s k { s k with qv := v, Q := (s k).Q ++ [x] } i).C = (s i).C := put1_f _ _ _ (fun e : En => e.C) rfl
  have hO : ∀ i, (put1 s k { s k with qv := v, Q := (s k).Q ++ [x] } i).O = (s i).O := put1_f _ _ _ (fun e : En => e.O) rfl
  have hl : (s k).num ≤ (L 1 k).length := Nat.le_trans (h.nw k hk).1 (h.nw k hk).2.2
  have hS : ∀ i, ∃ T, put2 L 1 k (L 1 k ++ [x.txt]) 1 i = L 1 i ++ T := fun i => by
    by_cases e : i = k
    · subst e; exact ⟨[x.txt], put2_same _ _ _ _⟩
    · exact ⟨[], by rw [put2_other _ _ _ _ _ _ (fun h => e h.2), List.append_nil]⟩
  refine ⟨fun i hi => ?_, fun i hi => ?_, fun i hi => ?_, fun i hi fr hfr => ?_, fun i hi y hy => ?_⟩
  · by_cases e : i = k
    · subst e
      rw [put1_same, put2_same, List.drop_append_of_le_length hl]
      show List.map Fr.txt ((s i).Q ++ [x]) = _
      rw [List.map_append, h.q i hi]; rfl
    · rw [put1_other _ _ _ _ e, put2_other _ _ _ _ _ _ (fun h => e h.2)]; exact h.q i hi
  · obtain ⟨T, hT⟩ := hS i
    rw [hn, hw, hT, List.length_append]
    have := h.nw i hi
    omega
  · obtain ⟨T, hT⟩ := hS (1 - i)
    rw [put2_other _ _ _ _ _ _ (fun h => by omega), hC, hw, hT]
    have := h.nw (1 - i) (by omega)
    rw [show 1 - (1 - i) = i by omega] at this
    rw [List.take_append_of_le_length this.2.2]
    exact h.c i hi
  · obtain ⟨T, hT⟩ := hS (1 - i)
    rw [put2_other _ _ _ _ _ _ (fun h => by omega)] at hfr
    rw [hn, hw, hT]
    exact (h.f i hi fr hfr).mono T (Nat.le_refl _) (Nat.le_refl _)
  · rw [hO] at hy
    rw [hw]
    exact h.o i hi y hy
/-- The frames under way to an end are others, all good. -/
theorem Inv.way (h : Inv s L) (l : List ByteArray) (hl : ∀ fr ∈ l, Okf (L 1 (1 - k)) (s (1 - k)).num (s (1 - k)).want fr) : Inv s (put2 L 0 k l) := by
  refine ⟨fun i hi => ?_, fun i hi => ?_, fun i hi => ?_, fun i hi fr hfr => ?_, h.o⟩
  · rw [put2_other _ _ _ _ _ _ (fun h => by omega)]; exact h.q i hi
  · rw [put2_other _ _ _ _ _ _ (fun h => by omega)]; exact h.nw i hi
  · rw [put2_other _ _ _ _ _ _ (fun h => by omega), put2_other _ _ _ _ _ _ (fun h => by omega)]; exact h.c i hi
  · rw [put2_other _ _ _ _ _ _ (fun h => by omega)]
    by_cases e : i = k
    · subst e; rw [put2_same] at hfr; exact hl fr hfr
    · rw [put2_other _ _ _ _ _ _ (fun h => e h.2)] at hfr; exact h.f i hi fr hfr
/-- A payload is taken. -/
theorem Inv.take (h : Inv s L) (hk : k < 2) (v : Value) (x : Fr) (C : List Fr) (hC : (s k).C = x :: C) : Inv (put1 s k { s k with cv := v, C := C }) (put2 L 2 k (L 2 k ++ [x.txt])) := by
  have hQ : ∀ i, (put1 s k { s k with cv := v, C := C } i).Q = (s i).Q := put1_f _ _ _ (fun e : En => e.Q) rfl
  have hn : ∀ i, (put1 s k { s k with cv := v, C := C } i).num = (s i).num := put1_f _ _ _ (fun e : En => e.num) rfl
  have hw : ∀ i, (put1 s k { s k with cv := v, C := C } i).want = (s i).want := put1_f _ _ _ (fun e : En => e.want) rfl
  have hO : ∀ i, (put1 s k { s k with cv := v, C := C } i).O = (s i).O := put1_f _ _ _ (fun e : En => e.O) rfl
  have hL : ∀ a i, a ≠ 2 → put2 L 2 k (L 2 k ++ [x.txt]) a i = L a i := fun a i ha => put2_other _ _ _ _ _ _ (fun h => ha h.1)
  refine ⟨fun i hi => by rw [hQ, hn, hL 1 i (by omega)]; exact h.q i hi, fun i hi => by rw [hn, hw, hL 1 i (by omega)]; exact h.nw i hi, fun i hi => ?_, fun i hi fr hfr => ?_, fun i hi y hy => by rw [hO] at hy; rw [hw]; exact h.o i hi y hy⟩
  · rw [hw, hL 1 _ (by omega)]
    by_cases e : i = k
    · subst e
      rw [put2_same, put1_same]
      have := h.c i hi
      rw [hC] at this
      rw [List.append_assoc]
      exact this
    · rw [put2_other _ _ _ _ _ _ (fun h => e h.2), put1_other _ _ _ _ e]; exact h.c i hi
  · rw [hL 0 i (by omega)] at hfr
    rw [hn, hw, hL 1 _ (by omega)]
    exact h.f i hi fr hfr
/-- Data that is wanted is heard. -/
theorem Inv.data (h : Inv s L) (hk : k < 2) (v u : Value) (x : Fr) (m : Nat) (hm : m = (s k).want) (hm2 : m ≤ (s (1 - k)).num) (hx : (L 1 (1 - k))[m]? = some x.txt) : Inv (put1 s k ((s k).data v u x m)) L := by
  have hQ : ∀ i, (put1 s k ((s k).data v u x m) i).Q = (s i).Q := put1_f _ _ _ (fun e : En => e.Q) rfl
  have hn : ∀ i, (put1 s k ((s k).data v u x m) i).num = (s i).num := put1_f _ _ _ (fun e : En => e.num) rfl
  have hwo : ∀ i, i ≠ k → (put1 s k ((s k).data v u x m) i).want = (s i).want := fun i e => by rw [put1_other _ _ _ _ e]
  have hwk : (put1 s k ((s k).data v u x m) k).want = (s k).want + 1 := by rw [put1_same]; rfl
  have hxl := (List.getElem?_eq_some_iff.1 hx).1
  have h1k := h.nw (1 - k) (by omega)
  rw [show 1 - (1 - k) = k by omega] at h1k
  refine ⟨fun i hi => by rw [hQ, hn]; exact h.q i hi, fun i hi => ?_, fun i hi => ?_, fun i hi fr hfr => ?_, fun i hi y hy => ?_⟩
  · rw [hn]
    by_cases e : 1 - i = k
    · rw [e, hwk]
      have hi2 : i = 1 - k := by omega
      subst hi2
      omega
    · rw [hwo _ e]; exact h.nw i hi
  · by_cases e : i = k
    · subst e
      rw [hwk, put1_same]
      show L 2 i ++ ((s i).C ++ [x]).map Fr.txt = _
      rw [List.map_append, ← List.append_assoc, h.c i hi, List.take_add_one, ← hm, hx]
      rfl
    · rw [put1_other _ _ _ _ e]; exact h.c i hi
  · rw [hn]
    by_cases e : 1 - i = k
    · rw [e, hwk]
      have := h.f i hi fr hfr
      rw [e] at this
      exact this.mono0 (Nat.le_refl _) (by omega)
    · rw [hwo _ e]; exact h.f i hi fr hfr
  · by_cases e : i = k
    · subst e
      rw [put1_same] at hy ⊢
      rcases List.mem_append.1 hy with hy | hy
      · exact Nat.lt_succ_of_lt (h.o i hi y hy)
      · obtain rfl := List.mem_singleton.1 hy
        show y < (s i).want + 1
        omega
    · rw [put1_other _ _ _ _ e] at hy ⊢; exact h.o i hi y hy
/-- An acknowledgement that is waited for is heard. -/
theorem Inv.acked (h : Inv s L) (hk : k < 2) (v : Value) (x : Fr) (Q : List Fr) (hQ : (s k).Q = x :: Q) (hq : (s k).num < (s (1 - k)).want) : Inv (put1 s k ((s k).acked v Q)) L := by
  have hw : ∀ i, (put1 s k ((s k).acked v Q) i).want = (s i).want := put1_f _ _ _ (fun e : En => e.want) rfl
  have hC : ∀ i, (put1 s k ((s k).acked v Q) i).C = (s i).C := put1_f _ _ _ (fun e : En => e.C) rfl
  have hO : ∀ i, (put1 s k ((s k).acked v Q) i).O = (s i).O := put1_f _ _ _ (fun e : En => e.O) rfl
  have hno : ∀ i, i ≠ k → (put1 s k ((s k).acked v Q) i).num = (s i).num := fun i e => by rw [put1_other _ _ _ _ e]
  have hnk : (put1 s k ((s k).acked v Q) k).num = (s k).num + 1 := by rw [put1_same]; rfl
  have h1 := h.nw k hk
  refine ⟨fun i hi => ?_, fun i hi => ?_, fun i hi => by rw [hC, hw]; exact h.c i hi, fun i hi fr hfr => ?_, fun i hi y hy => by rw [hO] at hy; rw [hw]; exact h.o i hi y hy⟩
  · by_cases e : i = k
    · subst e
      rw [hnk, put1_same]
      show Q.map Fr.txt = _
      have := h.q i hi
      rw [hQ] at this
      have h2 := congrArg List.tail this
      rw [List.tail_drop] at h2
      exact h2
    · rw [put1_other _ _ _ _ e]; exact h.q i hi
  · rw [hw]
    by_cases e : i = k
    · subst e; rw [hnk]; omega
    · rw [hno _ e]; exact h.nw i hi
  · rw [hw]
    by_cases e : 1 - i = k
    · rw [e, hnk]
      have := h.f i hi fr hfr
      rw [e] at this
      exact this.mono0 (by omega) (Nat.le_refl _)
    · rw [hno _ e]; exact h.f i hi fr hfr
/-- What was taken is a beginning of what was sent. -/
theorem Inv.sure (h : Inv s L) (hk : k < 2) : (L 2 k).length ≤ (L 1 (1 - k)).length ∧ ∀ (j : Nat) (t : ByteArray), (L 2 k)[j]? = some t → (L 1 (1 - k))[j]? = some t := by
  have hc := h.c k hk
  have hp : L 2 k <+: L 1 (1 - k) := List.IsPrefix.trans ⟨_, hc⟩ (List.take_prefix _ _)
  refine ⟨hp.length_le, fun j t hj => ?_⟩
  obtain ⟨T, hT⟩ := hp
  rw [← hT, List.getElem?_append_left (List.getElem?_eq_some_iff.1 hj).1]
  exact hj
/-- The data frame of the payload under way is good. -/
theorem Inv.sends (h : Inv s L) (hk : k < 2) (x : Fr) (Q : List Fr) (hQ : (s k).Q = x :: Q) (hx : ∀ i, x.dat i < 256) (hl : x.len ≤ 1048576) (hn : (s k).num < 4294967296) : Okf (L 1 k) (s k).num (s k).want (strB (x.len + 9) (Link.sealB 0 (s k).num x.len x.dat)) := by
  refine ⟨_, _, rfl, Link.sealB_lt 0 _ _ _ (by omega) hx, by omega, by omega, fun _ => ⟨fun _ => ?_, fun h => ?_⟩⟩
  · rw [Link.num_seal 0 _ _ _ hn]
    refine ⟨Nat.le_refl _, ?_⟩
    have := h.q k hk
    rw [hQ] at this
    have h2 := congrArg (fun l => l[0]?) this
    simp only [List.map_cons, List.getElem?_cons_zero, List.getElem?_drop, Nat.add_zero] at h2
    rw [← h2, show x.len + 9 - 9 = x.len by omega]
    exact congrArg some (strB_congr fun i hi => (Link.seal_pay 0 _ _ _ i hi).symm)
  · cases h
/-- The acknowledgement of an owed number is good. -/
theorem Inv.acks (h : Inv s L) (hk : k < 2) (y : Nat) (hy : y ∈ (s k).O) (hn : y < 4294967296) (S : List ByteArray) (m : Nat) : Okf S m (s k).want (strB 9 (Link.sealB 1 y 0 fun _ => 0)) := by
  refine ⟨_, _, rfl, Link.sealB_lt 1 _ _ _ (by omega) (fun _ => by omega), by omega, by omega, fun _ => ⟨fun h => ?_, fun _ => ?_⟩⟩
  · cases h
  · rw [Link.num_seal 1 _ _ _ hn]; exact h.o k hk y hy
end
end Go.Proofs.YteadpnododjeaaaDoor
