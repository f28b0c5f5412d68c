/- For LinkEnds: payloads that came in; the calls of a round. -/
import Derived.Test.YteadpnododjeaaaDoorLX4a
namespace Go.Proofs.YteadpnododjeaaaDoor
open Go.RowKit

/-- A list of byte lists that came in: how many bytes each has, and which. -/
def Pays (w : World) (A : Option Addr) (N : Nat) (l : Nat → Nat) (f : Nat → Nat → Nat) : Prop :=
  ∀ i, i < N → ∃ ad g c, A = some ad ∧ w.cell? (ad.add i) = some (.slice g (l i) c) ∧ AtBO w g (l i) (f i) ∧ (∀ j, f i j < 256) ∧ (g = none → l i = 0 ∧ c = 0) ∧ l i ≤ c
theorem Pays.below {w w' : World} {A : Option Addr} {N : Nat} {l : Nat → Nat} {f : Nat → Nat → Nat} (h : Pays w A N l f) (hb : Below w.heap.size w w') : Pays w' A N l f := fun i hi => by
  obtain ⟨ad, g, c, h1, h2, h3, h4⟩ := h i hi
  exact ⟨ad, g, c, h1, (hb.cell (World.block_lt_of_cell? _ _ h2)).trans h2, h3.below hb, h4⟩
/-- So many bytes of it are sent. -/
def ml (l : Nat → Nat) (i : Nat) : Nat := min (l i) 5000
theorem ml_le (l : Nat → Nat) (i : Nat) : ml l i ≤ 5000 := Nat.min_le_right _ _
/-- The payloads from k on wait, up to n. -/
def QL (Q : List Fr) (k n : Nat) (l : Nat → Nat) (f : Nat → Nat → Nat) : Prop := Q.length = n - k ∧ ∀ j, j < n - k → ∃ x, Q[j]? = some x ∧ x.len = ml l (k + j) ∧ x.dat = f (k + j)
/-- The payloads from d on came, up to k. -/
def CL (C : List Fr) (d k : Nat) (l : Nat → Nat) (f : Nat → Nat → Nat) : Prop := C.length = k - d ∧ ∀ j, j < k - d → ∃ x, C[j]? = some x ∧ strB x.len x.dat = strB (ml l (d + j)) (f (d + j))
section
variable {Q C L : List Fr} {k n d : Nat} {l : Nat → Nat} {f : Nat → Nat → Nat}
theorem QL.push (h : QL Q 0 n l f) (x : Fr) (h1 : x.len = ml l n) (h2 : x.dat = f n) : QL (Q ++ [x]) 0 (n + 1) l f := by
  refine ⟨by rw [List.length_append, h.1]; rfl, fun j hj => ?_⟩
  have hl : Q.length = n := by have := h.1; omega
  by_cases e : j < n
  · obtain ⟨y, hy, hy2⟩ := h.2 j (by omega)
    exact ⟨y, by rw [List.getElem?_append_left (by omega)]; exact hy, hy2⟩
  · obtain rfl : j = n := by omega
    exact ⟨x, by rw [List.getElem?_append_right (by omega), hl, Nat.sub_self]; rfl, by rw [Nat.zero_add]; exact h1, by rw [Nat.zero_add]; exact h2⟩
theorem QL.head (h : QL Q k n l f) (hk : k < n) : ∃ x L, Q = x :: L ∧ x.len = ml l k ∧ x.dat = f k ∧ QL L (k + 1) n l f := by
  obtain ⟨x, hx, h1, h2⟩ := h.2 0 (by omega)
  cases Q with
  | nil => cases hx
  | cons y L =>
    have : y = x := by simpa using hx
    subst this
    refine ⟨y, L, rfl, h1, h2, by have := h.1; simp at this; omega, fun j hj => ?_⟩
    obtain ⟨z, hz, h3, h4⟩ := h.2 (j + 1) (by omega)
    exact ⟨z, by simpa using hz, by rw [h3, show k + (j + 1) = k + 1 + j by omega], by rw [h4, show k + (j + 1) = k + 1 + j by omega]⟩
theorem QL.done (h : QL Q n n l f) : Q = [] := List.eq_nil_of_length_eq_zero (by have := h.1; omega)
theorem CL.push (h : CL C 0 k l f) (x : Fr) (h1 : strB x.len x.dat = strB (ml l k) (f k)) : CL (C ++ [x]) 0 (k + 1) l f := by
  refine ⟨by rw [List.length_append, h.1]; rfl, fun j hj => ?_⟩
  have hl : C.length = k := by have := h.1; omega
  by_cases e : j < k
  · obtain ⟨y, hy, hy2⟩ := h.2 j (by omega)
    exact ⟨y, by rw [List.getElem?_append_left (by omega)]; exact hy, hy2⟩
  · obtain rfl : j = k := by omega
    exact ⟨x, by rw [List.getElem?_append_right (by omega), hl, Nat.sub_self]; rfl, by rw [Nat.zero_add]; exact h1⟩
theorem CL.head (h : CL C d k l f) (hd : d < k) : ∃ x L, C = x :: L ∧ strB x.len x.dat = strB (ml l d) (f d) ∧ CL L (d + 1) k l f := by
  obtain ⟨x, hx, h1⟩ := h.2 0 (by omega)
  cases C with
  | nil => cases hx
  | cons y L =>
    have : y = x := by simpa using hx
    subst this
    refine ⟨y, L, rfl, h1, by have := h.1; simp at this; omega, fun j hj => ?_⟩
    obtain ⟨z, hz, h3⟩ := h.2 (j + 1) (by omega)
    exact ⟨z, by simpa using hz, by rw [h3, show d + (j + 1) = d + 1 + j by omega]⟩
end
section
variable {w0 w : World} {s t : En} {N : Nat}
/-- The other end hears the data that it wants. -/
theorem hear_want (D : Duo w0 w s t N) (hN : N ≤ 900000) {B k m : Nat} {g : Nat → Nat} {y : Fr} (hy : Lies w B y) (h1 : y.len = m + 9) (h2 : y.dat = Link.sealB 0 k m g) (hg : ∀ i, g i < 256) (hm : m ≤ 1048576) (hk : t.want = k) :
    Calls Tryd.prog 22 #[.pointer (some ⟨t.p, 0, none⟩), frV y] w fun e w' => ∃ t' x, e = .returned (.bool true) ∧ Goes w w0.heap.size t w' t' ∧ Fine t' (N + 1) ∧ t'.p = t.p ∧ t'.want = k + 1 ∧ t'.O = t.O ++ [k] ∧ t'.Q = t.Q ∧ t'.C = t.C ++ [x] ∧ strB x.len x.dat = strB m g := by
  have hw := D.fr.want
  have hF : Link.isF y.dat y.len := by rw [h1, h2]; exact Link.isF_seal 0 k m _ (by omega) (fun h => by omega) hg
  have hn : Link.num y.dat = k := by rw [h2]; exact Link.num_seal 0 k m _ (by omega)
  refine (hear_new w0.heap.size t _ y.len y.cap y.dat w D.r D.laid.1 hy.atBO hy.lt hy.own.lt.2.2.1 (by rw [h1]; omega) hF (by rw [h2]; rfl) (by rw [hn, hk]) (by have := D.fr.o; omega) (by have := D.fr.c; omega) (by omega) D.size).mono ?_
  rintro e w' ⟨rfl, v, u, gx, hG, _⟩
  refine ⟨_, ⟨gx, y.len - 9, y.len - 9, fun j => y.dat (j + 5)⟩, rfl, hG, ?_, rfl, by show t.want + 1 = _; rw [hk], by show t.O ++ [Link.num y.dat] = _; rw [hn], rfl, rfl, ?_⟩
  · rw [hn, ← hk]; exact D.fr.data _ _ _
  · show strB (y.len - 9) (fun j => y.dat (j + 5)) = _
    rw [h1, h2, show m + 9 - 9 = m by omega]
    exact strB_congr fun i hi => Link.seal_pay 0 k m g i hi
/-- The end hears the acknowledgement that it waits for. -/
theorem hear_done (D : Duo w0 w s t N) (hN : N ≤ 900000) {B k : Nat} {x y : Fr} {L : List Fr} (hy : Lies w B y) (h1 : y.len = 9) (h2 : y.dat = Link.sealB 1 k 0 fun _ => 0) (hk : s.num = k) (h0 : 0 < s.sent) (hQ : s.Q = x :: L) :
    Calls Tryd.prog 22 #[.pointer (some ⟨s.p, 0, none⟩), frV y] w fun e w' => ∃ v, e = .returned (.bool true) ∧ Goes w w0.heap.size s w' (s.acked v L) := by
  have hw := D.fl.num
  have hF : Link.isF y.dat y.len := by rw [h1, h2]; exact Link.isF_seal 1 k 0 _ (by omega) (fun _ => rfl) (fun _ => by omega)
  have hn : Link.num y.dat = k := by rw [h2]; exact Link.num_seal 1 k 0 _ (by omega)
  refine hear_ack w0.heap.size s _ y.len y.cap y.dat w D.l D.laid.1 hy.atBO hy.lt hy.own.lt.2.2.1 (by rw [h1]; omega) hF (by rw [h2]; rfl) _ fun w1 hb => ?_
  rw [hn, ← hk]
  refine (ack_yes w0.heap.size s x L w1 (D.l.below hb) hQ h0 (by omega)).mono ?_
  rintro e w' ⟨rfl, v, hG⟩
  exact ⟨rfl, v, rfl, (Goes.of_below D.l hb).trans hG⟩
end
end Go.Proofs.YteadpnododjeaaaDoor
