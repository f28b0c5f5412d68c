/- Two ends beside each other; what the calls need of an end; the calls by it. -/
import Derived.Test.YteadpnododjeaaaDoorLE7
namespace Go.Proofs.YteadpnododjeaaaDoor
open Go.RowKit

/-- The two listed variables. -/
def Laid (w : World) : Prop := Tab w ∧ Handle w
theorem Laid.pos {w : World} (h : Laid w) : 2 ≤ w.heap.size := h.2.pos
theorem Laid.below {w w' : World} {B : Nat} (h : Laid w) (hb : Below B w w') (hB : 2 ≤ B) : Laid w' := ⟨h.1.below hb (by omega), h.2.below hb (by omega)⟩
/-- Two ends, apart. -/
structure Two (w : World) (base : Nat) (s t : En) : Prop where
  l : EndAt w base s
  r : EndAt w base t
  ap : ∀ b, s.own b → ¬ t.own b
section
variable {w w' : World} {base : Nat} {s s' t t' : En}
theorem EndAt.other (h : EndAt w base s) (ht : EndAt w base t) (hap : ∀ b, s.own b → ¬ t.own b) (hk : Kept s w w') : EndAt w' base t := ht.heap fun b hl hx => by
  refine hk.block b hl fun ho => ?_
  rcases hx with hx | ⟨cur, hx⟩
  · exact hap b ho hx
  · exact h.bytes hx ho
theorem Two.swap (h : Two w base s t) : Two w base t s := ⟨h.r, h.l, fun b h1 h2 => h.ap b h2 h1⟩
theorem Two.left (h : Two w base s t) (g : Goes w base s w' s') : Two w' base s' t :=
  ⟨g.at', h.l.other h.r h.ap g.kept, fun b h1 h2 => (g.grows b h1).elim (fun h1 => h.ap b h1 h2) fun h1 => by have := (h.r.own_lt h2).1; omega⟩
theorem Two.right (h : Two w base s t) (g : Goes w base t w' t') : Two w' base s t' := (h.swap.left g).swap
theorem Two.below (h : Two w base s t) (hb : Below w.heap.size w w') : Two w' base s t := ⟨h.l.below hb, h.r.below hb, h.ap⟩
theorem Goes.below {w0 : World} (g : Goes w base s w' s') (h : EndAt w base s) (h0 : Below base w0 w) (hs : base ≤ w.heap.size) : Below base w0 w' := g.kept.below h h0 hs
end
theorem two_new (w : World) : Two ((w.alloc (.cells (En.new w.heap.size).row 76)).alloc (.cells (En.new (w.heap.size + 1)).row 76)) w.heap.size (En.new w.heap.size) (En.new (w.heap.size + 1)) := by
  have e : (w.alloc (.cells (En.new w.heap.size).row 76)).heap.size = w.heap.size + 1 := by simp
  have h2 := endAt_new (w.alloc (.cells (En.new w.heap.size).row 76)) w.heap.size (by rw [e]; omega)
  rw [e] at h2
  refine ⟨(endAt_new w w.heap.size (Nat.le_refl _)).below ((Below.refl _ _).alloc (Nat.le_refl _) _), h2, fun b h1 h3 => ?_⟩
  have h1 : b = w.heap.size := own_new h1
  have h3 : b = w.heap.size + 1 := by
    rcases h3 with h | h | h | h
    · exact h
    · cases h
    · cases h
    · cases h
  omega
/-- All that is counted is at most N. -/
structure Fine (s : En) (N : Nat) : Prop where
  er : s.er = .nilIface ∨ ∃ ps, s.er = chain ps 70
  o : s.O.length ≤ N
  c : s.C.length ≤ N
  ago : s.ago ≤ N
  sent : s.sent ≤ N
  num : s.num ≤ N
  want : s.want ≤ N
  owed : ∀ k ∈ s.O, k ≤ N
  pay : ∀ x ∈ s.Q, x.len ≤ 1048576
  way : 0 < s.sent → s.Q ≠ []
section
variable {s : En} {N M : Nat}
theorem Fine.new (p : Nat) : Fine (En.new p) 0 := ⟨.inl rfl, Nat.le_refl _, Nat.le_refl _, Nat.le_refl _, Nat.le_refl _, Nat.le_refl _, Nat.le_refl _, fun k hk => (by cases hk), fun x hx => (by cases hx), fun h => absurd h (Nat.lt_irrefl 0)⟩
theorem Fine.mono (h : Fine s N) (hM : N ≤ M) : Fine s M := ⟨h.er, by have := h.o; omega, by have := h.c; omega, by have := h.ago; omega, by have := h.sent; omega, by have := h.num; omega, by have := h.want; omega, fun k hk => by have := h.owed k hk; omega, h.pay, h.way⟩
theorem Fine.added (h : Fine s N) (v : Value) (x : Fr) (hx : x.len ≤ 1048576) : Fine { s with qv := v, Q := s.Q ++ [x] } N :=
  ⟨h.er, h.o, h.c, h.ago, h.sent, h.num, h.want, h.owed, fun y hy => by
    rcases List.mem_append.1 hy with hy | hy
    · exact h.pay y hy
    · obtain rfl := List.mem_singleton.1 hy; exact hx, fun _ => by simp⟩
theorem Fine.quiet (h : Fine s N) : Fine s.quietStep (N + 1) := ⟨h.er, Nat.zero_le _, by have := h.c; show s.C.length ≤ _; omega, by have := h.ago; show s.ago + 1 ≤ _; omega, by have := h.sent; show s.sent ≤ _; omega, by have := h.num; show s.num ≤ _; omega, by have := h.want; show s.want ≤ _; omega, fun k hk => (by cases hk), h.pay, h.way⟩
theorem Fine.sends (h : Fine s N) (hQ : s.Q ≠ []) : Fine s.sends (N + 1) := ⟨h.er, Nat.zero_le _, by have := h.c; show s.C.length ≤ _; omega, Nat.zero_le _, by have := h.sent; show s.sent + 1 ≤ _; omega, by have := h.num; show s.num ≤ _; omega, by have := h.want; show s.want ≤ _; omega, fun k hk => (by cases hk), h.pay, fun _ => hQ⟩
theorem Fine.dies (h : Fine s N) (er : Value) (ps : List (ByteArray × Int)) (he : er = chain ps 70) : Fine (s.dies er) (N + 1) := ⟨.inr ⟨ps, he⟩, Nat.zero_le _, by have := h.c; show s.C.length ≤ _; omega, by have := h.ago; show s.ago + 1 ≤ _; omega, by have := h.sent; show s.sent ≤ _; omega, by have := h.num; show s.num ≤ _; omega, by have := h.want; show s.want ≤ _; omega, fun k hk => (by cases hk), h.pay, h.way⟩
theorem Fine.data (h : Fine s N) (v u : Value) (x : Fr) : Fine (s.data v u x s.want) (N + 1) :=
  ⟨h.er, by show (s.O ++ _).length ≤ _; rw [List.length_append]; have := h.o; show _ + 1 ≤ _; omega, by show (s.C ++ _).length ≤ _; rw [List.length_append]; have := h.c; show _ + 1 ≤ _; omega, by have := h.ago; show s.ago ≤ _; omega, by have := h.sent; show s.sent ≤ _; omega, by have := h.num; show s.num ≤ _; omega, by have := h.want; show s.want + 1 ≤ _; omega, fun k hk => by
    rcases List.mem_append.1 hk with hk | hk
    · have := h.owed k hk; omega
    · obtain rfl := List.mem_singleton.1 hk; have := h.want; omega, h.pay, h.way⟩
theorem Fine.owes (h : Fine s N) (u : Value) (k : Nat) (hk : k < s.want) : Fine (s.owes u k) (N + 1) :=
  ⟨h.er, by show (s.O ++ _).length ≤ _; rw [List.length_append]; have := h.o; show _ + 1 ≤ _; omega, by have := h.c; show s.C.length ≤ _; omega, by have := h.ago; show s.ago ≤ _; omega, by have := h.sent; show s.sent ≤ _; omega, by have := h.num; show s.num ≤ _; omega, by have := h.want; show s.want ≤ _; omega, fun j hj => by
    rcases List.mem_append.1 hj with hj | hj
    · have := h.owed j hj; omega
    · obtain rfl := List.mem_singleton.1 hj; have := h.want; omega, h.pay, h.way⟩
theorem Fine.acked (h : Fine s N) (v : Value) (x : Fr) (L : List Fr) (hQ : s.Q = x :: L) : Fine (s.acked v L) (N + 1) :=
  ⟨h.er, by have := h.o; show s.O.length ≤ _; omega, by have := h.c; show s.C.length ≤ _; omega, by have := h.ago; show s.ago ≤ _; omega, Nat.zero_le _, by have := h.num; show s.num + 1 ≤ _; omega, by have := h.want; show s.want ≤ _; omega, fun j hj => by have := h.owed j hj; omega, fun y hy => h.pay y (by rw [hQ]; exact List.mem_cons_of_mem _ hy), fun h => absurd h (Nat.lt_irrefl 0)⟩
theorem Fine.took (h : Fine s N) (v : Value) (x : Fr) (L : List Fr) (hC : s.C = x :: L) : Fine { s with cv := v, C := L } N :=
  ⟨h.er, h.o, by have := h.c; rw [hC] at this; simp at this; show L.length ≤ N; omega, h.ago, h.sent, h.num, h.want, h.owed, h.pay, h.way⟩
end
/-- Step, by what is counted. -/
theorem step_fine {base : Nat} {s : En} {w : World} {N : Nat} (h : EndAt w base s) (hL : Laid w) (hF : Fine s N) (hN : N ≤ 1000000) (hb : 2 ≤ base) :
    Calls Tryd.prog 20 #[.pointer (some ⟨s.p, 0, none⟩)] w (Stepped w base s) :=
  step_any base s w h hL.1 hL.2 hF.er (by have := hF.o; omega) (by have := hF.ago; omega) (by have := hF.sent; omega) (by have := hF.num; omega) hb (fun k hk => by have := hF.owed k hk; omega) hF.pay
/-- Step of an end with nothing to send but acknowledgements. -/
theorem step_idle {base : Nat} {s : En} {w : World} {N : Nat} (h : EndAt w base s) (hL : Laid w) (hF : Fine s N) (hN : N ≤ 1000000) (hb : 2 ≤ base) (hi : s.idle) :
    Calls Tryd.prog 20 #[.pointer (some ⟨s.p, 0, none⟩)] w fun e w' => ∃ A c, e = .returned (.slice A s.O.length c) ∧ Goes w base s w' s.quietStep ∧ Outs w' w.heap.size (.slice A s.O.length c) (acks s.O) := by
  refine (step_fine h hL hF hN hb).mono ?_
  rintro e w' ⟨v, s', rfl, hG, ⟨_, rfl, hO⟩ | ⟨hn, _⟩ | ⟨hn, _⟩⟩
  · obtain ⟨A, c, hv⟩ := hO.slice
    rw [show (acks s.O).length = s.O.length by unfold acks; rw [List.length_map]] at hv
    subst hv
    exact ⟨A, c, rfl, hG, hO⟩
  · exact absurd hi hn
  · exact absurd hi hn
/-- Step of an end that sends. -/
theorem step_send {base : Nat} {s : En} {w : World} {N : Nat} {x : Fr} {L : List Fr} (h : EndAt w base s) (hL : Laid w) (hF : Fine s N) (hN : N ≤ 1000000) (hb : 2 ≤ base) (hi : ¬ s.idle) (h8 : s.sent < 8) (hQ : s.Q = x :: L) :
    Calls Tryd.prog 20 #[.pointer (some ⟨s.p, 0, none⟩)] w fun e w' => ∃ A c, e = .returned (.slice A (s.O.length + 1) c) ∧ Goes w base s w' s.sends ∧ Outs w' w.heap.size (.slice A (s.O.length + 1) c) (acks s.O ++ [dataOf s.num x]) := by
  refine (step_fine h hL hF hN hb).mono ?_
  rintro e w' ⟨v, s', rfl, hG, ⟨hn, _⟩ | ⟨_, hn, _⟩ | ⟨_, _, rfl, y, L2, hy, hO⟩⟩
  · exact absurd hn hi
  · omega
  · rw [hQ] at hy
    injection hy with hy _
    subst hy
    obtain ⟨A, c, hv⟩ := hO.slice
    rw [show (acks s.O ++ [dataOf s.num x]).length = s.O.length + 1 by unfold acks; simp] at hv
    subst hv
    exact ⟨A, c, rfl, hG, hO⟩
end Go.Proofs.YteadpnododjeaaaDoor
