/- LinkEnds' walk, its first part: the payloads are sent. -/
import Derived.Test.YteadpnododjeaaaDoorLY1
namespace Go.Proofs.YteadpnododjeaaaDoor
open Go.RowKit

/-- What is known ahead of a round: k payloads are done. -/
structure Rd (w0 w : World) (s t : En) (k n : Nat) (l : Nat → Nat) (f : Nat → Nat → Nat) (N : Nat) : Prop where
  duo : Duo w0 w s t N
  ps : s.p = w0.heap.size
  pt : t.p = w0.heap.size + 1
  q : QL s.Q k n l f
  num : s.num = k
  sent : s.sent = 0
  o : s.O = []
  er : s.er = .nilIface
  want : t.want = k
  to : t.O = []
  tq : t.Q = []
  c : CL t.C 0 k l f
theorem Rd.mono {w0 w : World} {s t : En} {k n : Nat} {l : Nat → Nat} {f : Nat → Nat → Nat} {N M : Nat} (h : Rd w0 w s t k n l f N) (hM : N ≤ M) : Rd w0 w s t k n l f M := ⟨h.duo.mono hM, h.ps, h.pt, h.q, h.num, h.sent, h.o, h.er, h.want, h.to, h.tq, h.c⟩
theorem Rd.below {w0 w w' : World} {s t : En} {k n : Nat} {l : Nat → Nat} {f : Nat → Nat → Nat} {N : Nat} (h : Rd w0 w s t k n l f N) (hb : Below w.heap.size w w') : Rd w0 w' s t k n l f N := ⟨h.duo.below hb, h.ps, h.pt, h.q, h.num, h.sent, h.o, h.er, h.want, h.to, h.tq, h.c⟩
/-- Within a round: the end s has sent the payload k. -/
structure Md (w0 w : World) (s t : En) (x : Fr) (L : List Fr) (k n : Nat) (l : Nat → Nat) (f : Nat → Nat → Nat) (N : Nat) : Prop where
  duo : Duo w0 w s t N
  ps : s.p = w0.heap.size
  pt : t.p = w0.heap.size + 1
  hq : s.Q = x :: L
  q : QL L (k + 1) n l f
  len : x.len = ml l k
  dat : x.dat = f k
  num : s.num = k
  sent : s.sent = 1
  o : s.O = []
  er : s.er = .nilIface
  tq : t.Q = []
/-- It waits to be heard. -/
def Md1 (w0 w : World) (s t : En) (x : Fr) (L : List Fr) (k n : Nat) (l : Nat → Nat) (f : Nat → Nat → Nat) (N : Nat) (v : Value) (B : Nat) : Prop :=
  Md w0 w s t x L k n l f N ∧ t.want = k ∧ t.O = [] ∧ CL t.C 0 k l f ∧ Outs w B v [dataOf k x] ∧ Free v t
/-- It was heard. -/
def Md2 (w0 w : World) (s t : En) (x : Fr) (L : List Fr) (k n : Nat) (l : Nat → Nat) (f : Nat → Nat → Nat) (N : Nat) : Prop :=
  Md w0 w s t x L k n l f N ∧ t.want = k + 1 ∧ t.O = [k] ∧ CL t.C 0 (k + 1) l f
/-- Its acknowledgement waits to be heard. -/
def Md3 (w0 w : World) (s t : En) (x : Fr) (L : List Fr) (k n : Nat) (l : Nat → Nat) (f : Nat → Nat → Nat) (N : Nat) (v : Value) (B : Nat) : Prop :=
  Md w0 w s t x L k n l f N ∧ t.want = k + 1 ∧ t.O = [] ∧ CL t.C 0 (k + 1) l f ∧ Outs w B v [(9, Link.sealB 1 k 0 fun _ => 0)] ∧ Free v s
section
variable {w0 w w' : World} {s t : En} {k n N B : Nat} {l : Nat → Nat} {f : Nat → Nat → Nat}
theorem Rd.step (h : Rd w0 w s t k n l f N) (hk : k < n) (hN : N ≤ 100000) : ∃ x L, Calls Tryd.prog 20 #[.pointer (some ⟨w0.heap.size, 0, none⟩)] w fun e w' => ∃ A c, e = .returned (.slice A 1 c) ∧ Md1 w0 w' s.sends t x L k n l f (N + 1) (.slice A 1 c) w.heap.size := by
  obtain ⟨x, L, hQ, hx1, hx2, hqL⟩ := h.q.head hk
  refine ⟨x, L, ?_⟩
  have := step_send h.duo.l h.duo.laid h.duo.fl (by omega) h.duo.two2 (not_idle hQ (.inl h.sent)) (by have := h.sent; omega) hQ
  rw [h.ps, h.o] at this
  refine this.mono ?_
  rintro e w' ⟨A, c, rfl, hG, hO⟩
  rw [h.num] at hO
  refine ⟨A, c, rfl, ⟨h.duo.left hG (h.duo.fl.sends (by rw [hQ]; simp)) (by omega), h.ps, h.pt, hQ, hqL, hx1, hx2, h.num, by show s.sent + 1 = 1; rw [h.sent], rfl, h.er, h.tq⟩, h.want, h.to, h.c, hO, Free.old hO h.duo.r⟩
theorem Rd.rest (h : Rd w0 w s t n n l f N) (hN : N ≤ 100000) : Calls Tryd.prog 20 #[.pointer (some ⟨w0.heap.size, 0, none⟩)] w fun e w' => ∃ A c s', e = .returned (.slice A 0 c) ∧ Rd w0 w' s' t n n l f (N + 1) := by
  have := step_idle h.duo.l h.duo.laid h.duo.fl (by omega) h.duo.two2 (.inl h.q.done)
  rw [h.ps, h.o] at this
  refine this.mono ?_
  rintro e w' ⟨A, c, rfl, hG, hO⟩
  exact ⟨A, c, _, rfl, h.duo.left hG h.duo.fl.quiet (by omega), h.ps, h.pt, h.q, h.num, h.sent, rfl, h.er, h.want, h.to, h.tq, h.c⟩
theorem Rd.rest2 (h : Rd w0 w s t k n l f N) (hN : N ≤ 100000) : Calls Tryd.prog 20 #[.pointer (some ⟨w0.heap.size + 1, 0, none⟩)] w fun e w' => ∃ A c t', e = .returned (.slice A 0 c) ∧ Rd w0 w' s t' k n l f (N + 1) := by
  have := step_idle h.duo.r h.duo.laid h.duo.fr (by omega) h.duo.two2 (.inl h.tq)
  rw [h.pt, h.to] at this
  refine this.mono ?_
  rintro e w' ⟨A, c, rfl, hG, hO⟩
  exact ⟨A, c, _, rfl, h.duo.right hG h.duo.fr.quiet (by omega), h.ps, h.pt, h.q, h.num, h.sent, h.o, h.er, h.want, rfl, h.tq, h.c⟩
variable {x : Fr} {L : List Fr} {v : Value}
theorem Md1.hear (h : Md1 w0 w s t x L k n l f N v B) (hf : ∀ j, f k j < 256) (hN : N ≤ 100000) : ∃ y g o c, v = .slice (some ⟨g, o, none⟩) 1 c ∧ w.cell? ⟨g, o, none⟩ = some (frV y) ∧
    Calls Tryd.prog 22 #[.pointer (some ⟨w0.heap.size + 1, 0, none⟩), frV y] w fun e w' => ∃ t', e = .returned (.bool true) ∧ Md2 w0 w' s t' x L k n l f (N + 1) := by
  obtain ⟨hM, hw, hO, hC, hOu, hfr⟩ := h
  obtain ⟨y, g, o, c, h1, h2, h3, h4, h5⟩ := hOu.get (i := 0) rfl
  rw [Nat.add_zero] at h5
  refine ⟨y, g, o, c, h4, h5, ?_⟩
  have := hear_want hM.duo (by omega) h3 h1 h2 (by rw [hM.dat]; exact hf) (by rw [hM.len]; have := ml_le l k; omega) hw
  rw [hM.pt] at this
  refine this.mono ?_
  rintro e w' ⟨t', z, rfl, hG, hF, hp, hw', hO', hQ', hC', hz⟩
  refine ⟨t', rfl, ⟨hM.duo.right hG hF (by omega), hM.ps, hp, hM.hq, hM.q, hM.len, hM.dat, hM.num, hM.sent, hM.o, hM.er, hQ'.trans hM.tq⟩, hw', by rw [hO', hO]; rfl, by rw [hC']; exact hC.push z (by rw [hz, hM.len, hM.dat])⟩
theorem Md2.step (h : Md2 w0 w s t x L k n l f N) (hN : N ≤ 100000) : Calls Tryd.prog 20 #[.pointer (some ⟨w0.heap.size + 1, 0, none⟩)] w fun e w' => ∃ A c t', e = .returned (.slice A 1 c) ∧ Md3 w0 w' s t' x L k n l f (N + 1) (.slice A 1 c) w.heap.size := by
  obtain ⟨hM, hw, hO, hC⟩ := h
  have := step_idle hM.duo.r hM.duo.laid hM.duo.fr (by omega) hM.duo.two2 (.inl hM.tq)
  rw [hM.pt, hO] at this
  refine this.mono ?_
  rintro e w' ⟨A, c, rfl, hG, hOu⟩
  exact ⟨A, c, _, rfl, ⟨hM.duo.right hG hM.duo.fr.quiet (by omega), hM.ps, hM.pt, hM.hq, hM.q, hM.len, hM.dat, hM.num, hM.sent, hM.o, hM.er, hM.tq⟩, hw, rfl, hC, hOu, Free.old hOu hM.duo.l⟩
theorem Md3.hear (h : Md3 w0 w s t x L k n l f N v B) (hN : N ≤ 100000) : ∃ y g o c, v = .slice (some ⟨g, o, none⟩) 1 c ∧ w.cell? ⟨g, o, none⟩ = some (frV y) ∧
    Calls Tryd.prog 22 #[.pointer (some ⟨w0.heap.size, 0, none⟩), frV y] w fun e w' => ∃ s', e = .returned (.bool true) ∧ Rd w0 w' s' t (k + 1) n l f (N + 1) := by
  obtain ⟨hM, hw, hO, hC, hOu, hfr⟩ := h
  obtain ⟨y, g, o, c, h1, h2, h3, h4, h5⟩ := hOu.get (i := 0) rfl
  rw [Nat.add_zero] at h5
  refine ⟨y, g, o, c, h4, h5, ?_⟩
  have := hear_done hM.duo (by omega) h3 h1 h2 hM.num (by have := hM.sent; omega) hM.hq
  rw [hM.ps] at this
  refine this.mono ?_
  rintro e w' ⟨u, rfl, hG⟩
  exact ⟨_, rfl, hM.duo.left hG (hM.duo.fl.acked u x L hM.hq) (by omega), hM.ps, hM.pt, hM.q, by show s.num + 1 = k + 1; rw [hM.num], rfl, hM.o, hM.er, hw, hO, hM.tq, hC⟩
end
/-- All payloads are done; d of them are taken. -/
structure Rk (w0 w : World) (s t : En) (d n : Nat) (l : Nat → Nat) (f : Nat → Nat → Nat) (N : Nat) : Prop where
  duo : Duo w0 w s t N
  ps : s.p = w0.heap.size
  pt : t.p = w0.heap.size + 1
  q : s.Q = []
  sent : s.sent = 0
  o : s.O = []
  er : s.er = .nilIface
  c : CL t.C d n l f
theorem Rd.rk {w0 w : World} {s t : En} {n N : Nat} {l : Nat → Nat} {f : Nat → Nat → Nat} (h : Rd w0 w s t n n l f N) : Rk w0 w s t 0 n l f N := ⟨h.duo, h.ps, h.pt, h.q.done, h.sent, h.o, h.er, h.c⟩
theorem Rk.take {w0 w : World} {s t : En} {d n N : Nat} {l : Nat → Nat} {f : Nat → Nat → Nat} (h : Rk w0 w s t d n l f N) (hd : d < n) : ∃ x, Calls Tryd.prog 24 #[.pointer (some ⟨w0.heap.size + 1, 0, none⟩)] w fun e w' => e = .returned (.tuple #[frV x, .bool true]) ∧ Lies w' w0.heap.size x ∧ strB x.len x.dat = strB (ml l d) (f d) ∧ ∃ t', Rk w0 w' s t' (d + 1) n l f N := by
  obtain ⟨x, L, hC, hx, hc⟩ := h.c.head hd
  refine ⟨x, ?_⟩
  have := take_some w0.heap.size t x L w h.duo.r hC
  rw [h.pt] at this
  refine this.mono ?_
  rintro e w' ⟨rfl, v, hG, hl⟩
  exact ⟨rfl, hl, hx, _, h.duo.right hG (h.duo.fr.took v x L hC) (Nat.le_refl _), h.ps, h.pt, h.q, h.sent, h.o, h.er, hc⟩
/-- The last payload is sent over and over: i steps are done. -/
structure Rl (w0 w : World) (s t : En) (i N : Nat) : Prop where
  duo : Duo w0 w s t N
  ps : s.p = w0.heap.size
  q : s.Q.length = 1
  o : s.O = []
  er : s.er = .nilIface
  sent : s.sent = (i + 3) / 4
  ago : 0 < i → s.ago = (i - 1) % 4
theorem Rl.step {w0 w : World} {s t : En} {i N : Nat} (h : Rl w0 w s t i N) (hi : i < 32) (hN : N ≤ 100000) : Calls Tryd.prog 20 #[.pointer (some ⟨w0.heap.size, 0, none⟩)] w fun e w' => ∃ A c s' r, e = .returned (.slice A r c) ∧ Rl w0 w' s' t (i + 1) (N + 1) ∧ (i + 3) / 4 + r = (i + 1 + 3) / 4 := by
  obtain ⟨x, hQ⟩ : ∃ x, s.Q = [x] := List.length_eq_one_iff.1 h.q
  have hs := h.sent
  by_cases h4 : i % 4 = 0
  · have := step_send h.duo.l h.duo.laid h.duo.fl (by omega) h.duo.two2 (not_idle hQ (by
      by_cases h0 : i = 0
      · left; omega
      · right; have := h.ago (by omega); omega)) (by omega) hQ
    rw [h.ps, h.o] at this
    refine this.mono ?_
    rintro e w' ⟨A, c, rfl, hG, _⟩
    exact ⟨A, c, _, 1, rfl, ⟨h.duo.left hG (h.duo.fl.sends (by rw [hQ]; simp)) (by omega), h.ps, h.q, rfl, h.er, by show s.sent + 1 = _; omega, fun _ => by show 0 = _; omega⟩, by omega⟩
  · have ha := h.ago (by omega)
    have := step_idle h.duo.l h.duo.laid h.duo.fl (by omega) h.duo.two2 (.inr ⟨by omega, by omega⟩)
    rw [h.ps, h.o] at this
    refine this.mono ?_
    rintro e w' ⟨A, c, rfl, hG, _⟩
    exact ⟨A, c, _, 0, rfl, ⟨h.duo.left hG h.duo.fl.quiet (by omega), h.ps, h.q, rfl, h.er, by show s.sent = _; omega, fun _ => by show s.ago + 1 = _; omega⟩, by omega⟩
/-- The step that ends it. -/
structure Rz (w0 w : World) (s t : En) (N : Nat) (cs : List (ByteArray × Int)) : Prop where
  duo : Duo w0 w s t N
  ps : s.p = w0.heap.size
  o : s.O = []
  er : s.er = chain cs 70
  sent : 0 < s.sent
  ago : s.ago = 4
theorem Rl.last {w0 w : World} {s t : En} {N : Nat} (h : Rl w0 w s t 32 N) (hN : N ≤ 100000) : Calls Tryd.prog 20 #[.pointer (some ⟨w0.heap.size, 0, none⟩)] w fun e w' => ∃ A c s' ps, e = .returned (.slice A 0 c) ∧ Rz w0 w' s' t (N + 1) ps := by
  obtain ⟨x, hQ⟩ : ∃ x, s.Q = [x] := List.length_eq_one_iff.1 h.q
  have hs := h.sent
  have ha := h.ago (by omega)
  have := step_fine h.duo.l h.duo.laid h.duo.fl (by omega) h.duo.two2
  rw [h.ps] at this
  refine this.mono ?_
  rintro e w' ⟨v, s', rfl, hG, ⟨hi, _⟩ | ⟨_, _, ⟨er, ps, rfl, he⟩, hO⟩ | ⟨_, h8, _⟩⟩
  · exact absurd hi (not_idle hQ (.inr (by omega)))
  · rw [h.o] at hO
    obtain ⟨A, c, hv⟩ := hO.slice
    subst hv
    exact ⟨A, c, _, ps, rfl, h.duo.left hG (h.duo.fl.dies er ps he) (by omega), h.ps, rfl, he, by show 0 < s.sent; omega, by show s.ago + 1 = 4; omega⟩
  · omega
theorem Rz.step {w0 w : World} {s t : En} {N : Nat} {ps : List (ByteArray × Int)} (h : Rz w0 w s t N ps) (hN : N ≤ 100000) : Calls Tryd.prog 20 #[.pointer (some ⟨w0.heap.size, 0, none⟩)] w fun e w' => ∃ A c, e = .returned (.slice A 0 c) ∧ Below w0.heap.size w0 w' := by
  have := step_idle h.duo.l h.duo.laid h.duo.fl (by omega) h.duo.two2 (.inr ⟨h.sent, by have := h.ago; omega⟩)
  rw [h.ps, h.o] at this
  refine this.mono ?_
  rintro e w' ⟨A, c, rfl, hG, _⟩
  exact ⟨A, c, rfl, hG.below h.duo.l h.duo.blw h.duo.size⟩
end Go.Proofs.YteadpnododjeaaaDoor
