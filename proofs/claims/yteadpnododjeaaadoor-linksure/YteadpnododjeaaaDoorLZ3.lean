/- LinkSure: the calls, by what holds between the ends. -/
import Derived.Test.YteadpnododjeaaaDoorLZ2
namespace Go.Proofs.YteadpnododjeaaaDoor
open Go.RowKit

/-- All that LinkSure carries along. -/
structure Z (w0 w : World) (ge ga : Nat) (s : Nat → En) (v : Nat → Nat → Value) (L : Lists) (N : Nat) : Prop where
  duo : Duo w0 w (s 0) (s 1) N
  mem : Mem w ge ga w0.heap.size (w0.heap.size + 1) v L
  inv : Inv s L
  ps : ∀ k, k < 2 → (s k).p = w0.heap.size + k
  row : ∀ j k b, j < 3 → k < 2 → (v j k).ownBlock = some b → w0.heap.size ≤ b
  lo : w0.heap.size ≤ ga
  len : ∀ j k, j < 3 → k < 2 → (L j k).length ≤ 400 * N
section
variable {w0 w w' : World} {ge ga k : Nat} {s : Nat → En} {v : Nat → Nat → Value} {L : Lists} {N M : Nat}
theorem Z.end (h : Z w0 w ge ga s v L N) (hk : k < 2) : EndAt w w0.heap.size (s k) ∧ Fine (s k) N := by
  rcases (show k = 0 ∨ k = 1 by omega) with rfl | rfl
  · exact ⟨h.duo.l, h.duo.fl⟩
  · exact ⟨h.duo.r, h.duo.fr⟩
theorem Z.mono (h : Z w0 w ge ga s v L N) (hM : N ≤ M) : Z w0 w ge ga s v L M := ⟨h.duo.mono hM, h.mem, h.inv, h.ps, h.row, h.lo, fun j k hj hk => by have := h.len j k hj hk; omega⟩
theorem Z.below (h : Z w0 w ge ga s v L N) (hb : Below w.heap.size w w') : Z w0 w' ge ga s v L N := ⟨h.duo.below hb, h.mem.below hb, h.inv, h.ps, h.row, h.lo, h.len⟩
/-- A call on the end k. -/
theorem Z.goes (h : Z w0 w ge ga s v L N) (hk : k < 2) {t : En} (g : Goes w w0.heap.size (s k) w' t) (hF : Fine t M) (hM : N ≤ M) (hI : Inv (put1 s k t) L) : Z w0 w' ge ga (put1 s k t) v L M := by
  refine ⟨?_, h.mem.kept (h.end hk).1 g.kept, hI, fun i hi => ?_, h.row, h.lo, fun j i hj hi => by have := h.len j i hj hi; omega⟩
  · rcases (show k = 0 ∨ k = 1 by omega) with rfl | rfl
    · exact h.duo.left g hF hM
    · exact h.duo.right g hF hM
  · by_cases e : i = k
    · subst e; rw [put1_same, g.same]; exact h.ps i hi
    · rw [put1_other _ _ _ _ e]; exact h.ps i hi
/-- The law's own memory is another. -/
theorem Z.memo (h : Z w0 w ge ga s v L N) {v' : Nat → Nat → Value} {L' : Lists} (hM : Mem w' ge ga w0.heap.size (w0.heap.size + 1) v' L') (hb : Below w0.heap.size w0 w') (ho : Only w w') (hI : Inv s L') (hr : ∀ j k b, j < 3 → k < 2 → (v' j k).ownBlock = some b → w0.heap.size ≤ b) (hl : ∀ j k, j < 3 → k < 2 → (L' j k).length ≤ 400 * M) (hNM : N ≤ M) : Z w0 w' ge ga s v' L' M :=
  ⟨(h.duo.only hb ho).mono hNM, hM, hI, h.ps, hr, h.lo, hl⟩
theorem put1_self (s : Nat → En) (k : Nat) : put1 s k (s k) = s := by
  funext i
  by_cases e : i = k
  · subst e; rw [put1_same]
  · rw [put1_other _ _ _ _ e]
theorem Inv.self (h : Inv s L) : Inv (put1 s k (s k)) L := by rw [put1_self]; exact h
/-- What Send answers. -/
def SentZ (w0 w : World) (t : En) (n : Nat) (f : Nat → Nat) (N : Nat) (e : Ending) (w' : World) : Prop :=
  (e = .returned .nilIface ∧ ∃ u g, Goes w w0.heap.size t w' { t with qv := u, Q := t.Q ++ [⟨g, n, n, f⟩] } ∧ Fine { t with qv := u, Q := t.Q ++ [⟨g, n, n, f⟩] } N) ∨ (∃ T u, e = .returned (.iface T u) ∧ Goes w w0.heap.size t w' t)
theorem Z.send (h : Z w0 w ge ga s v L N) (hk : k < 2) {A : Option Addr} {n c : Nat} {f : Nat → Nat} (hA : AtBO w A n f) (hf : ∀ i, f i < 256) :
    Calls Tryd.prog 18 #[.pointer (some ⟨w0.heap.size + k, 0, none⟩), .slice A n c] w (SentZ w0 w (s k) n f N) := by
  obtain ⟨hE, hF⟩ := h.end hk
  rw [← h.ps k hk]
  rcases hF.er with he | ⟨ps, he⟩
  · by_cases hn : 1048576 < n
    · refine (send_long w0.heap.size (s k) A n c w hE h.duo.laid.2 he hn).mono ?_
      rintro e w' ⟨ps, rfl, hb⟩
      obtain ⟨T, u, hT⟩ := chain_iface ps 3
      exact .inr ⟨T, u, by rw [hT], Goes.of_below hE hb⟩
    · by_cases hl : 64 ≤ (s k).Q.length
      · refine (send_full w0.heap.size (s k) A n c w hE h.duo.laid.2 he (by omega) hl).mono ?_
        rintro e w' ⟨ps, rfl, hb⟩
        obtain ⟨T, u, hT⟩ := chain_iface ps 5
        exact .inr ⟨T, u, by rw [hT], Goes.of_below hE hb⟩
      · refine (send_ok w0.heap.size (s k) A n c f w hE he (by omega) hA hf (by omega) h.duo.size).mono ?_
        rintro e w' ⟨rfl, u, g, hG, _⟩
        exact .inl ⟨rfl, u, g, hG, hF.added u _ (by show n ≤ _; omega)⟩
  · refine (send_dead w0.heap.size (s k) ps 70 A n c w hE he).mono ?_
    rintro e w' ⟨rfl, rfl⟩
    obtain ⟨T, u, hT⟩ := chain_iface ps 70
    exact .inr ⟨T, u, by rw [hT], Goes.refl hE⟩
/-- What Step answers. -/
def StepZ (w0 w : World) (s : Nat → En) (k : Nat) (L : Lists) (N : Nat) (e : Ending) (w' : World) : Prop :=
  ∃ A c t S, e = .returned (.slice A S.length c) ∧ Goes w w0.heap.size (s k) w' t ∧ Fine t (N + 1) ∧ Inv (put1 s k t) L ∧ Outs w' w.heap.size (.slice A S.length c) S ∧ S.length ≤ N + 1 ∧ (∀ y ∈ S, Okf (L 1 k) t.num t.want (strB y.1 y.2)) ∧ Free (.slice A S.length c) t
theorem Z.step (h : Z w0 w ge ga s v L N) (hk : k < 2) (hN : N ≤ 1000) :
    Calls Tryd.prog 20 #[.pointer (some ⟨w0.heap.size + k, 0, none⟩)] w (StepZ w0 w s k L N) := by
  obtain ⟨hE, hF⟩ := h.end hk
  rw [← h.ps k hk]
  have hacks : ∀ y ∈ acks (s k).O, Okf (L 1 k) (s k).num (s k).want (strB y.1 y.2) := fun y hy => by
    obtain ⟨q, hq, rfl⟩ := List.mem_map.1 hy
    exact h.inv.acks hk q hq (by have := hF.owed q hq; omega) _ _
  have hal : (acks (s k).O).length ≤ N := by unfold acks; rw [List.length_map]; exact hF.o
  refine (step_fine hE h.duo.laid hF (by omega) h.duo.two2).mono ?_
  rintro e w' ⟨u, t, rfl, hG, ⟨_, rfl, hO⟩ | ⟨_, _, ⟨er, ps, rfl, he⟩, hO⟩ | ⟨_, _, rfl, x, Q, hQ, hO⟩⟩
  · obtain ⟨A, c, hv⟩ := hO.slice
    subst hv
    exact ⟨A, c, _, _, rfl, hG, hF.quiet, h.inv.plain _ rfl rfl rfl rfl (fun y hy => by cases hy), hO, by omega, hacks, Free.step hO hE fun b => own_quiet⟩
  · obtain ⟨A, c, hv⟩ := hO.slice
    subst hv
    exact ⟨A, c, _, _, rfl, hG, hF.dies er ps he, h.inv.plain _ rfl rfl rfl rfl (fun y hy => by cases hy), hO, by omega, hacks, Free.step hO hE fun b => own_dies⟩
  · obtain ⟨A, c, hv⟩ := hO.slice
    subst hv
    have hx := hE.fq x (by rw [hQ]; exact List.mem_cons_self ..)
    refine ⟨A, c, _, _, rfl, hG, hF.sends (by rw [hQ]; simp), h.inv.plain _ rfl rfl rfl rfl (fun y hy => by cases hy), hO, by rw [List.length_append]; show _ + 1 ≤ _; omega, fun y hy => ?_, Free.step hO hE fun b => own_sends⟩
    rcases List.mem_append.1 hy with hy | hy
    · exact hacks y hy
    · obtain rfl := List.mem_singleton.1 hy
      exact h.inv.sends hk x Q hQ hx.lt (hF.pay x (by rw [hQ]; exact List.mem_cons_self ..)) (by have := hF.num; omega)
/-- What Hear answers. -/
def HeardZ (w0 w : World) (s : Nat → En) (k : Nat) (L : Lists) (N : Nat) (e : Ending) (w' : World) : Prop :=
  ∃ b t, e = .returned (.bool b) ∧ Goes w w0.heap.size (s k) w' t ∧ Fine t (N + 1) ∧ Inv (put1 s k t) L
theorem Z.hear (h : Z w0 w ge ga s v L N) (hk : k < 2) (hN : N ≤ 1000) {A : Option Addr} {n c : Nat} {F : Nat → Nat} (hA : AtBO w A n F) (hf : ∀ i, F i < 256) (hc : n ≤ c) (hn : n ≤ 2000000)
    (hok : Link.isF F n → (F 0 = 0 → Link.num F ≤ (s (1 - k)).num ∧ (L 1 (1 - k))[Link.num F]? = some (strB (n - 9) fun j => F (j + 5))) ∧ (F 0 = 1 → Link.num F < (s (1 - k)).want)) :
    Calls Tryd.prog 22 #[.pointer (some ⟨w0.heap.size + k, 0, none⟩), .slice A n c] w (HeardZ w0 w s k L N) := by
  obtain ⟨hE, hF⟩ := h.end hk
  rw [← h.ps k hk]
  by_cases hi : Link.isF F n
  · obtain ⟨h0, h1⟩ := hok hi
    rcases (show F 0 = 0 ∨ F 0 = 1 by have := hi.2.1; omega) with e | e
    · obtain ⟨hm, hS⟩ := h0 e
      by_cases hw : Link.num F = (s k).want
      · refine (hear_new w0.heap.size (s k) A n c F w hE h.duo.laid.1 hA hf hc (by omega) hi e hw (by have := hF.o; omega) (by have := hF.c; omega) (by have := hF.want; omega) h.duo.size).mono ?_
        rintro e' w' ⟨rfl, u1, u2, g, hG, _⟩
        exact ⟨true, _, rfl, hG, by rw [hw]; exact hF.data _ _ _, h.inv.data hk _ _ _ _ hw hm hS⟩
      · by_cases hl : Link.num F < (s k).want
        · refine (hear_old w0.heap.size (s k) A n c F w hE h.duo.laid.1 hA hf hc (by omega) hi e hl (by have := hF.o; omega) h.duo.size).mono ?_
          rintro e' w' ⟨rfl, u, hG⟩
          refine ⟨true, _, rfl, hG, hF.owes u _ hl, h.inv.plain _ rfl rfl rfl rfl (fun y hy => ?_)⟩
          rcases List.mem_append.1 hy with hy | hy
          · exact h.inv.o k hk y hy
          · obtain rfl := List.mem_singleton.1 hy; exact hl
        · refine (hear_far w0.heap.size (s k) A n c F w hE h.duo.laid.1 hA hf hc (by omega) hi e (by omega)).mono ?_
          rintro e' w' ⟨rfl, hG⟩
          exact ⟨true, _, rfl, hG, hF.mono (by omega), h.inv.self⟩
    · refine hear_ack w0.heap.size (s k) A n c F w hE h.duo.laid.1 hA hf hc (by omega) hi e _ fun w1 hb => ?_
      by_cases hs : (s k).sent = 0 ∨ Link.num F ≠ (s k).num
      · refine (ack_no w0.heap.size (s k) (Link.num F) w1 (hE.below hb) hs).mono ?_
        rintro e' w' ⟨rfl, rfl⟩
        exact ⟨rfl, true, _, rfl, Goes.of_below hE hb, hF.mono (by omega), h.inv.self⟩
      · have hnum : Link.num F = (s k).num := by
          rcases Nat.eq_or_lt_of_le (Nat.le_refl (Link.num F)) with _ | _ <;> exact Decidable.byContradiction fun hne => hs (.inr hne)
        have h0s : 0 < (s k).sent := Nat.pos_of_ne_zero fun h0 => hs (.inl h0)
        obtain ⟨x, Q, hQ⟩ : ∃ x Q, (s k).Q = x :: Q := by
          cases hq : (s k).Q with
          | nil => exact absurd hq (hF.way h0s)
          | cons x Q => exact ⟨x, Q, rfl⟩
        rw [hnum]
        refine (ack_yes w0.heap.size (s k) x Q w1 (hE.below hb) hQ h0s (by have := hF.num; omega)).mono ?_
        rintro e' w' ⟨rfl, u, hG⟩
        exact ⟨rfl, true, _, rfl, (Goes.of_below hE hb).trans hG, hF.acked u x Q hQ, h.inv.acked hk u x Q hQ (by rw [← hnum]; exact h1 e)⟩
  · refine (hear_no w0.heap.size (s k) A n c F w hE h.duo.laid.1 hA hf hc (by omega) hi).mono ?_
    rintro e w' ⟨rfl, hG⟩
    exact ⟨false, _, rfl, hG, hF.mono (by omega), h.inv.self⟩
/-- What Take answers. -/
def TookZ (w0 w : World) (t : En) (e : Ending) (w' : World) : Prop :=
  (t.C = [] ∧ e = .returned (.tuple #[.slice none 0 0, .bool false]) ∧ w = w') ∨ (∃ x C u, t.C = x :: C ∧ e = .returned (.tuple #[frV x, .bool true]) ∧ Goes w w0.heap.size t w' { t with cv := u, C := C } ∧ Lies w' w0.heap.size x)
theorem Z.take (h : Z w0 w ge ga s v L N) (hk : k < 2) : Calls Tryd.prog 24 #[.pointer (some ⟨w0.heap.size + k, 0, none⟩)] w (TookZ w0 w (s k)) := by
  obtain ⟨hE, hF⟩ := h.end hk
  rw [← h.ps k hk]
  cases hC : (s k).C with
  | nil =>
    refine (take_none w0.heap.size (s k) w hE hC).mono ?_
    rintro e w' ⟨rfl, rfl⟩
    exact .inl ⟨hC, rfl, rfl⟩
  | cons x C =>
    refine (take_some w0.heap.size (s k) x C w hE hC).mono ?_
    rintro e w' ⟨rfl, u, hG, hl⟩
    exact .inr ⟨x, C, u, hC, rfl, hG, hl⟩
end
end Go.Proofs.YteadpnododjeaaaDoor
