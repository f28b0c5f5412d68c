/- Contracts: Take, acknowledged. -/
import Derived.Test.YteadpnododjeaaaDoorLE2
namespace Go.Proofs.YteadpnododjeaaaDoor
open Go.RowKit

section
variable {w : World} {base : Nat} {s : En} {x : Fr} {L : List Fr}
/-- The first of the payloads that came is cut off. -/
theorem cut_c (h : EndAt w base s) (hC : s.C = x :: L) : ∃ g o c, s.cv = .slice (some ⟨g, o, none⟩) (L.length + 1) c ∧ w.cell? ⟨g, o, none⟩ = some (frV x) ∧ w.frozen? ⟨g, o, none⟩ = false ∧ g ≠ s.p ∧
    ∀ q, Goes w base s (((w.setCell ⟨g, o, none⟩ (.slice none 0 0)).drewN q).setCell ⟨s.p, 5, none⟩ (.slice (tl (some ⟨g, o, none⟩) c 1) L.length (c - 1))) { s with cv := .slice (tl (some ⟨g, o, none⟩) c 1) L.length (c - 1), C := L } := by
  have hw := h.wc
  rw [hC] at hw
  obtain ⟨g, o, c, hv, _, hc, hf, hW, ho⟩ := hw.cut
  have hvo : s.cv.ownBlock = some g := by rw [hv]; rfl
  refine ⟨g, o, c, hv, hc, hf, fun e => h.p_ne.2.1 (e ▸ hvo), fun q => ?_⟩
  refine h.list 5 _ (some g) (.inr (.inl hvo.symm)) ⟨rfl, rfl, rfl, by simp [World.setCell], fun k _ hk => Below.heap_setCell w _ _ k (fun e => hk (by rw [e]))⟩ rfl rfl (.inl ⟨rfl, rfl, fun b e e2 => h.ap b e (by rw [hvo]; exact e2)⟩) (.inr ⟨hW.heap fun _ _ => rfl, .inl (by rw [hvo]; exact ho), rfl⟩) (.inl ⟨rfl, rfl, fun b e e2 => (h.o_ne e).2 (by rw [hvo]; exact e2)⟩) (fun y hy => .inl hy) (fun y hy => .inl (by rw [hC]; exact List.mem_cons_of_mem _ hy)) (.inr rfl)
/-- The first of the payloads that wait is cut off. -/
theorem cut_q (h : EndAt w base s) (hQ : s.Q = x :: L) : ∃ g o c, s.qv = .slice (some ⟨g, o, none⟩) (L.length + 1) c ∧ w.cell? ⟨g, o, none⟩ = some (frV x) ∧ w.frozen? ⟨g, o, none⟩ = false ∧ g ≠ s.p ∧
    ∀ q, Goes w base s (((w.setCell ⟨g, o, none⟩ (.slice none 0 0)).drewN q).setCell ⟨s.p, 0, none⟩ (.slice (tl (some ⟨g, o, none⟩) c 1) L.length (c - 1))) { s with qv := .slice (tl (some ⟨g, o, none⟩) c 1) L.length (c - 1), Q := L } := by
  have hw := h.wq
  rw [hQ] at hw
  obtain ⟨g, o, c, hv, _, hc, hf, hW, ho⟩ := hw.cut
  have hvo : s.qv.ownBlock = some g := by rw [hv]; rfl
  refine ⟨g, o, c, hv, hc, hf, fun e => h.p_ne.1 (e ▸ hvo), fun q => ?_⟩
  refine h.list 0 _ (some g) (.inl hvo.symm) ⟨rfl, rfl, rfl, by simp [World.setCell], fun k _ hk => Below.heap_setCell w _ _ k (fun e => hk (by rw [e]))⟩ rfl rfl (.inr ⟨hW.heap fun _ _ => rfl, .inl (by rw [hvo]; exact ho), rfl⟩) (.inl ⟨rfl, rfl, fun b e e2 => h.ap b (by rw [hvo]; exact e2) e⟩) (.inl ⟨rfl, rfl, fun b e e2 => (h.o_ne e).1 (by rw [hvo]; exact e2)⟩) (fun y hy => .inl (by rw [hQ]; exact List.mem_cons_of_mem _ hy)) (fun y hy => .inl hy) (.inl rfl)
end
set_option maxHeartbeats 1000000 in
set_option maxRecDepth 100000 in
theorem take_none (base : Nat) (s : En) (w : World) (h : EndAt w base s) (hC : s.C = []) :
    Calls Tryd.prog 24 #[.pointer (some ⟨s.p, 0, none⟩)] w fun e w' => e = .returned (.tuple #[.slice none 0 0, .bool false]) ∧ w = w' := by
  obtain ⟨A, c, hv, _⟩ := h.wc.slice
  have hc : w.cell? ⟨s.p, 5, none⟩ = some s.cv := h.cell 5
  rw [hC] at hv
  rw [hv] at hc
  clear h hv hC
  go_enter Tryd.func24, Tryd.ntmps24
  go_wp2
  go_ret2
  exact ⟨rfl, rfl⟩
/-- What Take answers, where something came. -/
def Took (w : World) (base : Nat) (s : En) (x : Fr) (L : List Fr) (e : Ending) (w' : World) : Prop :=
  e = .returned (.tuple #[frV x, .bool true]) ∧ ∃ v, Goes w base s w' { s with cv := v, C := L } ∧ Lies w' base x
set_option maxHeartbeats 1000000 in
set_option maxRecDepth 100000 in
theorem take_some (base : Nat) (s : En) (x : Fr) (L : List Fr) (w : World) (h : EndAt w base s) (hC : s.C = x :: L) :
    Calls Tryd.prog 24 #[.pointer (some ⟨s.p, 0, none⟩)] w (Took w base s x L) := by
  have hc : w.cell? ⟨s.p, 5, none⟩ = some s.cv := h.cell 5
  have hf : w.frozen? ⟨s.p, 5, none⟩ = false := h.frozen 5
  have hx := h.fc x (by rw [hC]; exact List.mem_cons_self ..)
  obtain ⟨g, o, c, hv, h1, h2, hne, hG⟩ := cut_c h hC
  rw [hv] at hc
  have HC := Lib.hid (cutFirst_any g o L.length c x w h1 h2)
  have hl0 : (((L.length : Int) + 1 == 0)) = false := by rw [beq_eq_false_iff_ne]; omega
  have hl1 : (L.length + 1 == 0) = false := by rw [beq_eq_false_iff_ne]; omega
  have hc5 : ∀ q, ((w.setCell ⟨g, o, none⟩ (.slice none 0 0)).drewN q).cell? ⟨s.p, 5, none⟩ = some (.slice (some ⟨g, o, none⟩) (L.length + 1) c) := fun q => by
    have e : ((w.setCell ⟨g, o, none⟩ (.slice none 0 0)).drewN q).heap[s.p]? = w.heap[s.p]? := Below.heap_setCell w _ _ s.p (Ne.symm hne)
    exact (World.cell?_of_block (a := ⟨s.p, 5, none⟩) e).trans hc
  have hf5 : ∀ q, ((w.setCell ⟨g, o, none⟩ (.slice none 0 0)).drewN q).frozen? ⟨s.p, 5, none⟩ = false := fun q => by
    have e : ((w.setCell ⟨g, o, none⟩ (.slice none 0 0)).drewN q).heap[s.p]? = w.heap[s.p]? := Below.heap_setCell w _ _ s.p (Ne.symm hne)
    exact (World.frozen?_of_block (a := ⟨s.p, 5, none⟩) e).trans hf
  have HG := Lib.hid (And.intro hG (And.intro hx h))
  have HF := Lib.hid (And.intro hc5 hf5)
  clear h hv hC hG hx h1 h2 hne hf hc5 hf5
  go_enter Tryd.func24, Tryd.ntmps24
  go_wp2_with fail
  refine HC.out.mono ?_
  rintro e w1 ⟨rfl, q, hw1⟩
  have hg2 := HG.out.1 q
  have hc5 := HF.out.1 q
  have hf5 := HF.out.2 q
  rw [← hw1] at hg2 hc5 hf5
  have H2 := Lib.hid (And.intro hg2 (HG.out.2.2.lies hg2.kept HG.out.2.1))
  clear hw1 hg2 hc HG HF HC hl0 hl1
  unfold frV
  go_wp2
  go_ret2
  exact ⟨rfl, _, H2.out.1, H2.out.2⟩
set_option maxHeartbeats 1000000 in
set_option maxRecDepth 100000 in
theorem ack_no (base : Nat) (s : En) (k : Nat) (w : World) (h : EndAt w base s) (hk : s.sent = 0 ∨ k ≠ s.num) :
    Calls Tryd.prog 37 #[.pointer (some ⟨s.p, 0, none⟩), .int .u32 (k : Int)] w fun e w' => e = .returned (.tuple #[]) ∧ w = w' := by
  have hc2 : w.cell? ⟨s.p, 2, none⟩ = some (.int .i64 (s.sent : Int)) := h.cell 2
  have hc1 : w.cell? ⟨s.p, 1, none⟩ = some (.int .u32 (s.num : Int)) := h.cell 1
  clear h
  generalize s.sent = u at *
  generalize s.num = v at *
  by_cases h0 : u = 0
  · subst h0
    clear hk
    go_enter Tryd.func37, Tryd.ntmps37
    go_wp2
    (try simp only [Exit.inBlock, Exit.then])
    exact bodyPost_ret (results_none rfl _ _ _) rfl ⟨rfl, rfl⟩
  · have k0 : ((u : Int) == 0) = false := by rw [beq_eq_false_iff_ne]; omega
    have k1 : (u == 0) = false := by rw [beq_eq_false_iff_ne]; omega
    have hkv : k ≠ v := by omega
    have k2 : ((k : Int) != (v : Int)) = true := by simp; omega
    have k3 : (k != v) = true := by simp; omega
    clear hk h0 hkv
    go_enter Tryd.func37, Tryd.ntmps37
    go_wp2
    (try simp only [Exit.inBlock, Exit.then])
    exact bodyPost_ret (results_none rfl _ _ _) rfl ⟨rfl, rfl⟩
/-- What acknowledged leaves, where it is of the payload that is under way. -/
def Acked (w : World) (base : Nat) (s : En) (L : List Fr) (e : Ending) (w' : World) : Prop :=
  e = .returned (.tuple #[]) ∧ ∃ v, Goes w base s w' { s with qv := v, Q := L, num := s.num + 1, sent := 0 }
set_option maxHeartbeats 1000000 in
set_option maxRecDepth 100000 in
theorem ack_yes (base : Nat) (s : En) (x : Fr) (L : List Fr) (w : World) (h : EndAt w base s) (hQ : s.Q = x :: L) (h0 : 0 < s.sent) (hn : s.num + 1 < 4294967296) :
    Calls Tryd.prog 37 #[.pointer (some ⟨s.p, 0, none⟩), .int .u32 (s.num : Int)] w (Acked w base s L) := by
  have hc0 : w.cell? ⟨s.p, 0, none⟩ = some s.qv := h.cell 0
  have hc2 : w.cell? ⟨s.p, 2, none⟩ = some (.int .i64 (s.sent : Int)) := h.cell 2
  have hc1 : w.cell? ⟨s.p, 1, none⟩ = some (.int .u32 (s.num : Int)) := h.cell 1
  obtain ⟨g, o, c, hv, h1, h2, hne, hG⟩ := cut_q h hQ
  rw [hv] at hc0
  have HC := Lib.hid (cutFirst_any g o L.length c x w h1 h2)
  have k0 : ((s.sent : Int) == 0) = false := by rw [beq_eq_false_iff_ne]; omega
  have k1 : (s.sent == 0) = false := by rw [beq_eq_false_iff_ne]; omega
  have e1 : IntKind.u32.wrap ((s.num : Int) + 1) = (s.num : Int) + 1 := by rw [u32w]; omega
  have hcp : ∀ q j, ((w.setCell ⟨g, o, none⟩ (.slice none 0 0)).drewN q).cell? ⟨s.p, j, none⟩ = w.cell? ⟨s.p, j, none⟩ ∧ ((w.setCell ⟨g, o, none⟩ (.slice none 0 0)).drewN q).frozen? ⟨s.p, j, none⟩ = false := fun q j => by
    have e : ((w.setCell ⟨g, o, none⟩ (.slice none 0 0)).drewN q).heap[s.p]? = w.heap[s.p]? := Below.heap_setCell w _ _ s.p (Ne.symm hne)
    exact ⟨World.cell?_of_block (a := ⟨s.p, j, none⟩) e, (World.frozen?_of_block (a := ⟨s.p, j, none⟩) e).trans (h.frozen j)⟩
  have HG := Lib.hid (And.intro hG hcp)
  clear h hv hQ hG h1 h2 hne h0 hn hcp
  go_enter Tryd.func37, Tryd.ntmps37
  go_wp2_with fail
  refine HC.out.mono ?_
  rintro e w1 ⟨rfl, q, hw1⟩
  have hg2 := HG.out.1 q
  have hcp := HG.out.2 q
  rw [← hw1] at hg2 hcp
  have c0 := (hcp 0).1.trans hc0
  have c1 := (hcp 1).1.trans hc1
  have c2 := (hcp 2).1.trans hc2
  have f0 := (hcp 0).2
  have f1 := (hcp 1).2
  have f2 := (hcp 2).2
  have g3 := hg2.at'.set (s' := { s with qv := .slice (tl (some ⟨g, o, none⟩) c 1) L.length (c - 1), Q := L, num := s.num + 1 }) 1 (.int .u32 ((s.num : Int) + 1)) rfl rfl rfl rfl rfl rfl (.inl ⟨rfl, rfl⟩)
  have g4 := g3.at'.set (s' := { s with qv := .slice (tl (some ⟨g, o, none⟩) c 1) L.length (c - 1), Q := L, num := s.num + 1, sent := 0 }) 2 (.int .i64 0) rfl rfl rfl rfl rfl rfl (.inl ⟨rfl, rfl⟩)
  have H2 := Lib.hid ((hg2.trans g3).trans g4)
  clear hw1 hg2 hc0 hc1 hc2 HG HC hcp g3 g4
  unfold frV
  go_wp2
  go_end0
  exact ⟨rfl, _, H2.out⟩
end Go.Proofs.YteadpnododjeaaaDoor
