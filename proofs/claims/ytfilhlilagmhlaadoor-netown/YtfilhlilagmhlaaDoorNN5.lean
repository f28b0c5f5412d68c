/- Contracts: remove, Drop, Deliver, Send, Copy. -/
import Derived.Test.YtfilhlilagmhlaaDoorNN4
namespace Go.Proofs.YtfilhlilagmhlaaDoor
open Go.RowKit

/-- What remove leaves. -/
def Removed (w : World) (base : Nat) (s : St) (k i : Nat) (w' : World) : Prop :=
  ∃ v, NetAt w' base (s.put k v ((s.L k).eraseIdx i)) ∧ Grows s w (s.put k v ((s.L k).eraseIdx i)) ∧ Kept s w w' ∧ v.ownBlock = (s.v k).ownBlock ∧ ∀ b, b < w.heap.size → b ≠ s.p → (s.v k).ownBlock ≠ some b → w'.heap[b]? = w.heap[b]?
theorem mem_of_erase {L : List Fr} {i : Nat} {x : Fr} (h : x ∈ L.eraseIdx i) : x ∈ L := List.mem_of_mem_eraseIdx h
theorem removed {w w1 : World} {base : Nat} {s : St} {k i g c : Nat} (hN : NetAt w base s) (hk : k < 2) (hv : s.v k = .slice (some ⟨g, 0, none⟩) (s.L k).length c)
    (hW : Way w1 base (.slice (some ⟨g, 0, none⟩) ((s.L k).length - 1) c) ((s.L k).eraseIdx i)) (hgr : w.grownBy w1 (some g)) : Removed w base s k i (w1.setCell ⟨s.p, k, none⟩ (.slice (some ⟨g, 0, none⟩) ((s.L k).length - 1) c)) := by
  have hvb : (s.v k).ownBlock = some g := by rw [hv]; rfl
  have hgp : g ≠ s.p := fun e => by
    obtain ⟨_, cur, h2⟩ := (hN.way k hk).block hvb
    exact heap_ne h2 hN.net (by decide) e
  have hold : ∀ b, b < w.heap.size → (s.v k).ownBlock ≠ some b → w1.heap[b]? = w.heap[b]? := fun b hb hvb' => hgr.block b hb (fun e => hvb' (hvb.trans e.symm))
  have hp1 := hold s.p hN.p_lt (fun e => hgp (Option.some.inj (hvb.symm.trans e)))
  have hset : ∀ b, b ≠ s.p → (w1.setCell ⟨s.p, k, none⟩ (.slice (some ⟨g, 0, none⟩) ((s.L k).length - 1) c)).heap[b]? = w1.heap[b]? := fun b hb => Below.heap_setCell w1 _ _ b hb
  have hsub : ((s.L k).eraseIdx i).Sublist (s.L k) := List.eraseIdx_sublist _ _
  obtain ⟨h1, h2⟩ := hN.step (w' := w1.setCell ⟨s.p, k, none⟩ (.slice (some ⟨g, 0, none⟩) ((s.L k).length - 1) c)) (v := .slice (some ⟨g, 0, none⟩) ((s.L k).length - 1) c) (l := (s.L k).eraseIdx i) hk
    (fun b hb hbp hvb => (hset b hbp).trans (hold b hb hvb)) (net_set hN hk hp1 _ _)
    (hW.set (p := ⟨s.p, k, none⟩) (fun e => hgp (Option.some.inj e)) _) (.inl hvb.symm) (fun x hx => .inl (mem_of_erase hx)) ((hN.nd k hk).sublist (hsub.map _)) (Nat.le_trans hsub.length_le (hN.short k hk))
  refine ⟨_, h1, h2, ⟨hgr.os, hgr.tape, hgr.output, by simpa [World.setCell] using hgr.size, fun b hb ho => ?_⟩, hvb.symm, fun b hb hbp hvb => (hset b hbp).trans (hold b hb hvb)⟩
  exact (hset b fun e => ho (.inl e)).trans (hold b hb fun e => ho (.inr ⟨k, hk, .inl e⟩))
set_option maxHeartbeats 4000000 in
set_option maxRecDepth 100000 in
theorem remove_ok0 (base : Nat) (s : St) (i : Nat) (w : World) (hN : NetAt w base s) (hi : i < (s.L 0).length) :
    Calls Tryd.prog 29 #[.pointer (some ⟨s.p, 0, none⟩), .int .i64 0, .int .i64 (i : Int)] w fun e w' => e = .returned (.tuple #[]) ∧ Removed w base s 0 i w' := by
  obtain ⟨x, hx⟩ : ∃ x, (s.L 0)[i]? = some x := ⟨_, List.getElem?_eq_getElem hi⟩
  obtain ⟨g, c, hv, _⟩ := (hN.way 0 (by omega)).cell hx
  have hc := hN.cell 0 (by omega)
  rw [hv] at hc
  have hgp : g ≠ s.p := fun e => by
    obtain ⟨_, cur, h2⟩ := (hN.way 0 (by omega)).block (b := g) (by rw [hv]; rfl)
    exact heap_ne h2 hN.net (by decide) e
  have hW := hN.way 0 (by omega)
  rw [hv] at hW
  have e1 : IntKind.i64.wrap ((i : Int) + 1) = (i : Int) + 1 := i64_nat _ (by omega) (by have := hN.short 0 (by omega); omega)
  have HI := Lib.hid (And.intro hN (And.intro hi (And.intro hv hW)))
  have hp := hN.p_lt
  clear hN hi hx hv hW
  obtain ⟨m, hm⟩ : ∃ m, m = (s.L 0).length := ⟨_, rfl⟩
  have HM := Lib.hid hm
  rw [← hm] at hc
  clear hm
  go_enter Tryd.func29, Tryd.ntmps29
  go_wp2
  refine region_z 15 (fun w' => w'.cell? ⟨s.p, 0, none⟩ = some (sl8 g m c)) (by kernel_rfl) ?_
  have hS : w.drew.cell? ⟨s.p, 0, none⟩ = some (sl8 g m c) := hc
  refine zt [15] (i := 0) rfl (.pointer (some ⟨s.p, 0, none⟩)) (by kernel_rfl) (by kernel_rfl) (by kernel_rfl) (by kernel_rfl) (fun _ _ _ h => h) hS (fun w' d1 => by go_simp) ?_
  try simp only [Act.put, List.setIfInBounds_toArray, List.set_cons_zero, List.set_cons_succ]
  refine zt [15] (i := 1) rfl (.int .i64 0) (by kernel_rfl) (by kernel_rfl) (by kernel_rfl) (by kernel_rfl) (fun _ _ _ h => h) hS (fun w' d1 => by go_simp) ?_
  try simp only [Act.put, List.setIfInBounds_toArray, List.set_cons_zero, List.set_cons_succ]
  refine zt [15] (i := 2) rfl (.pointer (some ⟨s.p, 0, none⟩)) (by kernel_rfl) (by kernel_rfl) (by kernel_rfl) (by kernel_rfl) (fun _ _ _ h => h) hS (fun w' d1 => by go_simp) ?_
  try simp only [Act.put, List.setIfInBounds_toArray, List.set_cons_zero, List.set_cons_succ]
  refine zt [15] (i := 3) rfl (.int .i64 0) (by kernel_rfl) (by kernel_rfl) (by kernel_rfl) (by kernel_rfl) (fun _ _ _ h => h) hS (fun w' d1 => by go_simp) ?_
  try simp only [Act.put, List.setIfInBounds_toArray, List.set_cons_zero, List.set_cons_succ]
  refine zt [15] (i := 4) rfl (.pointer (some ⟨s.p, 0, none⟩)) (by kernel_rfl) (by kernel_rfl) (by kernel_rfl) (by kernel_rfl) (fun _ _ _ h => h) hS (fun w' d1 => by go_simp) ?_
  try simp only [Act.put, List.setIfInBounds_toArray, List.set_cons_zero, List.set_cons_succ]
  refine zt [15] (i := 5) rfl (.pointer (some ⟨s.p, 0, none⟩)) (by kernel_rfl) (by kernel_rfl) (by kernel_rfl) (by kernel_rfl) (fun _ _ _ h => h) hS (fun w' d1 => by go_simp) ?_
  try simp only [Act.put, List.setIfInBounds_toArray, List.set_cons_zero, List.set_cons_succ]
  refine zt [15] (i := 6) rfl (.pointer (some ⟨s.p, 0, none⟩)) (by kernel_rfl) (by kernel_rfl) (by kernel_rfl) (by kernel_rfl) (fun _ _ _ h => h) hS (fun w' d1 => by go_simp) ?_
  try simp only [Act.put, List.setIfInBounds_toArray, List.set_cons_zero, List.set_cons_succ]
  refine zt [15] (i := 7) rfl (sl8 g m c) (by kernel_rfl) (by kernel_rfl) (by kernel_rfl) (by kernel_rfl) (fun _ _ _ h => h) hS (fun w' d1 => by go_simp) ?_
  try simp only [Act.put, List.setIfInBounds_toArray, List.set_cons_zero, List.set_cons_succ]
  refine zt [15] (i := 8) rfl (.int .i64 (i : Int)) (by kernel_rfl) (by kernel_rfl) (by kernel_rfl) (by kernel_rfl) (fun _ _ _ h => h) hS (fun w' d1 => by go_simp) ?_
  try simp only [Act.put, List.setIfInBounds_toArray, List.set_cons_zero, List.set_cons_succ]
  refine zt [15] (i := 9) rfl (.int .i64 (i : Int)) (by kernel_rfl) (by kernel_rfl) (by kernel_rfl) (by kernel_rfl) (fun _ _ _ h => h) hS (fun w' d1 => by go_simp) ?_
  try simp only [Act.put, List.setIfInBounds_toArray, List.set_cons_zero, List.set_cons_succ]
  refine zt [15] (i := 10) rfl (.int .i64 ((i : Int) + 1)) (by kernel_rfl) (by kernel_rfl) (by kernel_rfl) (by kernel_rfl) (fun _ _ _ h => h) hS (fun w' d1 => by go_simp) ?_
  try simp only [Act.put, List.setIfInBounds_toArray, List.set_cons_zero, List.set_cons_succ]
  refine zt [13, 14, 15] (i := 12) rfl (.pointer (some ⟨s.p, 0, none⟩)) (by kernel_rfl) (by kernel_rfl) (by kernel_rfl) (by kernel_rfl) (fun _ _ _ h => h) hS (fun w' d1 => by go_simp) ?_
  try simp only [Act.put, List.setIfInBounds_toArray, List.set_cons_zero, List.set_cons_succ]
  refine zt [14, 15] (i := 13) rfl (.pointer (some ⟨s.p, 0, none⟩)) (by kernel_rfl) (by kernel_rfl) (by kernel_rfl) (by kernel_rfl) (fun _ _ _ h => h) hS (fun w' d1 => by go_simp) ?_
  try simp only [Act.put, List.setIfInBounds_toArray, List.set_cons_zero, List.set_cons_succ]
  refine z1 (i := 11) (by kernel_rfl) rfl (fun K hK => ?_)
  go_simp
  have hd := delete_any w.drew base g c i (s.L 0) (HI.out.2.2.2.heap (fun _ _ => rfl)) HI.out.2.1
  rw [← HM.out] at hd
  refine hd.mono ?_
  rintro e w1 ⟨rfl, hW1, hgr, _⟩
  have hp1 : w1.heap[s.p]? = w.heap[s.p]? := hgr.block s.p hp (fun e => hgp (Option.some.inj e).symm)
  have hS1 : w1.cell? ⟨s.p, 0, none⟩ = some (sl8 g m c) := (World.cell?_of_block (w := w) (a := ⟨s.p, 0, none⟩) hp1).trans hc
  have hz1 : w1.frozen? ⟨s.p, 0, none⟩ = false := (World.frozen?_of_block (w := w) (a := ⟨s.p, 0, none⟩) hp1).trans (HI.out.1.frozen 0)
  have hgr' : w.grownBy w1 (some g) := ⟨hgr.os, hgr.tape, hgr.output, hgr.size, hgr.block⟩
  have HE := Lib.hid (removed HI.out.1 (by omega) HI.out.2.2.1 hW1 hgr')
  rw [← HM.out] at HE ⊢
  clear hd hW1 hgr hgr' hp1 HI
  refine hK.out _ _ (.inr hS1) ?_
  clear hK K
  try simp only [Act.put, List.setIfInBounds_toArray, List.set_cons_zero, List.set_cons_succ]
  refine z1 (i := 14) (by kernel_rfl) rfl (fun K hK => ?_)
  go_simp
  refine hK.out _ _ (.inr hS1) ?_
  clear hK K
  try simp only [Act.put, List.setIfInBounds_toArray, List.set_cons_zero, List.set_cons_succ]
  refine z1 (i := 15) (by kernel_rfl) rfl (fun K hK => ?_)
  go_simp
  refine hK.out _ _ (.inl rfl) ?_
  clear hK K
  refine wpAnyZ_done (by kernel_rfl) ?_ _
  go_wp2
  go_end0
  exact ⟨rfl, HE.out⟩
set_option maxHeartbeats 4000000 in
set_option maxRecDepth 100000 in
theorem remove_ok1 (base : Nat) (s : St) (i : Nat) (w : World) (hN : NetAt w base s) (hi : i < (s.L 1).length) :
    Calls Tryd.prog 29 #[.pointer (some ⟨s.p, 0, none⟩), .int .i64 1, .int .i64 (i : Int)] w fun e w' => e = .returned (.tuple #[]) ∧ Removed w base s 1 i w' := by
  obtain ⟨x, hx⟩ : ∃ x, (s.L 1)[i]? = some x := ⟨_, List.getElem?_eq_getElem hi⟩
  obtain ⟨g, c, hv, _⟩ := (hN.way 1 (by omega)).cell hx
  have hc := hN.cell 1 (by omega)
  rw [hv] at hc
  have hgp : g ≠ s.p := fun e => by
    obtain ⟨_, cur, h2⟩ := (hN.way 1 (by omega)).block (b := g) (by rw [hv]; rfl)
    exact heap_ne h2 hN.net (by decide) e
  have hW := hN.way 1 (by omega)
  rw [hv] at hW
  have e1 : IntKind.i64.wrap ((i : Int) + 1) = (i : Int) + 1 := i64_nat _ (by omega) (by have := hN.short 1 (by omega); omega)
  have HI := Lib.hid (And.intro hN (And.intro hi (And.intro hv hW)))
  have hp := hN.p_lt
  clear hN hi hx hv hW
  obtain ⟨m, hm⟩ : ∃ m, m = (s.L 1).length := ⟨_, rfl⟩
  have HM := Lib.hid hm
  rw [← hm] at hc
  clear hm
  go_enter Tryd.func29, Tryd.ntmps29
  go_wp2
  refine region_z 15 (fun w' => w'.cell? ⟨s.p, 1, none⟩ = some (sl8 g m c)) (by kernel_rfl) ?_
  have hS : w.drew.cell? ⟨s.p, 1, none⟩ = some (sl8 g m c) := hc
  refine zt [15] (i := 0) rfl (.pointer (some ⟨s.p, 0, none⟩)) (by kernel_rfl) (by kernel_rfl) (by kernel_rfl) (by kernel_rfl) (fun _ _ _ h => h) hS (fun w' d1 => by go_simp) ?_
  try simp only [Act.put, List.setIfInBounds_toArray, List.set_cons_zero, List.set_cons_succ]
  refine zt [15] (i := 1) rfl (.int .i64 1) (by kernel_rfl) (by kernel_rfl) (by kernel_rfl) (by kernel_rfl) (fun _ _ _ h => h) hS (fun w' d1 => by go_simp) ?_
  try simp only [Act.put, List.setIfInBounds_toArray, List.set_cons_zero, List.set_cons_succ]
  refine zt [15] (i := 2) rfl (.pointer (some ⟨s.p, 0, none⟩)) (by kernel_rfl) (by kernel_rfl) (by kernel_rfl) (by kernel_rfl) (fun _ _ _ h => h) hS (fun w' d1 => by go_simp) ?_
  try simp only [Act.put, List.setIfInBounds_toArray, List.set_cons_zero, List.set_cons_succ]
  refine zt [15] (i := 3) rfl (.int .i64 1) (by kernel_rfl) (by kernel_rfl) (by kernel_rfl) (by kernel_rfl) (fun _ _ _ h => h) hS (fun w' d1 => by go_simp) ?_
  try simp only [Act.put, List.setIfInBounds_toArray, List.set_cons_zero, List.set_cons_succ]
  refine zt [15] (i := 4) rfl (.pointer (some ⟨s.p, 0, none⟩)) (by kernel_rfl) (by kernel_rfl) (by kernel_rfl) (by kernel_rfl) (fun _ _ _ h => h) hS (fun w' d1 => by go_simp) ?_
  try simp only [Act.put, List.setIfInBounds_toArray, List.set_cons_zero, List.set_cons_succ]
  refine zt [15] (i := 5) rfl (.pointer (some ⟨s.p, 0, none⟩)) (by kernel_rfl) (by kernel_rfl) (by kernel_rfl) (by kernel_rfl) (fun _ _ _ h => h) hS (fun w' d1 => by go_simp) ?_
  try simp only [Act.put, List.setIfInBounds_toArray, List.set_cons_zero, List.set_cons_succ]
  refine zt [15] (i := 6) rfl (.pointer (some ⟨s.p, 1, none⟩)) (by kernel_rfl) (by kernel_rfl) (by kernel_rfl) (by kernel_rfl) (fun _ _ _ h => h) hS (fun w' d1 => by go_simp) ?_
  try simp only [Act.put, List.setIfInBounds_toArray, List.set_cons_zero, List.set_cons_succ]
  refine zt [15] (i := 7) rfl (sl8 g m c) (by kernel_rfl) (by kernel_rfl) (by kernel_rfl) (by kernel_rfl) (fun _ _ _ h => h) hS (fun w' d1 => by go_simp) ?_
  try simp only [Act.put, List.setIfInBounds_toArray, List.set_cons_zero, List.set_cons_succ]
  refine zt [15] (i := 8) rfl (.int .i64 (i : Int)) (by kernel_rfl) (by kernel_rfl) (by kernel_rfl) (by kernel_rfl) (fun _ _ _ h => h) hS (fun w' d1 => by go_simp) ?_
  try simp only [Act.put, List.setIfInBounds_toArray, List.set_cons_zero, List.set_cons_succ]
  refine zt [15] (i := 9) rfl (.int .i64 (i : Int)) (by kernel_rfl) (by kernel_rfl) (by kernel_rfl) (by kernel_rfl) (fun _ _ _ h => h) hS (fun w' d1 => by go_simp) ?_
  try simp only [Act.put, List.setIfInBounds_toArray, List.set_cons_zero, List.set_cons_succ]
  refine zt [15] (i := 10) rfl (.int .i64 ((i : Int) + 1)) (by kernel_rfl) (by kernel_rfl) (by kernel_rfl) (by kernel_rfl) (fun _ _ _ h => h) hS (fun w' d1 => by go_simp) ?_
  try simp only [Act.put, List.setIfInBounds_toArray, List.set_cons_zero, List.set_cons_succ]
  refine zt [13, 14, 15] (i := 12) rfl (.pointer (some ⟨s.p, 0, none⟩)) (by kernel_rfl) (by kernel_rfl) (by kernel_rfl) (by kernel_rfl) (fun _ _ _ h => h) hS (fun w' d1 => by go_simp) ?_
  try simp only [Act.put, List.setIfInBounds_toArray, List.set_cons_zero, List.set_cons_succ]
  refine zt [14, 15] (i := 13) rfl (.pointer (some ⟨s.p, 0, none⟩)) (by kernel_rfl) (by kernel_rfl) (by kernel_rfl) (by kernel_rfl) (fun _ _ _ h => h) hS (fun w' d1 => by go_simp) ?_
  try simp only [Act.put, List.setIfInBounds_toArray, List.set_cons_zero, List.set_cons_succ]
  refine z1 (i := 11) (by kernel_rfl) rfl (fun K hK => ?_)
  go_simp
  have hd := delete_any w.drew base g c i (s.L 1) (HI.out.2.2.2.heap (fun _ _ => rfl)) HI.out.2.1
  rw [← HM.out] at hd
  refine hd.mono ?_
  rintro e w1 ⟨rfl, hW1, hgr, _⟩
  have hp1 : w1.heap[s.p]? = w.heap[s.p]? := hgr.block s.p hp (fun e => hgp (Option.some.inj e).symm)
  have hS1 : w1.cell? ⟨s.p, 1, none⟩ = some (sl8 g m c) := (World.cell?_of_block (w := w) (a := ⟨s.p, 1, none⟩) hp1).trans hc
  have hz1 : w1.frozen? ⟨s.p, 1, none⟩ = false := (World.frozen?_of_block (w := w) (a := ⟨s.p, 1, none⟩) hp1).trans (HI.out.1.frozen 1)
  have hgr' : w.grownBy w1 (some g) := ⟨hgr.os, hgr.tape, hgr.output, hgr.size, hgr.block⟩
  have HE := Lib.hid (removed HI.out.1 (by omega) HI.out.2.2.1 hW1 hgr')
  rw [← HM.out] at HE ⊢
  clear hd hW1 hgr hgr' hp1 HI
  refine hK.out _ _ (.inr hS1) ?_
  clear hK K
  try simp only [Act.put, List.setIfInBounds_toArray, List.set_cons_zero, List.set_cons_succ]
  refine z1 (i := 14) (by kernel_rfl) rfl (fun K hK => ?_)
  go_simp
  refine hK.out _ _ (.inr hS1) ?_
  clear hK K
  try simp only [Act.put, List.setIfInBounds_toArray, List.set_cons_zero, List.set_cons_succ]
  refine z1 (i := 15) (by kernel_rfl) rfl (fun K hK => ?_)
  go_simp
  refine hK.out _ _ (.inl rfl) ?_
  clear hK K
  refine wpAnyZ_done (by kernel_rfl) ?_ _
  go_wp2
  go_end0
  exact ⟨rfl, HE.out⟩
theorem remove_ok (base : Nat) (s : St) (k i : Nat) (w : World) (hN : NetAt w base s) (hk : k < 2) (hi : i < (s.L k).length) :
    Calls Tryd.prog 29 #[.pointer (some ⟨s.p, 0, none⟩), .int .i64 (k : Int), .int .i64 (i : Int)] w fun e w' => e = .returned (.tuple #[]) ∧ Removed w base s k i w' := by
  rcases (show k = 0 ∨ k = 1 by omega) with rfl | rfl
  · exact remove_ok0 base s i w hN hi
  · exact remove_ok1 base s i w hN hi
/-- Methods that answer an error alone, where find answers one. -/
theorem err_two {w : World} {c : Int} {e : Ending} {w' : World} (h : Err2 w c e w') : ∃ T u ps, e = .returned (.tuple #[.slice none 0 0, .iface T u]) ∧ chain ps c = .iface T u ∧ Below w.heap.size w w' := by
  obtain ⟨ps, rfl, hb⟩ := h
  obtain ⟨T, u, hT⟩ := chain_iface ps c
  exact ⟨T, u, ps, by rw [hT], hT, hb⟩
set_option maxHeartbeats 1000000 in
set_option maxRecDepth 100000 in
theorem drop_bad (P k i : Value) (c : Int) (w : World) (h : Calls Tryd.prog 24 #[P, k, i] w (Err2 w c)) :
    Calls Tryd.prog 15 #[P, k, i] w (Err w c) := by
  have HF := Lib.hid h
  clear h
  go_enter Tryd.func15, Tryd.ntmps15
  go_wp2_with fail
  refine HF.out.mono ?_
  intro e w1 h
  obtain ⟨T, u, ps, rfl, hT, hb⟩ := err_two h
  have HB := Lib.hid (And.intro hb hT)
  clear hb hT h
  go_wp2
  go_ret
  exact ⟨ps, by rw [HB.out.2]; rfl, HB.out.1⟩
set_option maxHeartbeats 1000000 in
set_option maxRecDepth 100000 in
theorem deliver_bad (P k i : Value) (c : Int) (w : World) (h : Calls Tryd.prog 24 #[P, k, i] w (Err2 w c)) :
    Calls Tryd.prog 17 #[P, k, i] w (Err2 w c) := by
  have HF := Lib.hid h
  clear h
  go_enter Tryd.func17, Tryd.ntmps17
  go_wp2_with fail
  refine HF.out.mono ?_
  intro e w1 h
  obtain ⟨T, u, ps, rfl, hT, hb⟩ := err_two h
  have HB := Lib.hid (And.intro hb hT)
  clear hb hT h
  go_wp2
  go_ret2
  exact ⟨ps, by rw [HB.out.2]; rfl, HB.out.1⟩
set_option maxHeartbeats 1000000 in
set_option maxRecDepth 100000 in
theorem copy_bad (P k i : Value) (c : Int) (w : World) (h : Calls Tryd.prog 24 #[P, k, i] w (Err2 w c)) :
    Calls Tryd.prog 14 #[P, k, i] w (Err w c) := by
  have HF := Lib.hid h
  clear h
  go_enter Tryd.func14, Tryd.ntmps14
  go_wp2_with fail
  refine HF.out.mono ?_
  intro e w1 h
  obtain ⟨T, u, ps, rfl, hT, hb⟩ := err_two h
  have HB := Lib.hid (And.intro hb hT)
  clear hb hT h
  go_wp2
  go_ret
  exact ⟨ps, by rw [HB.out.2]; rfl, HB.out.1⟩
set_option maxHeartbeats 1000000 in
set_option maxRecDepth 100000 in
theorem flip_bad (P k i z : Value) (c : Int) (w : World) (h : Calls Tryd.prog 24 #[P, k, i] w (Err2 w c)) :
    Calls Tryd.prog 16 #[P, k, i, z] w (Err w c) := by
  have HF := Lib.hid h
  clear h
  go_enter Tryd.func16, Tryd.ntmps16
  go_wp2_with fail
  refine HF.out.mono ?_
  intro e w1 h
  obtain ⟨T, u, ps, rfl, hT, hb⟩ := err_two h
  have HB := Lib.hid (And.intro hb hT)
  clear hb hT h
  go_wp2
  go_ret
  exact ⟨ps, by rw [HB.out.2]; rfl, HB.out.1⟩
set_option maxHeartbeats 1000000 in
set_option maxRecDepth 100000 in
theorem drop_ok (base : Nat) (s : St) (k i : Nat) (w : World) (hN : NetAt w base s) (hk : k < 2) (hi : i < (s.L k).length) :
    Calls Tryd.prog 15 #[.pointer (some ⟨s.p, 0, none⟩), .int .i64 (k : Int), .int .i64 (i : Int)] w fun e w' => e = .returned .nilIface ∧ Removed w base s k i w' := by
  have HF := Lib.hid (find_ok base s k i _ w hN hk (List.getElem?_eq_getElem hi))
  have HR := Lib.hid (remove_ok base s k i w hN hk hi)
  unfold frV at HF
  generalize (s.L k)[i] = x at HF
  clear hN hk hi
  go_enter Tryd.func15, Tryd.ntmps15
  go_wp2_with fail
  refine HF.out.mono ?_
  rintro e w1 ⟨rfl, rfl⟩
  go_wp2_with fail
  refine HR.out.mono ?_
  rintro e w1 ⟨rfl, h⟩
  have HB := Lib.hid h
  clear h
  go_wp2
  go_ret
  exact ⟨rfl, HB.out⟩
set_option maxHeartbeats 1000000 in
set_option maxRecDepth 100000 in
theorem deliver_ok (base : Nat) (s : St) (k i : Nat) (x : Fr) (w : World) (hN : NetAt w base s) (hk : k < 2) (hx : (s.L k)[i]? = some x) :
    Calls Tryd.prog 17 #[.pointer (some ⟨s.p, 0, none⟩), .int .i64 (k : Int), .int .i64 (i : Int)] w fun e w' => e = .returned (.tuple #[frV x, .nilIface]) ∧ Removed w base s k i w' := by
  have HF := Lib.hid (find_ok base s k i x w hN hk hx)
  have HR := Lib.hid (remove_ok base s k i w hN hk (List.getElem?_eq_some_iff.1 hx).1)
  unfold frV at HF ⊢
  clear hN hk hx
  go_enter Tryd.func17, Tryd.ntmps17
  go_wp2_with fail
  refine HF.out.mono ?_
  rintro e w1 ⟨rfl, rfl⟩
  go_wp2_with fail
  refine HR.out.mono ?_
  rintro e w1 ⟨rfl, h⟩
  have HB := Lib.hid h
  clear h
  go_wp2
  go_ret2
  exact ⟨rfl, HB.out⟩
set_option maxHeartbeats 1000000 in
set_option maxRecDepth 100000 in
theorem send_way (P : Value) (z : Int) (A : Option Addr) (n c : Nat) (w : World) (hg : Handle w) (hz : z < 0 ∨ 2 ≤ z) :
    Calls Tryd.prog 12 #[P, .int .i64 z, .slice A n c] w (Err w 1) := by
  have HC := Lib.hid (checkWay_bad P z w hg hz)
  clear hz hg
  go_enter Tryd.func12, Tryd.ntmps12
  go_wp2_with fail
  refine HC.out.mono ?_
  rintro e w1 ⟨ps, rfl, hb⟩
  obtain ⟨T, u, hT⟩ := chain_iface ps 1
  have HB := Lib.hid (And.intro hb hT)
  rw [hT]
  clear hb hT
  go_wp2
  go_ret
  exact ⟨ps, by rw [HB.out.2]; rfl, HB.out.1⟩
set_option maxHeartbeats 1000000 in
set_option maxRecDepth 100000 in
theorem send_full (base : Nat) (s : St) (k : Nat) (w : World) (A : Option Addr) (n c : Nat) (hN : NetAt w base s) (hk : k < 2) (hg : Handle w) (hl : (s.L k).length = 64) :
    Calls Tryd.prog 12 #[.pointer (some ⟨s.p, 0, none⟩), .int .i64 (k : Int), .slice A n c] w (Err w 5) := by
  have HC := Lib.hid (checkWay_ok (.pointer (some ⟨s.p, 0, none⟩)) k w hk)
  have HA := Lib.hid (add_full base s k w A n c hN hk hg hl)
  clear hN hk hg hl
  go_enter Tryd.func12, Tryd.ntmps12
  go_wp2_with fail
  refine HC.out.mono ?_
  rintro e w1 ⟨rfl, rfl⟩
  go_wp2_with fail
  refine HA.out.mono ?_
  rintro e w1 ⟨ps, rfl, hb⟩
  have HB := Lib.hid hb
  clear hb
  go_wp2
  go_ret
  exact ⟨ps, rfl, HB.out⟩
set_option maxHeartbeats 1000000 in
set_option maxRecDepth 100000 in
theorem send_ok (base : Nat) (s : St) (k : Nat) (w : World) (A : Option Addr) (n c : Nat) (f : Nat → Nat) (hN : NetAt w base s) (hk : k < 2) (hl : (s.L k).length < 64) (hA : AtBO w A n f) (hf : ∀ i, f i < 256) (hn : n ≤ 140737488355328) (hbase : base ≤ w.heap.size) :
    Calls Tryd.prog 12 #[.pointer (some ⟨s.p, 0, none⟩), .int .i64 (k : Int), .slice A n c] w (Added w base s k n f) := by
  have HC := Lib.hid (checkWay_ok (.pointer (some ⟨s.p, 0, none⟩)) k w hk)
  have HA := Lib.hid (add_ok base s k w A n c f hN hk hl hA hf hn hbase)
  clear hN hk hl hA hf hn hbase
  go_enter Tryd.func12, Tryd.ntmps12
  go_wp2_with fail
  refine HC.out.mono ?_
  rintro e w1 ⟨rfl, rfl⟩
  go_wp2_with fail
  refine HA.out.mono ?_
  rintro e w1 ⟨rfl, h⟩
  have HB := Lib.hid h
  clear h
  go_wp2
  go_ret
  exact ⟨rfl, HB.out⟩
set_option maxHeartbeats 1000000 in
set_option maxRecDepth 100000 in
theorem copy_full (base : Nat) (s : St) (k i : Nat) (w : World) (hN : NetAt w base s) (hk : k < 2) (hi : i < (s.L k).length) (hg : Handle w) (hl : (s.L k).length = 64) :
    Calls Tryd.prog 14 #[.pointer (some ⟨s.p, 0, none⟩), .int .i64 (k : Int), .int .i64 (i : Int)] w (Err w 5) := by
  have HF := Lib.hid (find_ok base s k i _ w hN hk (List.getElem?_eq_getElem hi))
  unfold frV at HF
  generalize (s.L k)[i] = x at HF
  have HA := Lib.hid (add_full base s k w (some ⟨x.blk, 0, none⟩) x.len x.len hN hk hg hl)
  clear hN hk hg hl hi
  go_enter Tryd.func14, Tryd.ntmps14
  go_wp2_with fail
  refine HF.out.mono ?_
  rintro e w1 ⟨rfl, rfl⟩
  go_wp2_with fail
  refine HA.out.mono ?_
  rintro e w1 ⟨ps, rfl, hb⟩
  have HB := Lib.hid hb
  clear hb
  go_wp2
  go_ret
  exact ⟨ps, rfl, HB.out⟩
set_option maxHeartbeats 1000000 in
set_option maxRecDepth 100000 in
theorem copy_ok (base : Nat) (s : St) (k i : Nat) (x : Fr) (w : World) (hN : NetAt w base s) (hk : k < 2) (hx : (s.L k)[i]? = some x) (hl : (s.L k).length < 64) (hbase : base ≤ w.heap.size) :
    Calls Tryd.prog 14 #[.pointer (some ⟨s.p, 0, none⟩), .int .i64 (k : Int), .int .i64 (i : Int)] w (Added w base s k x.len x.dat) := by
  have HF := Lib.hid (find_ok base s k i x w hN hk hx)
  have hm := hN.fr k hk x (List.mem_of_getElem? hx)
  have HA := Lib.hid (add_ok base s k w (some ⟨x.blk, 0, none⟩) x.len x.len x.dat hN hk hl hm.atBO hm.lt hm.small hbase)
  unfold frV at HF
  clear hN hk hx hl hbase hm
  go_enter Tryd.func14, Tryd.ntmps14
  go_wp2_with fail
  refine HF.out.mono ?_
  rintro e w1 ⟨rfl, rfl⟩
  go_wp2_with fail
  refine HA.out.mono ?_
  rintro e w1 ⟨rfl, h⟩
  have HB := Lib.hid h
  clear h
  go_wp2
  go_ret
  exact ⟨rfl, HB.out⟩
end Go.Proofs.YtfilhlilagmhlaaDoor
