/- Contracts: New, Waiting, Err, cutFirst, Take, acknowledged. -/
import Derived.Test.YteadpnododjeaaaDoorLE1
namespace Go.Proofs.YteadpnododjeaaaDoor
open Go.RowKit

def En.new (p : Nat) : En := ⟨p, .slice none 0 0, [], 0, 0, 0, 0, .slice none 0 0, [], .slice none 0 0, [], .nilIface⟩
set_option maxHeartbeats 1000000 in
set_option maxRecDepth 100000 in
theorem new_any (w : World) : Calls Tryd.prog 15 #[] w fun e w' => e = .returned (.pointer (some ⟨w.heap.size, 0, none⟩)) ∧ w' = w.alloc (.cells (En.new w.heap.size).row 76) := by
  go_enter Tryd.func15, Tryd.ntmps15
  go_wp2
  go_ret
  exact ⟨rfl, rfl⟩
theorem endAt_new (w : World) (base : Nat) (hb : base ≤ w.heap.size) : EndAt (w.alloc (.cells (En.new w.heap.size).row 76)) base (En.new w.heap.size) where
  blk := heap_alloc_new w _
  lo := hb
  wq := Way.nil _ _
  wc := Way.nil _ _
  wo := Nums.nil _ _
  fq x hx := absurd hx (by simp [En.new])
  fc x hx := absurd hx (by simp [En.new])
  ap b h := by cases h
theorem own_new {w : World} {b : Nat} (h : (En.new w.heap.size).own b) : b = w.heap.size := by
  rcases h with h | h | h | h
  · exact h
  · cases h
  · cases h
  · cases h
set_option maxHeartbeats 1000000 in
set_option maxRecDepth 100000 in
theorem waiting_any (base : Nat) (s : En) (w : World) (h : EndAt w base s) :
    Calls Tryd.prog 25 #[.pointer (some ⟨s.p, 0, none⟩)] w fun e w' => e = .returned (.int .i64 (s.Q.length : Int)) ∧ w = w' := by
  obtain ⟨A, c, hv, _⟩ := h.wq.slice
  have hc : w.cell? ⟨s.p, 0, none⟩ = some s.qv := h.cell 0
  rw [hv] at hc
  clear h hv
  go_enter Tryd.func25, Tryd.ntmps25
  go_wp2
  go_ret
  exact ⟨rfl, rfl⟩
set_option maxHeartbeats 1000000 in
set_option maxRecDepth 100000 in
theorem err_any (base : Nat) (s : En) (w : World) (h : EndAt w base s) :
    Calls Tryd.prog 27 #[.pointer (some ⟨s.p, 0, none⟩)] w fun e w' => e = .returned s.er ∧ w = w' := by
  have hc : w.cell? ⟨s.p, 7, none⟩ = some s.er := h.cell 7
  clear h
  go_enter Tryd.func27, Tryd.ntmps27
  go_wp2
  go_ret
  exact ⟨rfl, rfl⟩
/-- What cutFirst answers. -/
def Cut (w : World) (g o n c : Nat) (x : Fr) (e : Ending) (w' : World) : Prop :=
  e = .returned (.tuple #[frV x, .slice (tl (some ⟨g, o, none⟩) c 1) n (c - 1)]) ∧ ∃ q, w' = (w.setCell ⟨g, o, none⟩ (.slice none 0 0)).drewN q
set_option maxHeartbeats 1000000 in
set_option maxRecDepth 100000 in
theorem cutFirst_any (g o n c : Nat) (x : Fr) (w : World) (h1 : w.cell? ⟨g, o, none⟩ = some (frV x)) (h2 : w.frozen? ⟨g, o, none⟩ = false) :
    Calls Tryd.prog 38 #[.slice (some ⟨g, o, none⟩) (n + 1) c] w (Cut w g o n c x) := by
  have h3 : ∀ wx, (Instr.slice 27 (.slice (some ⟨g, o, none⟩) (n + 1) c) (some (.int .i64 1)) none none).run Tryd.prog wx = .ok (.slice (tl (some ⟨g, o, none⟩) c 1) n (c - 1)) wx := fun wx => run_tailW wx (some ⟨g, o, none⟩) (n + 1) c 1 (by omega)
  have h4 : (0 : Int) < (n : Int) + 1 := by omega
  unfold frV at h1
  obtain ⟨A, hA⟩ : ∃ A, A = tl (some ⟨g, o, none⟩) c 1 := ⟨_, rfl⟩
  rw [← hA] at h3
  have HA := Lib.hid hA
  clear hA
  obtain ⟨d, hd⟩ : ∃ d, d = c - 1 := ⟨_, rfl⟩
  rw [← hd] at h3
  have HD := Lib.hid hd
  clear hd
  go_enter Tryd.func38, Tryd.ntmps38
  go_wp2
  go_quiet (fail)
  go_wp2
  go_ret2
  exact ⟨by rw [← HA.out, ← HD.out]; rfl, _, rfl⟩
end Go.Proofs.YteadpnododjeaaaDoor
