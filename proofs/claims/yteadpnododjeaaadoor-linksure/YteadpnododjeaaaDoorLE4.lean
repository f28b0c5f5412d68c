/- Contract: Send. -/
import Derived.Test.YteadpnododjeaaaDoorLE3
import Derived.Test.YteadpnododjeaaaDoorEI
import Derived.Test.YteadpnododjeaaaDoorBQ2
namespace Go.Proofs.YteadpnododjeaaaDoor
open Go.RowKit

def sPayload : ByteArray := { data := #[112, 97, 121, 108, 111, 97, 100] }
def sWaiting : ByteArray := { data := #[119, 97, 105, 116, 105, 110, 103] }
theorem bare (c : Int) : chain [] c = .iface 44 (.int .i64 c) := rfl
/-- An error, with old memory left alone. -/
def Err (w : World) (c : Int) (e : Ending) (w' : World) : Prop := ∃ ps, e = .returned (chain ps c) ∧ Below w.heap.size w w'
set_option maxHeartbeats 1000000 in
set_option maxRecDepth 100000 in
/-- The end has an error: Send tells it. -/
theorem send_dead (base : Nat) (s : En) (ps : List (ByteArray × Int)) (k : Int) (A : Option Addr) (n c : Nat) (w : World) (h : EndAt w base s) (he : s.er = chain ps k) :
    Calls Tryd.prog 18 #[.pointer (some ⟨s.p, 0, none⟩), .slice A n c] w fun e w' => e = .returned (chain ps k) ∧ w = w' := by
  have hc : w.cell? ⟨s.p, 7, none⟩ = some s.er := h.cell 7
  obtain ⟨T, u, hT⟩ := chain_iface ps k
  rw [he, hT] at hc
  rw [hT]
  clear h he hT
  go_enter Tryd.func18, Tryd.ntmps18
  go_wp2
  go_ret
  exact ⟨rfl, rfl⟩
set_option maxHeartbeats 1000000 in
set_option maxRecDepth 100000 in
theorem send_long (base : Nat) (s : En) (A : Option Addr) (n c : Nat) (w : World) (h : EndAt w base s) (hg : Handle w) (he : s.er = .nilIface) (hn : 1048576 < n) :
    Calls Tryd.prog 18 #[.pointer (some ⟨s.p, 0, none⟩), .slice A n c] w (Err w 3) := by
  have hc : w.cell? ⟨s.p, 7, none⟩ = some s.er := h.cell 7
  rw [he] at hc
  have HW := Lib.hid (wrap_bare 3 (n : Int) sPayload w hg)
  rw [bare] at HW
  have hn1 : (1048576 : Int) < (n : Int) := by omega
  clear h he hg hn
  go_enter Tryd.func18, Tryd.ntmps18
  go_wp2_with fail
  refine HW.out.mono ?_
  rintro e w1 ⟨rfl, hb⟩
  have HB := Lib.hid hb
  clear hb
  go_wp2
  go_ret
  exact ⟨_, rfl, HB.out⟩
set_option maxHeartbeats 1000000 in
set_option maxRecDepth 100000 in
theorem send_full (base : Nat) (s : En) (A : Option Addr) (n c : Nat) (w : World) (h : EndAt w base s) (hg : Handle w) (he : s.er = .nilIface) (hn : n ≤ 1048576) (hl : 64 ≤ s.Q.length) :
    Calls Tryd.prog 18 #[.pointer (some ⟨s.p, 0, none⟩), .slice A n c] w (Err w 5) := by
  have hc : w.cell? ⟨s.p, 7, none⟩ = some s.er := h.cell 7
  rw [he] at hc
  have hc0 : w.cell? ⟨s.p, 0, none⟩ = some s.qv := h.cell 0
  obtain ⟨B, d, hv, _⟩ := h.wq.slice
  rw [hv] at hc0
  generalize s.Q.length = m at *
  have HW := Lib.hid (wrap_bare 5 (m : Int) sWaiting w hg)
  rw [bare] at HW
  have hn1 : ¬ (1048576 : Int) < (n : Int) := by omega
  have hl1 : (64 : Int) ≤ (m : Int) := by omega
  clear h he hg hn hl hv
  go_enter Tryd.func18, Tryd.ntmps18
  go_wp2_with fail
  refine HW.out.mono ?_
  rintro e w1 ⟨rfl, hb⟩
  have HB := Lib.hid hb
  clear hb
  go_wp2
  go_ret
  exact ⟨_, rfl, HB.out⟩
/-- What Send leaves: a payload more, new. -/
def Added (w : World) (base : Nat) (s : En) (n : Nat) (f : Nat → Nat) (e : Ending) (w' : World) : Prop :=
  e = .returned .nilIface ∧ ∃ v g, Goes w base s w' { s with qv := v, Q := s.Q ++ [⟨g, n, n, f⟩] } ∧ w.heap.size ≤ g
/-- What lies behind Send's last statement. -/
theorem added {w w1 w3 : World} {base : Nat} {s : En} {n g : Nat} {f : Nat → Nat} {v' : Value} (h : EndAt w base s) (hl : Lies w1 w.heap.size ⟨g, n, n, f⟩) (hb1 : Below w.heap.size w w1)
    (hW : Way w3 base v' (s.Q ++ [⟨g, n, n, f⟩])) (hgr : (w1.alloc (.cells #[frV ⟨g, n, n, f⟩] 23)).grownBy w3 s.qv.ownBlock)
    (hv : v'.ownBlock = s.qv.ownBlock ∨ v'.ownBlock = some (w1.heap.size + 1)) (hbase : base ≤ w.heap.size) : Added w base s n f (.returned .nilIface) (w3.setCell ⟨s.p, 0, none⟩ v') := by
  refine ⟨rfl, v', g, ?_, hl.lo⟩
  have hs1 := hb1.size
  have hgl := hl.inside
  have hlo := hl.lo
  have hg3 : w.grownBy w3 s.qv.ownBlock := ⟨hgr.os.trans hb1.os, hgr.tape.trans hb1.tape, hgr.output.trans hb1.output, by have := hgr.size; simp at this; omega, fun b hb hne => by
    rw [hgr.block b (by simp; omega) hne, Below.heap_alloc w1 _ b (by omega)]
    exact hb1.block b hb⟩
  refine h.list 0 v' _ (.inl rfl) hg3 rfl rfl (.inr ⟨hW, ?_, rfl⟩) (.inl ⟨rfl, rfl, fun b e e2 => h.ap b e2 e⟩) (.inl ⟨rfl, rfl, fun b e e2 => (h.o_ne e).1 e2⟩) (fun y hy => ?_) (fun y hy => .inl hy) (.inl rfl)
  · rcases hv with hv | hv
    · exact .inl hv
    · exact .inr ⟨_, hv, by omega⟩
  · rcases List.mem_append.1 hy with hy | hy
    · exact .inl hy
    · obtain rfl := List.mem_singleton.1 hy
      refine .inr ((hl.mono (Nat.le_trans hbase hlo)).heap ?_)
      rw [hgr.block g (by simp; show g < _; exact Nat.lt_succ_of_lt hgl) (fun e => by
        have := (h.own_lt (.inr (.inl e.symm))).1
        have : w.heap.size ≤ g := hlo
        omega), Below.heap_alloc w1 _ g hgl]
set_option maxHeartbeats 4000000 in
set_option maxRecDepth 100000 in
theorem send_ok (base : Nat) (s : En) (A : Option Addr) (n c : Nat) (f : Nat → Nat) (w : World) (h : EndAt w base s) (he : s.er = .nilIface) (hl : s.Q.length < 64) (hA : AtBO w A n f) (hf : ∀ i, f i < 256) (hn : n ≤ 1048576) (hbase : base ≤ w.heap.size) :
    Calls Tryd.prog 18 #[.pointer (some ⟨s.p, 0, none⟩), .slice A n c] w (Added w base s n f) := by
  have hc : w.cell? ⟨s.p, 0, none⟩ = some s.qv := h.cell 0
  have hc7 : w.cell? ⟨s.p, 7, none⟩ = some s.er := h.cell 7
  rw [he] at hc7
  obtain ⟨B, d, hv, _⟩ := h.wq.slice
  obtain ⟨m, hm⟩ : ∃ m, m = s.Q.length := ⟨_, rfl⟩
  rw [← hm] at hv
  rw [hv] at hc
  have k0 : ¬ (1048576 : Int) < (n : Int) := by omega
  have k1 : decide ((64 : Int) ≤ (m : Int)) = false := decide_eq_false (by omega)
  have k2 : decide (64 ≤ m) = false := decide_eq_false (by omega)
  have HI := Lib.hid (And.intro h (And.intro hl (And.intro hf (And.intro hn (And.intro hbase (And.intro hA hv))))))
  have hp := h.p_lt
  clear h hl hf hn hbase hA hm hv he
  go_enter Tryd.func18, Tryd.ntmps18
  go_wp2
  clear k0 k1 k2 hc7
  refine region_z 11 (fun w' => w'.cell? ⟨s.p, 0, none⟩ = some (.slice B m d)) (by kernel_rfl) ?_
  have hS : w.drew.cell? ⟨s.p, 0, none⟩ = some (.slice B m d) := hc
  refine zt [11] (i := 0) rfl (.pointer (some ⟨s.p, 0, none⟩)) (by kernel_rfl) (by kernel_rfl) (by kernel_rfl) (by kernel_rfl) (fun _ _ _ h => h) hS (fun w' d1 => by go_simp) ?_
  try simp only [Act.put, List.setIfInBounds_toArray, List.set_cons_zero, List.set_cons_succ]
  refine zt [11] (i := 1) rfl (.pointer (some ⟨s.p, 0, none⟩)) (by kernel_rfl) (by kernel_rfl) (by kernel_rfl) (by kernel_rfl) (fun _ _ _ h => h) hS (fun w' d1 => by go_simp) ?_
  try simp only [Act.put, List.setIfInBounds_toArray, List.set_cons_zero, List.set_cons_succ]
  refine zt [11] (i := 2) rfl (.pointer (some ⟨s.p, 0, none⟩)) (by kernel_rfl) (by kernel_rfl) (by kernel_rfl) (by kernel_rfl) (fun _ _ _ h => h) hS (fun w' d1 => by go_simp) ?_
  try simp only [Act.put, List.setIfInBounds_toArray, List.set_cons_zero, List.set_cons_succ]
  refine zt [11] (i := 3) rfl (.pointer (some ⟨s.p, 0, none⟩)) (by kernel_rfl) (by kernel_rfl) (by kernel_rfl) (by kernel_rfl) (fun _ _ _ h => h) hS (fun w' d1 => by go_simp) ?_
  try simp only [Act.put, List.setIfInBounds_toArray, List.set_cons_zero, List.set_cons_succ]
  refine zt [11] (i := 4) rfl (.slice B m d) (by kernel_rfl) (by kernel_rfl) (by kernel_rfl) (by kernel_rfl) (fun _ _ _ h => h) hS (fun w' d1 => by go_simp) ?_
  try simp only [Act.put, List.setIfInBounds_toArray, List.set_cons_zero, List.set_cons_succ]
  refine zt [11] (i := 5) rfl (.slice A n c) (by kernel_rfl) (by kernel_rfl) (by kernel_rfl) (by kernel_rfl) (fun _ _ _ h => h) hS (fun w' d1 => by go_simp) ?_
  try simp only [Act.put, List.setIfInBounds_toArray, List.set_cons_zero, List.set_cons_succ]
  refine z1 (i := 6) (by kernel_rfl) rfl (fun K hK => ?_)
  go_simp
  refine (copyOf_any A n c f w.drew HI.out.2.2.2.2.2.1 HI.out.2.2.1 (by have := HI.out.2.2.2.1; omega)).mono ?_
  rintro e w1 ⟨rfl, ho, hb1, hs1⟩
  have hS1 : w1.cell? ⟨s.p, 0, none⟩ = some (.slice B m d) := (hb1.cell (p := ⟨s.p, 0, none⟩) hp).trans hS
  refine hK.out _ _ (.inr hS1) ?_
  clear hK K
  try simp only [Act.put, List.setIfInBounds_toArray, List.set_cons_zero, List.set_cons_succ]
  have hb1' : Below w.heap.size w w1 := ((Below.refl w.heap.size w).drew).trans hb1
  have ho' : Lies w1 w.heap.size ⟨w.heap.size, n, n, f⟩ := ho
  have hN1 := HI.out.1.below hb1'
  have hps : s.p < w1.heap.size := hN1.p_lt
  obtain ⟨v', w3, hr, hW, hgr, hvb⟩ := append_fr (w1.alloc (.cells #[frV ⟨w.heap.size, n, n, f⟩] 23)) base s.qv s.Q ⟨w.heap.size, n, n, f⟩ w1.heap.size (hN1.wq.heap (fun b hb => Below.heap_alloc w1 _ b (hN1.own_lt (.inr (.inl hb))).1)) (by simp) (by have := HI.out.2.1; omega) (by have := HI.out.2.2.2.2.1; have := hb1'.size; simp; omega)
  have hh3 : w3.heap[s.p]? = w1.heap[s.p]? := by
    rw [hgr.block s.p (by simp; omega) (fun e => HI.out.1.p_ne.1 e.symm), Below.heap_alloc w1 _ s.p hps]
  have hS3 : w3.cell? ⟨s.p, 0, none⟩ = some (.slice B m d) := (World.cell?_of_block (a := ⟨s.p, 0, none⟩) hh3).trans hS1
  have hz3 : w3.frozen? ⟨s.p, 0, none⟩ = false := (World.frozen?_of_block (a := ⟨s.p, 0, none⟩) hh3).trans (hN1.frozen 0)
  rw [HI.out.2.2.2.2.2.2] at hr
  have HQ := Lib.hid hr
  have hvb' : v'.ownBlock = s.qv.ownBlock ∨ v'.ownBlock = some (w1.heap.size + 1) := by simpa using hvb
  have HE := Lib.hid (added HI.out.1 ho' hb1' hW hgr hvb' HI.out.2.2.2.2.1)
  have hal : (w1.alloc (.cells #[frV ⟨w.heap.size, n, n, f⟩] 23)).cell? ⟨s.p, 0, none⟩ = some (.slice B m d) := by
    rw [World.cell?_alloc_lt _ _ ⟨s.p, 0, none⟩ hps]; exact hS1
  obtain ⟨A', c', hv', _⟩ := hW.slice
  generalize (_ ++ [_] : List Fr).length = m' at hv'
  rw [hv'] at HQ HE
  clear hv' hr hW hgr hvb hvb' hN1 ho ho' hb1 hb1' hs1 HI hh3
  unfold frV at *
  refine z1 (i := 7) (by kernel_rfl) rfl (fun K hK => ?_)
  go_simp
  refine hK.out _ _ (.inr hal) ?_
  clear hK K
  try simp only [Act.put, List.setIfInBounds_toArray, List.set_cons_zero, List.set_cons_succ]
  refine z1 (i := 8) (by kernel_rfl) rfl (fun K hK => ?_)
  refine wp_append_run _ _ 27 rfl _ _ _ w3 rfl rfl HQ.out ?_
  refine hK.out _ _ (.inr hS3) ?_
  clear hK K
  try simp only [Act.put, List.setIfInBounds_toArray, List.set_cons_zero, List.set_cons_succ]
  refine z1 (i := 9) (by kernel_rfl) rfl (fun K hK => ?_)
  go_simp
  refine hK.out _ _ (.inr hS3) ?_
  clear hK K
  try simp only [Act.put, List.setIfInBounds_toArray, List.set_cons_zero, List.set_cons_succ]
  refine z1 (i := 10) (by kernel_rfl) rfl (fun K hK => ?_)
  go_simp
  refine hK.out _ _ (.inr hS3) ?_
  clear hK K
  try simp only [Act.put, List.setIfInBounds_toArray, List.set_cons_zero, List.set_cons_succ]
  refine z1 (i := 11) (by kernel_rfl) rfl (fun K hK => ?_)
  go_simp
  refine hK.out _ _ (.inl rfl) ?_
  clear hK K
  refine wpAnyZ_done (by kernel_rfl) ?_ _
  go_wp2
  go_ret
  exact HE.out
end Go.Proofs.YteadpnododjeaaaDoor
