/- Contracts: add, Send. -/
import Derived.Test.YtfilhlilagmhlaaDoorNN2
import Derived.Test.YtfilhlilagmhlaaDoorBQ1
namespace Go.Proofs.YtfilhlilagmhlaaDoor
open Go.RowKit

theorem Tryd.infoBs : (Tryd.prog.info? 32).map (fun i => (i.zero, i.size, i.bytes)) = some (some (.slice none 0 0), 1, 24) := by kernel_rfl
theorem append_fr (w : World) (base : Nat) (v : Value) (L : List Fr) (x : Fr) (g : Nat) (hW : Way w base v L) (hc : w.cell? ⟨g, 0, none⟩ = some (frV x)) (hn : L.length < 64) (hbase : base ≤ w.heap.size) :
    ∃ v' w', (Builtin.append_ #[51, 51] 51 #[v, .slice (some ⟨g, 0, none⟩) 1 1]).run Tryd.prog w = .ok v' w' ∧ Way w' base v' (L ++ [x]) ∧ w.grownBy w' v.ownBlock ∧ (v'.ownBlock = v.ownBlock ∨ v'.ownBlock = some w.heap.size) := by
  obtain ⟨i0, hi, hz0, hz1, hz2⟩ := info_parts Tryd.infoBs
  obtain ⟨v', w', hr, h2, h3, _, h5⟩ := run_append_own_at w base 51 51 32 i0 (.slice none 0 0) 1 24 Tryd.underlying51 hi hz0 hz1 hz2 rfl (by omega) v L.length _ hW ⟨g, 0, none⟩ 1 1 [frV x] rfl
    (fun j u hu => by
      rcases j with _ | j
      · have : frV x = u := by simpa using hu
        subst this
        rw [Addr.add_mid]; exact hc
      · simp at hu)
    (fun u hu => by obtain rfl := List.mem_singleton.1 hu; rfl) (by unfold maxLen; omega) (by omega) hbase
  refine ⟨v', w', hr, ?_, h3, h5⟩
  unfold Way
  rw [List.map_append, List.length_append]
  exact h2
theorem Way.len {w : World} {base : Nat} {v : Value} {L : List Fr} (h : Way w base v L) : ∃ A c, v = .slice A L.length c := let ⟨A, c, hv, _⟩ := h.slice; ⟨A, c, hv⟩
/-- The net's cell k holds another list. -/
theorem net_set {w w' : World} {base : Nat} {s : St} {k : Nat} (h : NetAt w base s) (hk : k < 2) (he : w'.heap[s.p]? = w.heap[s.p]?) (v : Value) (l : List Fr) :
    (w'.setCell ⟨s.p, k, none⟩ v).heap[s.p]? = some (.cells #[(s.put k v l).v 0, (s.put k v l).v 1] 55 (0, 0)) := by
  have hn := he.trans h.net
  simp only [World.setCell, Array.getElem?_modify, hn]
  rcases (show k = 0 ∨ k = 1 by omega) with rfl | rfl
  · simp [St.put]
  · simp [St.put]
theorem Way.set {w : World} {base : Nat} {v : Value} {L : List Fr} (h : Way w base v L) {p : Addr} (hp : v.ownBlock ≠ some p.block) (u : Value) : Way (w.setCell p u) base v L :=
  h.heap fun b hb => Below.heap_setCell w p u b (fun e => hp (by rw [← e]; exact hb))
theorem nodup_snoc {L : List Fr} {x : Fr} (h : (L.map Fr.blk).Nodup) (hx : ∀ y ∈ L, y.blk ≠ x.blk) : ((L ++ [x]).map Fr.blk).Nodup := by
  rw [List.map_append]
  refine List.nodup_append.2 ⟨h, by simp, ?_⟩
  intro a ha b hb
  obtain ⟨y, hy, rfl⟩ := List.mem_map.1 ha
  have : b = x.blk := by simpa using hb
  rw [this]
  exact hx y hy
/-- What add leaves: a frame more, new. -/
def Added (w : World) (base : Nat) (s : St) (k n : Nat) (f : Nat → Nat) (e : Ending) (w' : World) : Prop :=
  e = .returned .nilIface ∧ ∃ v x, x.len = n ∧ x.dat = f ∧ w.heap.size ≤ x.blk ∧ NetAt w' base (s.put k v (s.L k ++ [x])) ∧ Grows s w (s.put k v (s.L k ++ [x])) ∧ Kept s w w'
set_option maxHeartbeats 1000000 in
set_option maxRecDepth 100000 in
theorem add_full (base : Nat) (s : St) (k : Nat) (w : World) (A : Option Addr) (n c : Nat) (hN : NetAt w base s) (hk : k < 2) (hg : Handle w) (hl : (s.L k).length = 64) :
    Calls Tryd.prog 27 #[.pointer (some ⟨s.p, 0, none⟩), .int .i64 (k : Int), .slice A n c] w (Err w 5) := by
  obtain ⟨B, d, hv, _⟩ := (hN.way k hk).slice
  have hc := hN.cell k hk
  rw [hv, hl] at hc
  have HW := Lib.hid (wrap_bare 5 (k : Int) sWay w hg)
  rw [bare] at HW
  clear hN hv hg hl
  rcases (show k = 0 ∨ k = 1 by omega) with rfl | rfl
  all_goals
    clear hk
    go_enter Tryd.func27, Tryd.ntmps27
    go_wp2_with fail
    refine HW.out.mono ?_
    rintro e w1 ⟨rfl, hb⟩
    have HB := Lib.hid hb
    clear hb
    go_wp2
    go_ret
    exact ⟨_, rfl, HB.out⟩
/-- What lies behind add's statement. -/
theorem added {w w1 w3 : World} {base : Nat} {s : St} {k n : Nat} {f : Nat → Nat} {v' : Value} {g : Nat} (hN : NetAt w base s) (hk : k < 2) (hl : (s.L k).length < 64) (hf : ∀ i, f i < 256) (hn : n ≤ 140737488355328)
    (ho : OwnB w1 w.heap.size n 5 f) (hb1 : Below w.heap.size w w1) (hs1 : w1.heap.size = w.heap.size + 1) (hW : Way w3 base v' (s.L k ++ [⟨w.heap.size, n, f⟩]))
    (hgr : (w1.alloc (.cells #[frV ⟨w.heap.size, n, f⟩] 32)).grownBy w3 (s.v k).ownBlock) (hv : v'.ownBlock = (s.v k).ownBlock ∨ v'.ownBlock = some g) (hgg : w.heap.size ≤ g) (hbase : base ≤ w.heap.size) :
    Added w base s k n f (.returned .nilIface) (w3.setCell ⟨s.p, k, none⟩ v') := by
  have hne : ∀ b cur, w.heap[b]? = some (.cells cur 32 (0, 0)) → b ≠ s.p := fun b cur h => heap_ne h hN.net (by decide)
  have hvp : (s.v k).ownBlock ≠ some s.p := fun e => by
    obtain ⟨_, cur, h2⟩ := (hN.way k hk).block e
    exact hne _ _ h2 rfl
  have hold : ∀ b, b < w.heap.size → (s.v k).ownBlock ≠ some b → w3.heap[b]? = w.heap[b]? := fun b hb hvb => by
    rw [hgr.block b (by simp; omega) (Ne.symm hvb), Below.heap_alloc w1 _ b (by omega)]
    exact hb1.block b hb
  have hs3 : w.heap.size ≤ w3.heap.size := by have := hgr.size; simp at this; omega
  have hvlt : ∀ b, (s.v k).ownBlock = some b → b < w.heap.size := fun b hb => (hN.own_lt (.inr ⟨k, hk, .inl hb⟩)).1
  have hx3 : Lies w3 base ⟨w.heap.size, n, f⟩ := by
    refine ⟨?_, hbase, hf, hn⟩
    show w3.heap[w.heap.size]? = _
    rw [hgr.block _ (by simp; omega) (fun e => by have := hvlt _ e.symm; omega), Below.heap_alloc w1 _ _ (by omega)]
    exact ho
  have hp3 := hold s.p hN.p_lt hvp
  have hset : ∀ b, b ≠ s.p → (w3.setCell ⟨s.p, k, none⟩ v').heap[b]? = w3.heap[b]? := fun b hb => Below.heap_setCell w3 _ v' b hb
  have hps : (w3.setCell ⟨s.p, k, none⟩ v').heap.size = w3.heap.size := by simp [World.setCell]
  have hxl : ∀ x ∈ s.L k, x.blk < w.heap.size := fun x hx => (hN.fr k hk x hx).own.lt
  obtain ⟨h1, h2⟩ := hN.step (w' := w3.setCell ⟨s.p, k, none⟩ v') (v := v') (l := s.L k ++ [⟨w.heap.size, n, f⟩]) hk
    (fun b hb hbp hvb => (hset b hbp).trans (hold b hb hvb)) (net_set hN hk hp3 v' _)
    (hW.set (fun e => by
      rcases hv with hv | hv
      · exact hvp (hv.symm.trans e)
      · have h1 : g = s.p := Option.some.inj (hv.symm.trans e)
        have := hN.p_lt
        omega) v')
    (by
      rcases hv with hv | hv
      · exact .inl hv
      · exact .inr ⟨g, hv, hgg⟩)
    (fun x hx => by
      rcases List.mem_append.1 hx with hx | hx
      · exact .inl hx
      · obtain rfl := List.mem_singleton.1 hx
        exact .inr ⟨hx3.heap (hset _ (by have := hN.p_lt; show w.heap.size ≠ s.p; omega)), Nat.le_refl _⟩)
    (nodup_snoc (hN.nd k hk) fun y hy => by have := hxl y hy; show y.blk ≠ w.heap.size; omega)
    (by rw [List.length_append]; show (s.L k).length + 1 ≤ 64; omega)
  refine ⟨rfl, v', ⟨w.heap.size, n, f⟩, rfl, rfl, Nat.le_refl _, h1, h2, ⟨?_, ?_, ?_, by rw [hps]; exact hs3, fun b hb ho => ?_⟩⟩
  · exact (hgr.os.trans hb1.os)
  · exact (hgr.tape.trans hb1.tape)
  · exact (hgr.output.trans hb1.output)
  · exact (hset b fun e => ho (.inl e)).trans (hold b hb fun e => ho (.inr ⟨k, hk, .inl e⟩))
set_option maxHeartbeats 4000000 in
set_option maxRecDepth 100000 in
theorem add_ok0 (base : Nat) (s : St) (w : World) (A : Option Addr) (n c : Nat) (f : Nat → Nat) (hN : NetAt w base s) (hl : (s.L 0).length < 64) (hA : AtBO w A n f) (hf : ∀ i, f i < 256) (hn : n ≤ 140737488355328) (hbase : base ≤ w.heap.size) :
    Calls Tryd.prog 27 #[.pointer (some ⟨s.p, 0, none⟩), .int .i64 0, .slice A n c] w (Added w base s 0 n f) := by
  obtain ⟨B, d, hv, _⟩ := (hN.way 0 (by omega)).slice
  have hc := hN.cell 0 (by omega)
  have hz := hN.frozen 0
  obtain ⟨m, hm⟩ : ∃ m, m = (s.L 0).length := ⟨_, rfl⟩
  rw [← hm] at hv
  rw [hv] at hc
  have k1 : decide ((64 : Int) ≤ (m : Int)) = false := decide_eq_false (by omega)
  have k2 : decide (64 ≤ m) = false := decide_eq_false (by omega)
  have HI := Lib.hid (And.intro hN (And.intro hl (And.intro hf (And.intro hn (And.intro hbase (And.intro hA hv))))))
  have hp := hN.p_lt
  clear hN hl hf hn hbase hA hm hv
  go_enter Tryd.func27, Tryd.ntmps27
  go_wp2
  clear k1 k2
  refine region_z 15 (fun w' => w'.cell? ⟨s.p, 0, none⟩ = some (.slice B m d)) (by kernel_rfl) ?_
  have hS : w.drew.cell? ⟨s.p, 0, none⟩ = some (.slice B m d) := hc
  refine zt [15] (i := 0) rfl (.pointer (some ⟨s.p, 0, none⟩)) (by kernel_rfl) (by kernel_rfl) (by kernel_rfl) (by kernel_rfl) (fun _ _ _ h => h) hS (fun w' d1 => by go_simp) ?_
  try simp only [Act.put, List.setIfInBounds_toArray, List.set_cons_zero, List.set_cons_succ]
  refine zt [15] (i := 1) rfl (.int .i64 0) (by kernel_rfl) (by kernel_rfl) (by kernel_rfl) (by kernel_rfl) (fun _ _ _ h => h) hS (fun w' d1 => by go_simp) ?_
  try simp only [Act.put, List.setIfInBounds_toArray, List.set_cons_zero, List.set_cons_succ]
  refine zt [15] (i := 2) rfl (.pointer (some ⟨s.p, 0, none⟩)) (by kernel_rfl) (by kernel_rfl) (by kernel_rfl) (by kernel_rfl) (fun _ _ _ h => h) hS (fun w' d1 => by go_simp) ?_
  try simp only [Act.put, List.setIfInBounds_toArray, List.set_cons_zero, List.set_cons_succ]
  refine zt [15] (i := 3) rfl (.int .i64 0) (by kernel_rfl) (by kernel_rfl) (by kernel_rfl) (by kernel_rfl) (fun _ _ _ h => h) hS (fun w' d1 => by go_simp) ?_
  try simp only [Act.put, List.setIfInBounds_toArray, List.set_cons_zero, List.set_cons_succ]
  refine zt [15] (i := 4) rfl (.pointer (some ⟨s.p, 0, none⟩)) (by kernel_rfl) (by kernel_rfl) (by kernel_rfl) (by kernel_rfl) (fun _ _ _ h => h) hS (fun w' d1 => by go_simp) ?_
  try simp only [Act.put, List.setIfInBounds_toArray, List.set_cons_zero, List.set_cons_succ]
  refine zt [15] (i := 5) rfl (.pointer (some ⟨s.p, 0, none⟩)) (by kernel_rfl) (by kernel_rfl) (by kernel_rfl) (by kernel_rfl) (fun _ _ _ h => h) hS (fun w' d1 => by go_simp) ?_
  try simp only [Act.put, List.setIfInBounds_toArray, List.set_cons_zero, List.set_cons_succ]
  refine zt [15] (i := 6) rfl (.pointer (some ⟨s.p, 0, none⟩)) (by kernel_rfl) (by kernel_rfl) (by kernel_rfl) (by kernel_rfl) (fun _ _ _ h => h) hS (fun w' d1 => by go_simp) ?_
  try simp only [Act.put, List.setIfInBounds_toArray, List.set_cons_zero, List.set_cons_succ]
  refine zt [15] (i := 7) rfl (.slice B m d) (by kernel_rfl) (by kernel_rfl) (by kernel_rfl) (by kernel_rfl) (fun _ _ _ h => h) hS (fun w' d1 => by go_simp) ?_
  try simp only [Act.put, List.setIfInBounds_toArray, List.set_cons_zero, List.set_cons_succ]
  refine zt [15] (i := 8) rfl (.slice A n c) (by kernel_rfl) (by kernel_rfl) (by kernel_rfl) (by kernel_rfl) (fun _ _ _ h => h) hS (fun w' d1 => by go_simp) ?_
  try simp only [Act.put, List.setIfInBounds_toArray, List.set_cons_zero, List.set_cons_succ]
  refine zt [13, 14, 15] (i := 12) rfl (.pointer (some ⟨s.p, 0, none⟩)) (by kernel_rfl) (by kernel_rfl) (by kernel_rfl) (by kernel_rfl) (fun _ _ _ h => h) hS (fun w' d1 => by go_simp) ?_
  try simp only [Act.put, List.setIfInBounds_toArray, List.set_cons_zero, List.set_cons_succ]
  refine zt [14, 15] (i := 13) rfl (.pointer (some ⟨s.p, 0, none⟩)) (by kernel_rfl) (by kernel_rfl) (by kernel_rfl) (by kernel_rfl) (fun _ _ _ h => h) hS (fun w' d1 => by go_simp) ?_
  try simp only [Act.put, List.setIfInBounds_toArray, List.set_cons_zero, List.set_cons_succ]
  refine z1 (i := 9) (by kernel_rfl) rfl (fun K hK => ?_)
  go_simp
  refine (copyOf_any A n c f w.drew HI.out.2.2.2.2.2.1 HI.out.2.2.2.1).mono ?_
  rintro e w1 ⟨rfl, ho, hb1, hs1⟩
  have hS1 : w1.cell? ⟨s.p, 0, none⟩ = some (.slice B m d) := (hb1.cell (p := ⟨s.p, 0, none⟩) hp).trans hS
  refine hK.out _ _ (.inr hS1) ?_
  clear hK K
  try simp only [Act.put, List.setIfInBounds_toArray, List.set_cons_zero, List.set_cons_succ]
  have hb1' : Below w.heap.size w w1 := ((Below.refl w.heap.size w).drew).trans hb1
  have hs1' : w1.heap.size = w.heap.size + 1 := hs1
  have ho' : OwnB w1 w.heap.size n 5 f := ho
  have hN1 := HI.out.1.below hb1'
  obtain ⟨v', w3, hr, hW, hgr, hvb⟩ := append_fr (w1.alloc (.cells #[frV ⟨w.heap.size, n, f⟩] 32)) base (s.v 0) (s.L 0) ⟨w.heap.size, n, f⟩ w1.heap.size ((hN1.way 0 (by omega)).heap (fun b hb => Below.heap_alloc w1 _ b (hN1.own_lt (.inr ⟨0, by omega, .inl hb⟩)).1)) (by simp) HI.out.2.1 (by have := HI.out.2.2.2.2.1; simp; omega)
  have hS3 : w3.cell? ⟨s.p, 0, none⟩ = some (.slice B m d) := by
    have h1 : w3.heap[s.p]? = (w1.alloc (.cells #[frV ⟨w.heap.size, n, f⟩] 32)).heap[s.p]? := hgr.block s.p (by simp; omega) (fun e => by
      obtain ⟨_, cur, h2⟩ := (HI.out.1.way 0 (by omega)).block e.symm
      exact heap_ne h2 HI.out.1.net (by decide) rfl)
    rw [World.cell?_of_block (w := w1.alloc (.cells #[frV ⟨w.heap.size, n, f⟩] 32)) h1, World.cell?_alloc_lt _ _ ⟨s.p, 0, none⟩ (by show s.p < w1.heap.size; omega)]
    exact hS1
  have hz3 : w3.frozen? ⟨s.p, 0, none⟩ = false := by
    have h1 : w3.heap[s.p]? = (w1.alloc (.cells #[frV ⟨w.heap.size, n, f⟩] 32)).heap[s.p]? := hgr.block s.p (by simp; omega) (fun e => by
      obtain ⟨_, cur, h2⟩ := (HI.out.1.way 0 (by omega)).block e.symm
      exact heap_ne h2 HI.out.1.net (by decide) rfl)
    have h2 := (h1.trans (Below.heap_alloc w1 _ s.p (by omega))).trans (hb1'.block s.p hp)
    have h3 := h2.trans HI.out.1.net
    simp [World.frozen?, h3]
  rw [HI.out.2.2.2.2.2.2] at hr
  have HQ := Lib.hid hr
  have HE := Lib.hid (added HI.out.1 (by omega) HI.out.2.1 HI.out.2.2.1 HI.out.2.2.2.1 ho' hb1' hs1' hW hgr hvb (by simp; omega) HI.out.2.2.2.2.1)
  have hal : (w1.alloc (.cells #[frV ⟨w.heap.size, n, f⟩] 32)).cell? ⟨s.p, 0, none⟩ = some (.slice B m d) := by
    rw [World.cell?_alloc_lt _ _ ⟨s.p, 0, none⟩ (by show s.p < w1.heap.size; omega)]; exact hS1
  obtain ⟨A', c', hv', _⟩ := hW.slice
  generalize (_ ++ [_] : List Fr).length = m' at hv'
  rw [hv'] at HQ HE
  clear hv' hr hW hgr hvb hN1 ho ho' hb1 hb1' hs1 hs1' HI
  unfold frV at *
  refine z1 (i := 10) (by kernel_rfl) rfl (fun K hK => ?_)
  go_simp
  refine hK.out _ _ (.inr hal) ?_
  clear hK K
  try simp only [Act.put, List.setIfInBounds_toArray, List.set_cons_zero, List.set_cons_succ]
  refine z1 (i := 11) (by kernel_rfl) rfl (fun K hK => ?_)
  refine wp_append_run _ _ 51 rfl _ _ _ w3 rfl rfl HQ.out ?_
  refine hK.out _ _ (.inr hS3) ?_
  clear hK K
  try simp only [Act.put, List.setIfInBounds_toArray, List.set_cons_zero, List.set_cons_succ]
  refine z1 (i := 14) (by kernel_rfl) rfl (fun K hK => ?_)
  go_simp
  refine hK.out _ _ (.inr hS3) ?_
  clear hK K
  try simp only [Act.put, List.setIfInBounds_toArray, List.set_cons_zero, List.set_cons_succ]
  refine z1 (i := 15) (by kernel_rfl) rfl (fun K hK => ?_)
  go_simp
  refine hK.out _ _ (.inl rfl) ?_
  clear hK K
  refine wpAnyZ_done (by kernel_rfl) ?_ _
  go_wp2
  go_ret
  exact HE.out
set_option maxHeartbeats 4000000 in
set_option maxRecDepth 100000 in
theorem add_ok1 (base : Nat) (s : St) (w : World) (A : Option Addr) (n c : Nat) (f : Nat → Nat) (hN : NetAt w base s) (hl : (s.L 1).length < 64) (hA : AtBO w A n f) (hf : ∀ i, f i < 256) (hn : n ≤ 140737488355328) (hbase : base ≤ w.heap.size) :
    Calls Tryd.prog 27 #[.pointer (some ⟨s.p, 0, none⟩), .int .i64 1, .slice A n c] w (Added w base s 1 n f) := by
  obtain ⟨B, d, hv, _⟩ := (hN.way 1 (by omega)).slice
  have hc := hN.cell 1 (by omega)
  have hz := hN.frozen 1
  obtain ⟨m, hm⟩ : ∃ m, m = (s.L 1).length := ⟨_, rfl⟩
  rw [← hm] at hv
  rw [hv] at hc
  have k1 : decide ((64 : Int) ≤ (m : Int)) = false := decide_eq_false (by omega)
  have k2 : decide (64 ≤ m) = false := decide_eq_false (by omega)
  have HI := Lib.hid (And.intro hN (And.intro hl (And.intro hf (And.intro hn (And.intro hbase (And.intro hA hv))))))
  have hp := hN.p_lt
  clear hN hl hf hn hbase hA hm hv
  go_enter Tryd.func27, Tryd.ntmps27
  go_wp2
  clear k1 k2
  refine region_z 15 (fun w' => w'.cell? ⟨s.p, 1, none⟩ = some (.slice B m d)) (by kernel_rfl) ?_
  have hS : w.drew.cell? ⟨s.p, 1, none⟩ = some (.slice B m d) := hc
  refine zt [15] (i := 0) rfl (.pointer (some ⟨s.p, 0, none⟩)) (by kernel_rfl) (by kernel_rfl) (by kernel_rfl) (by kernel_rfl) (fun _ _ _ h => h) hS (fun w' d1 => by go_simp) ?_
  try simp only [Act.put, List.setIfInBounds_toArray, List.set_cons_zero, List.set_cons_succ]
  refine zt [15] (i := 1) rfl (.int .i64 1) (by kernel_rfl) (by kernel_rfl) (by kernel_rfl) (by kernel_rfl) (fun _ _ _ h => h) hS (fun w' d1 => by go_simp) ?_
  try simp only [Act.put, List.setIfInBounds_toArray, List.set_cons_zero, List.set_cons_succ]
  refine zt [15] (i := 2) rfl (.pointer (some ⟨s.p, 0, none⟩)) (by kernel_rfl) (by kernel_rfl) (by kernel_rfl) (by kernel_rfl) (fun _ _ _ h => h) hS (fun w' d1 => by go_simp) ?_
  try simp only [Act.put, List.setIfInBounds_toArray, List.set_cons_zero, List.set_cons_succ]
  refine zt [15] (i := 3) rfl (.int .i64 1) (by kernel_rfl) (by kernel_rfl) (by kernel_rfl) (by kernel_rfl) (fun _ _ _ h => h) hS (fun w' d1 => by go_simp) ?_
  try simp only [Act.put, List.setIfInBounds_toArray, List.set_cons_zero, List.set_cons_succ]
  refine zt [15] (i := 4) rfl (.pointer (some ⟨s.p, 0, none⟩)) (by kernel_rfl) (by kernel_rfl) (by kernel_rfl) (by kernel_rfl) (fun _ _ _ h => h) hS (fun w' d1 => by go_simp) ?_
  try simp only [Act.put, List.setIfInBounds_toArray, List.set_cons_zero, List.set_cons_succ]
  refine zt [15] (i := 5) rfl (.pointer (some ⟨s.p, 0, none⟩)) (by kernel_rfl) (by kernel_rfl) (by kernel_rfl) (by kernel_rfl) (fun _ _ _ h => h) hS (fun w' d1 => by go_simp) ?_
  try simp only [Act.put, List.setIfInBounds_toArray, List.set_cons_zero, List.set_cons_succ]
  refine zt [15] (i := 6) rfl (.pointer (some ⟨s.p, 1, none⟩)) (by kernel_rfl) (by kernel_rfl) (by kernel_rfl) (by kernel_rfl) (fun _ _ _ h => h) hS (fun w' d1 => by go_simp) ?_
  try simp only [Act.put, List.setIfInBounds_toArray, List.set_cons_zero, List.set_cons_succ]
  refine zt [15] (i := 7) rfl (.slice B m d) (by kernel_rfl) (by kernel_rfl) (by kernel_rfl) (by kernel_rfl) (fun _ _ _ h => h) hS (fun w' d1 => by go_simp) ?_
  try simp only [Act.put, List.setIfInBounds_toArray, List.set_cons_zero, List.set_cons_succ]
  refine zt [15] (i := 8) rfl (.slice A n c) (by kernel_rfl) (by kernel_rfl) (by kernel_rfl) (by kernel_rfl) (fun _ _ _ h => h) hS (fun w' d1 => by go_simp) ?_
  try simp only [Act.put, List.setIfInBounds_toArray, List.set_cons_zero, List.set_cons_succ]
  refine zt [13, 14, 15] (i := 12) rfl (.pointer (some ⟨s.p, 0, none⟩)) (by kernel_rfl) (by kernel_rfl) (by kernel_rfl) (by kernel_rfl) (fun _ _ _ h => h) hS (fun w' d1 => by go_simp) ?_
  try simp only [Act.put, List.setIfInBounds_toArray, List.set_cons_zero, List.set_cons_succ]
  refine zt [14, 15] (i := 13) rfl (.pointer (some ⟨s.p, 0, none⟩)) (by kernel_rfl) (by kernel_rfl) (by kernel_rfl) (by kernel_rfl) (fun _ _ _ h => h) hS (fun w' d1 => by go_simp) ?_
  try simp only [Act.put, List.setIfInBounds_toArray, List.set_cons_zero, List.set_cons_succ]
  refine z1 (i := 9) (by kernel_rfl) rfl (fun K hK => ?_)
  go_simp
  refine (copyOf_any A n c f w.drew HI.out.2.2.2.2.2.1 HI.out.2.2.2.1).mono ?_
  rintro e w1 ⟨rfl, ho, hb1, hs1⟩
  have hS1 : w1.cell? ⟨s.p, 1, none⟩ = some (.slice B m d) := (hb1.cell (p := ⟨s.p, 1, none⟩) hp).trans hS
  refine hK.out _ _ (.inr hS1) ?_
  clear hK K
  try simp only [Act.put, List.setIfInBounds_toArray, List.set_cons_zero, List.set_cons_succ]
  have hb1' : Below w.heap.size w w1 := ((Below.refl w.heap.size w).drew).trans hb1
  have hs1' : w1.heap.size = w.heap.size + 1 := hs1
  have ho' : OwnB w1 w.heap.size n 5 f := ho
  have hN1 := HI.out.1.below hb1'
  obtain ⟨v', w3, hr, hW, hgr, hvb⟩ := append_fr (w1.alloc (.cells #[frV ⟨w.heap.size, n, f⟩] 32)) base (s.v 1) (s.L 1) ⟨w.heap.size, n, f⟩ w1.heap.size ((hN1.way 1 (by omega)).heap (fun b hb => Below.heap_alloc w1 _ b (hN1.own_lt (.inr ⟨1, by omega, .inl hb⟩)).1)) (by simp) HI.out.2.1 (by have := HI.out.2.2.2.2.1; simp; omega)
  have hS3 : w3.cell? ⟨s.p, 1, none⟩ = some (.slice B m d) := by
    have h1 : w3.heap[s.p]? = (w1.alloc (.cells #[frV ⟨w.heap.size, n, f⟩] 32)).heap[s.p]? := hgr.block s.p (by simp; omega) (fun e => by
      obtain ⟨_, cur, h2⟩ := (HI.out.1.way 1 (by omega)).block e.symm
      exact heap_ne h2 HI.out.1.net (by decide) rfl)
    rw [World.cell?_of_block (w := w1.alloc (.cells #[frV ⟨w.heap.size, n, f⟩] 32)) h1, World.cell?_alloc_lt _ _ ⟨s.p, 1, none⟩ (by show s.p < w1.heap.size; omega)]
    exact hS1
  have hz3 : w3.frozen? ⟨s.p, 1, none⟩ = false := by
    have h1 : w3.heap[s.p]? = (w1.alloc (.cells #[frV ⟨w.heap.size, n, f⟩] 32)).heap[s.p]? := hgr.block s.p (by simp; omega) (fun e => by
      obtain ⟨_, cur, h2⟩ := (HI.out.1.way 1 (by omega)).block e.symm
      exact heap_ne h2 HI.out.1.net (by decide) rfl)
    have h2 := (h1.trans (Below.heap_alloc w1 _ s.p (by omega))).trans (hb1'.block s.p hp)
    have h3 := h2.trans HI.out.1.net
    simp [World.frozen?, h3]
  rw [HI.out.2.2.2.2.2.2] at hr
  have HQ := Lib.hid hr
  have HE := Lib.hid (added HI.out.1 (by omega) HI.out.2.1 HI.out.2.2.1 HI.out.2.2.2.1 ho' hb1' hs1' hW hgr hvb (by simp; omega) HI.out.2.2.2.2.1)
  have hal : (w1.alloc (.cells #[frV ⟨w.heap.size, n, f⟩] 32)).cell? ⟨s.p, 1, none⟩ = some (.slice B m d) := by
    rw [World.cell?_alloc_lt _ _ ⟨s.p, 1, none⟩ (by show s.p < w1.heap.size; omega)]; exact hS1
  obtain ⟨A', c', hv', _⟩ := hW.slice
  generalize (_ ++ [_] : List Fr).length = m' at hv'
  rw [hv'] at HQ HE
  clear hv' hr hW hgr hvb hN1 ho ho' hb1 hb1' hs1 hs1' HI
  unfold frV at *
  refine z1 (i := 10) (by kernel_rfl) rfl (fun K hK => ?_)
  go_simp
  refine hK.out _ _ (.inr hal) ?_
  clear hK K
  try simp only [Act.put, List.setIfInBounds_toArray, List.set_cons_zero, List.set_cons_succ]
  refine z1 (i := 11) (by kernel_rfl) rfl (fun K hK => ?_)
  refine wp_append_run _ _ 51 rfl _ _ _ w3 rfl rfl HQ.out ?_
  refine hK.out _ _ (.inr hS3) ?_
  clear hK K
  try simp only [Act.put, List.setIfInBounds_toArray, List.set_cons_zero, List.set_cons_succ]
  refine z1 (i := 14) (by kernel_rfl) rfl (fun K hK => ?_)
  go_simp
  refine hK.out _ _ (.inr hS3) ?_
  clear hK K
  try simp only [Act.put, List.setIfInBounds_toArray, List.set_cons_zero, List.set_cons_succ]
  refine z1 (i := 15) (by kernel_rfl) rfl (fun K hK => ?_)
  go_simp
  refine hK.out _ _ (.inl rfl) ?_
  clear hK K
  refine wpAnyZ_done (by kernel_rfl) ?_ _
  go_wp2
  go_ret
  exact HE.out
theorem add_ok (base : Nat) (s : St) (k : Nat) (w : World) (A : Option Addr) (n c : Nat) (f : Nat → Nat) (hN : NetAt w base s) (hk : k < 2) (hl : (s.L k).length < 64) (hA : AtBO w A n f) (hf : ∀ i, f i < 256) (hn : n ≤ 140737488355328) (hbase : base ≤ w.heap.size) :
    Calls Tryd.prog 27 #[.pointer (some ⟨s.p, 0, none⟩), .int .i64 (k : Int), .slice A n c] w (Added w base s k n f) := by
  rcases (show k = 0 ∨ k = 1 by omega) with rfl | rfl
  · exact add_ok0 base s w A n c f hN hl hA hf hn hbase
  · exact add_ok1 base s w A n c f hN hl hA hf hn hbase
end Go.Proofs.YtfilhlilagmhlaaDoor
