/- Contract: Hear. -/
import Derived.Test.YteadpnododjeaaaDoorLE4
namespace Go.Proofs.YteadpnododjeaaaDoor
open Go.RowKit

theorem Tryd.infoU32 : (Tryd.prog.info? 22).map (fun i => (i.zero, i.size, i.bytes)) = some (some (.int .u32 0), 1, 4) := by kernel_rfl
theorem append_u32 (w : World) (base : Nat) (v : Value) (O : List Nat) (x g : Nat) (hW : Nums w base v O) (hc : w.cell? ⟨g, 0, none⟩ = some (.int .u32 (x : Int))) (hn : O.length ≤ 1000000) (hbase : base ≤ w.heap.size) :
    ∃ v' w', (Builtin.append_ #[37, 37] 37 #[v, .slice (some ⟨g, 0, none⟩) 1 1]).run Tryd.prog w = .ok v' w' ∧ Nums w' base v' (O ++ [x]) ∧ w.grownBy w' v.ownBlock ∧ (v'.ownBlock = v.ownBlock ∨ v'.ownBlock = some w.heap.size) := by
  obtain ⟨i0, hi, hz0, hz1, hz2⟩ := info_parts Tryd.infoU32
  obtain ⟨v', w', hr, h2, h3, _, h5⟩ := run_append_own_at w base 37 37 22 i0 (.int .u32 0) 1 4 Tryd.underlying37 hi hz0 hz1 hz2 rfl (by omega) v O.length _ hW ⟨g, 0, none⟩ 1 1 [.int .u32 (x : Int)] rfl
    (fun j u hu => by
      rcases j with _ | j
      · have : Value.int .u32 (x : Int) = u := by simpa using hu
        subst this
        rw [Addr.add_mid]; exact hc
      · simp at hu)
    (fun u hu => by obtain rfl := List.mem_singleton.1 hu; rfl) (by unfold maxLen; omega) (by omega) hbase
  refine ⟨v', w', hr, ?_, h3, h5⟩
  unfold Nums u32s
  rw [List.map_append, List.length_append]
  exact h2
section
variable {w : World} {base : Nat} {s : En}
/-- A number more is owed. -/
theorem app_o (h : EndAt w base s) (k : Nat) (hl : s.O.length ≤ 1000000) (hbase : base ≤ w.heap.size) :
    ∃ v' w3, (Builtin.append_ #[37, 37] 37 #[s.ov, .slice (some ⟨w.heap.size, 0, none⟩) 1 1]).run Tryd.prog (w.alloc (.cells #[.int .u32 (k : Int)] 22)) = .ok v' w3 ∧
      Goes w base s (w3.setCell ⟨s.p, 6, none⟩ v') { s with ov := v', O := s.O ++ [k] } ∧ (∃ A c, v' = .slice A (s.O.length + 1) c) ∧ (∀ j, w3.cell? ⟨s.p, j, none⟩ = w.cell? ⟨s.p, j, none⟩) ∧ ∀ j, w3.frozen? ⟨s.p, j, none⟩ = false := by
  have hb1 : Below w.heap.size w (w.alloc (.cells #[.int .u32 (k : Int)] 22)) := (Below.refl _ _).alloc (Nat.le_refl _) _
  obtain ⟨v', w3, hr, hW, hgr, hvb⟩ := append_u32 (w.alloc (.cells #[.int .u32 (k : Int)] 22)) base s.ov s.O k w.heap.size (h.below hb1).wo (by simp) hl (by simp; omega)
  have hg3 : w.grownBy w3 s.ov.ownBlock := ⟨hgr.os, hgr.tape, hgr.output, by have := hgr.size; simp at this; omega, fun b hb hne => (hgr.block b (by simp; omega) hne).trans (hb1.block b hb)⟩
  have hh : w3.heap[s.p]? = w.heap[s.p]? := hg3.block s.p h.p_lt fun e => h.p_ne.2.2 e.symm
  refine ⟨v', w3, hr, ?_, ?_, fun j => World.cell?_of_block (a := ⟨s.p, j, none⟩) hh, fun j => (World.frozen?_of_block (a := ⟨s.p, j, none⟩) hh).trans (h.frozen j)⟩
  · refine h.list 6 v' _ (.inr (.inr rfl)) hg3 rfl rfl (.inl ⟨rfl, rfl, fun b e e2 => (h.o_ne e2).1 e⟩) (.inl ⟨rfl, rfl, fun b e e2 => (h.o_ne e2).2 e⟩) (.inr ⟨hW, ?_⟩) (fun y hy => .inl hy) (fun y hy => .inl hy) (.inl rfl)
    rcases hvb with hv | hv
    · exact .inl hv
    · exact .inr ⟨_, hv, by simp⟩
  · obtain ⟨A, c, hv⟩ := hW.slice
    exact ⟨A, c, by rw [hv, List.length_append]; rfl⟩
/-- A payload more came. -/
theorem app_c (h : EndAt w base s) (x : Fr) (hx : Lies w base x) (hl : s.C.length ≤ 1000000) (hbase : base ≤ w.heap.size) :
    ∃ v' w3, (Builtin.append_ #[27, 27] 27 #[s.cv, .slice (some ⟨w.heap.size, 0, none⟩) 1 1]).run Tryd.prog (w.alloc (.cells #[frV x] 23)) = .ok v' w3 ∧
      Goes w base s (w3.setCell ⟨s.p, 5, none⟩ v') { s with cv := v', C := s.C ++ [x] } ∧ (∃ A c, v' = .slice A (s.C.length + 1) c) ∧ (∀ j, w3.cell? ⟨s.p, j, none⟩ = w.cell? ⟨s.p, j, none⟩) ∧ ∀ j, w3.frozen? ⟨s.p, j, none⟩ = false := by
  have hb1 : Below w.heap.size w (w.alloc (.cells #[frV x] 23)) := (Below.refl _ _).alloc (Nat.le_refl _) _
  obtain ⟨v', w3, hr, hW, hgr, hvb⟩ := append_fr (w.alloc (.cells #[frV x] 23)) base s.cv s.C x w.heap.size (h.below hb1).wc (by simp) hl (by simp; omega)
  have hg3 : w.grownBy w3 s.cv.ownBlock := ⟨hgr.os, hgr.tape, hgr.output, by have := hgr.size; simp at this; omega, fun b hb hne => (hgr.block b (by simp; omega) hne).trans (hb1.block b hb)⟩
  have hh : w3.heap[s.p]? = w.heap[s.p]? := hg3.block s.p h.p_lt fun e => h.p_ne.2.1 e.symm
  refine ⟨v', w3, hr, ?_, ?_, fun j => World.cell?_of_block (a := ⟨s.p, j, none⟩) hh, fun j => (World.frozen?_of_block (a := ⟨s.p, j, none⟩) hh).trans (h.frozen j)⟩
  · refine h.list 5 v' _ (.inr (.inl rfl)) hg3 rfl rfl (.inl ⟨rfl, rfl, fun b e e2 => h.ap b e e2⟩) (.inr ⟨hW, ?_, rfl⟩) (.inl ⟨rfl, rfl, fun b e e2 => (h.o_ne e).2 e2⟩) (fun y hy => .inl hy) (fun y hy => ?_) (.inr rfl)
    · rcases hvb with hv | hv
      · exact .inl hv
      · exact .inr ⟨_, hv, by simp⟩
    · rcases List.mem_append.1 hy with hy | hy
      · exact .inl hy
      · obtain rfl := List.mem_singleton.1 hy
        obtain ⟨cur, hcur⟩ := hx.block
        exact .inr (hx.heap (hg3.block _ hx.inside fun e => by
          obtain ⟨_, c, h2⟩ := h.wc.block e.symm
          exact heap_ne hcur h2 (by decide) rfl))
  · obtain ⟨A, c, hv, _⟩ := hW.slice
    exact ⟨A, c, by rw [hv, List.length_append]; rfl⟩
end
/-- What Hear leaves of data whose number is wanted, of data of a lower one, of an acknowledgement that is waited for. -/
def En.data (s : En) (v u : Value) (x : Fr) (k : Nat) : En := { s with cv := v, C := s.C ++ [x], want := s.want + 1, ov := u, O := s.O ++ [k] }
def En.owes (s : En) (u : Value) (k : Nat) : En := { s with ov := u, O := s.O ++ [k] }
def En.acked (s : En) (v : Value) (L : List Fr) : En := { s with qv := v, Q := L, num := s.num + 1, sent := 0 }
set_option maxHeartbeats 1000000 in
set_option maxRecDepth 100000 in
theorem hear_no (base : Nat) (s : En) (A : Option Addr) (n c : Nat) (f : Nat → Nat) (w : World) (h : EndAt w base s) (ht : Tab w) (hA : AtBO w A n f) (hf : ∀ i, f i < 256) (hc : n ≤ c) (hn : n ≤ 140737488355337) (hF : ¬ Link.isF f n) :
    Calls Tryd.prog 22 #[.pointer (some ⟨s.p, 0, none⟩), .slice A n c] w fun e w' => e = .returned (.bool false) ∧ Goes w base s w' s := by
  have HO := Lib.hid (open_any A n c f w ht hA hf hc hn)
  have HI := Lib.hid (And.intro h hF)
  clear h ht hA hf hc hn hF
  go_enter Tryd.func22, Tryd.ntmps22
  go_wp2_with fail
  refine HO.out.mono ?_
  rintro e w1 (⟨hF, _⟩ | ⟨_, rfl, hb⟩)
  · exact absurd hF HI.out.2
  have HB := Lib.hid (Goes.of_below HI.out.1 hb)
  clear hb HI HO
  go_wp2
  go_ret
  exact ⟨rfl, HB.out⟩
set_option maxHeartbeats 1000000 in
set_option maxRecDepth 100000 in
theorem hear_ack (base : Nat) (s : En) (A : Option Addr) (n c : Nat) (f : Nat → Nat) (w : World) (h : EndAt w base s) (ht : Tab w) (hA : AtBO w A n f) (hf : ∀ i, f i < 256) (hc : n ≤ c) (hn : n ≤ 140737488355337) (hF : Link.isF f n) (h1 : f 0 = 1) (R : Ending → World → Prop)
    (hack : ∀ w1, Below w.heap.size w w1 → Calls Tryd.prog 37 #[.pointer (some ⟨s.p, 0, none⟩), .int .u32 (Link.num f : Int)] w1 fun e w' => e = .returned (.tuple #[]) ∧ R (.returned (.bool true)) w') :
    Calls Tryd.prog 22 #[.pointer (some ⟨s.p, 0, none⟩), .slice A n c] w R := by
  have HO := Lib.hid (open_any A n c f w ht hA hf hc hn)
  have HI := Lib.hid (And.intro h (And.intro hF hack))
  have H1 := Lib.hid h1
  clear h ht hA hf hc hn hF hack h1
  go_enter Tryd.func22, Tryd.ntmps22
  go_wp2_with fail
  refine HO.out.mono ?_
  rintro e w1 (⟨_, g, rfl, hl, hb⟩ | ⟨hF, _⟩)
  · rw [H1.out]
    have HA := Lib.hid (HI.out.2.2 w1 hb)
    generalize Link.num f = N at HA ⊢
    unfold frV
    clear hl hb HI HO H1
    go_wp2_with fail
    refine HA.out.mono ?_
    rintro e w2 ⟨rfl, hR⟩
    have HR := Lib.hid hR
    clear hR HA
    go_wp2
    exact HR.out
  · exact absurd HI.out.2.1 hF
set_option maxHeartbeats 1000000 in
set_option maxRecDepth 100000 in
theorem hear_far (base : Nat) (s : En) (A : Option Addr) (n c : Nat) (f : Nat → Nat) (w : World) (h : EndAt w base s) (ht : Tab w) (hA : AtBO w A n f) (hf : ∀ i, f i < 256) (hc : n ≤ c) (hn : n ≤ 140737488355337) (hF : Link.isF f n) (h0 : f 0 = 0) (hk : s.want < Link.num f) :
    Calls Tryd.prog 22 #[.pointer (some ⟨s.p, 0, none⟩), .slice A n c] w fun e w' => e = .returned (.bool true) ∧ Goes w base s w' s := by
  have HO := Lib.hid (open_any A n c f w ht hA hf hc hn)
  have HI := Lib.hid (And.intro h (And.intro hF h0))
  have k1 : ((Link.num f : Int) == (s.want : Int)) = false := by rw [beq_eq_false_iff_ne]; omega
  have k2 : (Link.num f == s.want) = false := by rw [beq_eq_false_iff_ne]; omega
  have k3 : ¬ (Link.num f : Int) < (s.want : Int) := by omega
  have k4 : ¬ Link.num f < s.want := by omega
  clear h ht hA hf hc hn hF h0 hk
  go_enter Tryd.func22, Tryd.ntmps22
  go_wp2_with fail
  refine HO.out.mono ?_
  rintro e w1 (⟨_, g, rfl, hl, hb⟩ | ⟨hF, _⟩)
  · have hE1 := HI.out.1.below hb
    have c4 : w1.cell? ⟨s.p, 4, none⟩ = some (.int .u32 (s.want : Int)) := hE1.cell 4
    have HB := Lib.hid (Goes.of_below HI.out.1 hb)
    rw [HI.out.2.2]
    generalize Link.num f = N at k1 k2 k3 k4 ⊢
    generalize s.want = M at k1 k2 k3 k4 c4
    unfold frV
    clear hl hb HI HO hE1
    go_wp2
    go_ret
    exact ⟨rfl, HB.out⟩
  · exact absurd HI.out.2.1 hF
set_option maxHeartbeats 1000000 in
set_option maxRecDepth 100000 in
theorem hear_old (base : Nat) (s : En) (A : Option Addr) (n c : Nat) (f : Nat → Nat) (w : World) (h : EndAt w base s) (ht : Tab w) (hA : AtBO w A n f) (hf : ∀ i, f i < 256) (hc : n ≤ c) (hn : n ≤ 140737488355337) (hF : Link.isF f n) (h0 : f 0 = 0) (hk : Link.num f < s.want) (hl : s.O.length ≤ 1000000) (hbase : base ≤ w.heap.size) :
    Calls Tryd.prog 22 #[.pointer (some ⟨s.p, 0, none⟩), .slice A n c] w fun e w' => e = .returned (.bool true) ∧ ∃ u, Goes w base s w' (s.owes u (Link.num f)) := by
  have HO := Lib.hid (open_any A n c f w ht hA hf hc hn)
  have HI := Lib.hid (And.intro h (And.intro hF (And.intro h0 (And.intro hl hbase))))
  have k1 : ((Link.num f : Int) == (s.want : Int)) = false := by rw [beq_eq_false_iff_ne]; omega
  have k2 : (Link.num f == s.want) = false := by rw [beq_eq_false_iff_ne]; omega
  have k3 : (Link.num f : Int) < (s.want : Int) := by omega
  clear h ht hA hf hc hn hF h0 hk hl hbase
  go_enter Tryd.func22, Tryd.ntmps22
  go_wp2_with fail
  refine HO.out.mono ?_
  rintro e w1 (⟨_, g, rfl, hl, hb⟩ | ⟨hF, _⟩)
  · have hE1 := HI.out.1.below hb
    have c4 : w1.cell? ⟨s.p, 4, none⟩ = some (.int .u32 (s.want : Int)) := hE1.cell 4
    have c6 : w1.cell? ⟨s.p, 6, none⟩ = some s.ov := hE1.cell 6
    obtain ⟨v', w3, hr, hG, ⟨B2, d2, hv'⟩, hcc, hff⟩ := app_o hE1 (Link.num f) HI.out.2.2.2.1 (Nat.le_trans HI.out.2.2.2.2 hb.size)
    obtain ⟨B, d, hv⟩ := hE1.wo.slice
    have f6 := hff 6
    have c63 := (hcc 6).trans c6
    have HG := Lib.hid ((Goes.of_below HI.out.1 hb).trans hG)
    rw [hv] at c6 hr c63
    rw [hv'] at hr HG
    have HQ := Lib.hid hr
    rw [HI.out.2.2.1]
    generalize Link.num f = N at k1 k2 k3 HQ ⊢
    generalize s.want = M at k1 k2 k3 c4
    generalize s.O.length = m at HQ HG c6 c63
    unfold frV
    clear hl hb HI HO hE1 hr hG hcc hff hv hv'
    go_wp2_with (at_builtin; refine wpList_append_run rfl _ _ 37 rfl _ _ _ w3 rfl rfl HQ.out ?_)
    go_ret
    exact ⟨rfl, _, HG.out⟩
  · exact absurd HI.out.2.1 hF
set_option maxHeartbeats 2000000 in
set_option maxRecDepth 100000 in
theorem hear_new (base : Nat) (s : En) (A : Option Addr) (n c : Nat) (f : Nat → Nat) (w : World) (h : EndAt w base s) (ht : Tab w) (hA : AtBO w A n f) (hf : ∀ i, f i < 256) (hc : n ≤ c) (hn : n ≤ 140737488355337) (hF : Link.isF f n) (h0 : f 0 = 0) (hk : Link.num f = s.want) (hl : s.O.length ≤ 1000000) (hl2 : s.C.length ≤ 1000000) (hw : s.want + 1 < 4294967296) (hbase : base ≤ w.heap.size) :
    Calls Tryd.prog 22 #[.pointer (some ⟨s.p, 0, none⟩), .slice A n c] w fun e w' => e = .returned (.bool true) ∧ ∃ v u g, Goes w base s w' (s.data v u ⟨g, n - 9, n - 9, fun j => f (j + 5)⟩ (Link.num f)) ∧ w.heap.size ≤ g := by
  have HO := Lib.hid (open_any A n c f w ht hA hf hc hn)
  have HI := Lib.hid (And.intro h (And.intro hF (And.intro h0 (And.intro hl (And.intro hl2 (And.intro hk hbase))))))
  have e1 : IntKind.u32.wrap ((s.want : Int) + 1) = (s.want : Int) + 1 := by rw [u32w]; omega
  clear h ht hA hf hc hn hF h0 hk hl hbase hl2 hw
  go_enter Tryd.func22, Tryd.ntmps22
  go_wp2_with fail
  refine HO.out.mono ?_
  rintro e w1 (⟨_, g, rfl, hl, hb⟩ | ⟨hF, _⟩)
  · obtain ⟨h, hF, h0, hlo, hlc, hk, hbase⟩ := HI.out
    have hE1 := h.below hb
    have hb1 : base ≤ w1.heap.size := Nat.le_trans hbase hb.size
    have c4 : w1.cell? ⟨s.p, 4, none⟩ = some (.int .u32 (s.want : Int)) := hE1.cell 4
    have c5 : w1.cell? ⟨s.p, 5, none⟩ = some s.cv := hE1.cell 5
    have c6 : w1.cell? ⟨s.p, 6, none⟩ = some s.ov := hE1.cell 6
    obtain ⟨v', w3, hr, hG, ⟨B2, d2, hv'⟩, hcc, hff⟩ := app_c hE1 ⟨g, n - 9, n - 9, fun j => f (j + 5)⟩ (hl.mono (Nat.le_trans hbase hl.lo)) hlc hb1
    have hG2 := hG.at'.set (s' := { s with cv := v', C := s.C ++ [⟨g, n - 9, n - 9, fun j => f (j + 5)⟩], want := s.want + 1 }) 4 (.int .u32 ((s.want : Int) + 1)) rfl rfl rfl rfl rfl rfl (.inl ⟨rfl, rfl⟩)
    have hs3 : w1.heap.size ≤ w3.heap.size := by have := hG.kept.size; simpa [World.setCell] using this
    obtain ⟨v6, w6, hr6, hG6, ⟨B6, d6, hv6⟩, hcc6, hff6⟩ := app_o hG2.at' (Link.num f) hlo (by simp [World.setCell]; omega)
    obtain ⟨B, d, hv, _⟩ := hE1.wc.slice
    obtain ⟨B0, d0, hv0⟩ := hE1.wo.slice
    have hG' : Goes w base s (w6.setCell ⟨s.p, 6, none⟩ v6) (s.data v' v6 ⟨g, n - 9, n - 9, fun j => f (j + 5)⟩ (Link.num f)) := (((Goes.of_below h hb).trans hG).trans hG2).trans hG6
    have HG := Lib.hid (show ∃ v u g, Goes w base s (w6.setCell ⟨s.p, 6, none⟩ v6) (s.data v u ⟨g, n - 9, n - 9, fun j => f (j + 5)⟩ (Link.num f)) ∧ w.heap.size ≤ g from ⟨v', v6, g, hG', hl.lo⟩)
    have c34 := (hcc 4).trans c4
    have c35 := (hcc 5).trans c5
    have c36 := (hcc 6).trans c6
    have f34 := hff 4
    have f35 := hff 5
    have f66 : w6.frozen? ⟨s.p, 6, none⟩ = false := hff6 6
    have c66 : w6.cell? ⟨s.p, 6, none⟩ = some s.ov := (hcc6 6).trans (hG2.at'.cell 6)
    have e6 : ((w3.setCell ⟨s.p, 5, none⟩ v').setCell ⟨s.p, 4, none⟩ (.int .u32 ((s.want : Int) + 1))).heap.size = w3.heap.size := by simp [World.setCell]
    have hr7 : (Builtin.append_ #[37, 37] 37 #[s.ov, .slice (some ⟨w3.heap.size, 0, none⟩) 1 1]).run Tryd.prog (((w3.setCell ⟨s.p, 5, none⟩ v').setCell ⟨s.p, 4, none⟩ (.int .u32 ((s.want : Int) + 1))).alloc (.cells #[.int .u32 (Link.num f : Int)] 22)) = .ok v6 w6 := by rw [← e6]; exact hr6
    rw [hv] at c5 hr c35
    rw [hv0] at c6 hr7 c36 c66
    rw [hv'] at hr hr7
    rw [hv6] at hr7 HG
    have HQ := Lib.hid hr
    have HQ6 := Lib.hid hr7
    rw [h0, hk]
    rw [hk] at HQ6
    clear h hF h0 hlo hlc hk hbase hE1 hb1 hr hG hG2 hG6 hG' hcc hff hcc6 hff6 hr6 hr7 hv hv0 hv' hv6 HI HO hl hb e6 hs3
    generalize s.want = M at *
    generalize s.C.length = mc at *
    generalize s.O.length = mo at *
    unfold frV at *
    go_wp2_with (at_builtin; first | refine wpList_append_run rfl _ _ 27 rfl (.slice B mc d) (.slice (some ⟨w1.heap.size, 0, none⟩) 1 1) (.slice B2 (mc + 1) d2) w3 rfl rfl HQ.out ?_ | refine wpList_append_run rfl _ _ 37 rfl (.slice B0 mo d0) (.slice (some ⟨w3.heap.size, 0, none⟩) 1 1) (.slice B6 (mo + 1) d6) w6 rfl rfl HQ6.out ?_)
    go_ret
    exact ⟨rfl, HG.out⟩
  · exact absurd HI.out.2.1 hF
end Go.Proofs.YteadpnododjeaaaDoor
