/- Contract: Step. -/
import Derived.Test.YteadpnododjeaaaDoorLE6
namespace Go.Proofs.YteadpnododjeaaaDoor
open Go.RowKit

def sNumber : ByteArray := { data := #[110, 117, 109, 98, 101, 114] }
/-- What Step leaves. -/
def En.quietStep (s : En) : En := { s with ov := .slice none 0 0, O := [], ago := s.ago + 1 }
def En.sends (s : En) : En := { s with ov := .slice none 0 0, O := [], ago := 0, sent := s.sent + 1 }
def En.dies (s : En) (v : Value) : En := { s with ov := .slice none 0 0, O := [], ago := s.ago + 1, er := v }
/-- Nothing of the payload under way is to be sent now. -/
def En.idle (s : En) : Prop := s.Q = [] ∨ (0 < s.sent ∧ s.ago + 1 ≠ 4)
def Stepped (w : World) (base : Nat) (s : En) (e : Ending) (w' : World) : Prop :=
  ∃ v s', e = .returned v ∧ Goes w base s w' s' ∧
    ((s.idle ∧ s' = s.quietStep ∧ Outs w' w.heap.size v (acks s.O)) ∨
     (¬ s.idle ∧ 8 ≤ s.sent ∧ (∃ er ps, s' = s.dies er ∧ er = chain ps 70) ∧ Outs w' w.heap.size v (acks s.O)) ∨
     (¬ s.idle ∧ s.sent < 8 ∧ s' = s.sends ∧ ∃ x L, s.Q = x :: L ∧ Outs w' w.heap.size v (acks s.O ++ [dataOf s.num x])))
/-- Behind i rounds of Step's loop. -/
def SI (w : World) (O : List Nat) (i : Nat) (v : Value) (wr : World) : Prop := Below w.heap.size w wr ∧ Outs wr w.heap.size v (acks (O.take i))
theorem acks_len (O : List Nat) (i : Nat) (hi : i ≤ O.length) : (acks (O.take i)).length = i := by
  unfold acks
  rw [List.length_map, List.length_take]
  omega
theorem acks_succ (O : List Nat) (i x : Nat) (hx : O[i]? = some x) : acks (O.take (i + 1)) = acks (O.take i) ++ [(9, Link.sealB 1 x 0 fun _ => 0)] := by
  unfold acks
  rw [List.take_add_one, hx, List.map_append]
  rfl
theorem Goes.push {w w6 w3 : World} {base : Nat} {s s' : En} {v : Value} {S : List (Nat × (Nat → Nat))} (g : Goes w base s w6 s') (ho : Outs w6 w.heap.size v S) (hb : Below w.heap.size w6 w3)
    (hold : ∀ b, b < w6.heap.size → v.ownBlock ≠ some b → w3.heap[b]? = w6.heap[b]?) (hown : ∀ b, s'.own b → b < w.heap.size) : Goes w base s w3 s' := by
  refine ⟨g.at'.heap fun b hl hx => ?_, ⟨hb.os.trans g.kept.os, hb.tape.trans g.kept.tape, hb.output.trans g.kept.output, Nat.le_trans g.kept.size hb.size, fun b hl hn => (hb.block b hl).trans (g.kept.block b hl hn)⟩, g.grows, g.same⟩
  rcases hx with hx | ⟨cur, hx⟩
  · exact hb.block b (hown b hx)
  · refine hold b hl fun e => ?_
    obtain ⟨F, h1, _, _⟩ := ho
    obtain ⟨_, cur2, hc⟩ := h1.block e
    exact heap_ne hx hc (by decide) rfl
theorem Goes.outs {w w' : World} {base B : Nat} {s s' : En} {v : Value} {S : List (Nat × (Nat → Nat))} (hk : Goes w base s w' s') (ho : Outs w B v S) (hB : ∀ b, s.own b → b < B) : Outs w' B v S :=
  ho.heap fun b h1 h2 => hk.kept.block b h2 fun e => by have := hB b e; omega
theorem own_nil {s s' : En} {b : Nat} (hb : En.own { s' with p := s.p, qv := s.qv, cv := s.cv, ov := .slice none 0 0 } b) : s.own b := by
  rcases hb with h | h | h | h
  · exact .inl h
  · exact .inr (.inl h)
  · exact .inr (.inr (.inl h))
  · cases h
set_option maxHeartbeats 8000000 in
set_option maxRecDepth 100000 in
theorem step_any (base : Nat) (s : En) (w : World) (h : EndAt w base s) (ht : Tab w) (hg : Handle w) (he : s.er = .nilIface ∨ ∃ ps, s.er = chain ps 70) (hO : s.O.length ≤ 1000000) (ha : s.ago < 1000000000) (hs : s.sent < 1000000000) (hnum : s.num < 4294967296) (hbs : 2 ≤ base) (hon : ∀ k ∈ s.O, k < 4294967296) (hq : ∀ x ∈ s.Q, x.len ≤ 1048576) :
    Calls Tryd.prog 20 #[.pointer (some ⟨s.p, 0, none⟩)] w (Stepped w base s) := by
  have c6 : w.cell? ⟨s.p, 6, none⟩ = some s.ov := h.cell 6
  obtain ⟨A, d, hv⟩ := h.wo.slice
  rw [hv] at c6
  obtain ⟨m, hm⟩ : ∃ m, m = s.O.length := ⟨_, rfl⟩
  rw [← hm] at c6 hv
  have HI := Lib.hid (And.intro h (And.intro ht (And.intro hg (And.intro he (And.intro hO (And.intro ha (And.intro hs (And.intro hnum (And.intro hon (And.intro hm (And.intro hv (And.intro hq hbs))))))))))))
  clear h ht hg he hO ha hs hnum hon hm hv hq hbs
  go_enter Tryd.func20, Tryd.ntmps20
  go_wp2
  go_loopw [3, 11] (fun f t wr => ∃ i : Nat, t = .int .i64 i ∧ Hid (True ∧ i ≤ m) ∧ Hid (SI w s.O i f wr)) (fun _ t _ => m - (intOf t).toNat)
  case atStart => exact ⟨0, rfl, ⟨trivial, Nat.zero_le _⟩, Below.refl _ _, Outs.nil _ _⟩
  case round =>
    obtain ⟨i, rfl, HJ, HS⟩ := hrel
    by_cases hlt : i < m
    · have hi : i < s.O.length := by rw [← HI.out.2.2.2.2.2.2.2.2.2.1]; exact hlt
      obtain ⟨x, hx⟩ : ∃ x, s.O[i]? = some x := ⟨s.O[i], by simp [hi]⟩
      obtain ⟨g, c, hv2, hc⟩ := (HI.out.1.below HS.out.1).wo.cell hx
      rw [HI.out.2.2.2.2.2.2.2.2.2.2.1, HI.out.2.2.2.2.2.2.2.2.2.1] at hv2
      injection hv2 with hv2 _ hv3
      subst hv2 hv3
      have hx32 : x < 4294967296 := HI.out.2.2.2.2.2.2.2.2.1 x (List.mem_of_getElem? hx)
      have hlt1 : (i : Int) < (m : Int) := by omega
      have hm6 : m ≤ 1000000 := by rw [HI.out.2.2.2.2.2.2.2.2.2.1]; exact HI.out.2.2.2.2.1
      have e1 : IntKind.i64.wrap ((i : Int) + 1) = (i : Int) + 1 := i64_nat _ (by omega) (by omega)
      have HX := Lib.hid (And.intro hlt (And.intro hx (And.intro hx32 hm6)))
      obtain ⟨A3, d3, hv3⟩ := HS.out.2.slice
      rw [acks_len s.O i (by omega)] at hv3
      subst hv3
      clear hlt hi hx hx32 HJ hm6
      go_wp2_with fail
      refine (seal_any 1 x none 0 0 (fun _ => 0) wr (HI.out.2.1.below HS.out.1 HI.out.2.1.pos) AtBO.none (fun _ => ⟨rfl, rfl⟩) (fun _ => by omega) (by omega) HX.out.2.2.1 (by omega)).mono ?_
      rintro e w1 ⟨y, rfl, hl, hlen, hdat, hb⟩
      obtain ⟨v', w3, hr, hO3, hB3, ⟨A4, d4, hv4⟩, _⟩ := HS.out.2.push (k := m) HS.out.1 HS.out.1.size hl hb (by rw [acks_len s.O i (by have := HX.out.1; have := HI.out.2.2.2.2.2.2.2.2.2.1; omega)]; have := HX.out.1; omega) HX.out.2.2.2
      have HN := Lib.hid (show SI w s.O (i + 1) v' w3 from ⟨hB3, by rw [acks_succ s.O i x HX.out.2.1]; rw [hlen, hdat] at hO3; exact hO3⟩)
      rw [acks_len s.O i (by have := HX.out.1; have := HI.out.2.2.2.2.2.2.2.2.2.1; omega)] at hv4
      rw [hv4] at hr HN
      have HQ := Lib.hid hr
      clear hl hlen hdat hb hr hO3 hB3 hv4
      unfold frV at *
      go_wp2_with (at_builtin; refine wpList_append_run rfl _ _ 27 rfl (.slice A3 i d3) (.slice (some ⟨w1.heap.size, 0, none⟩) 1 1) (.slice A4 (i + 1) d4) w3 rfl rfl HQ.out ?_)
      go_roundw
      case rel => exact ⟨i + 1, by go_num, ⟨trivial, HX.out.1⟩, HN⟩
      case measure => have := HX.out.1; simp [intOf]; omega
    · obtain rfl : i = m := by have := HJ.out.2; omega
      obtain ⟨h, ht, hg, he, hO, ha, hs, hnum, hon, hm, hv, hq, hbs⟩ := HI.out
      obtain ⟨A3, d3, hv3⟩ := HS.out.2.slice
      rw [acks_len s.O i (by omega)] at hv3
      subst hv3
      have hS2 : Outs wr w.heap.size (.slice A3 i d3) (acks s.O) := by
        have := HS.out.2
        rw [hm, List.take_length] at this
        rw [hm]
        exact this
      have hb2 := HS.out.1
      obtain ⟨w2, hw2⟩ : ∃ z, z = wr := ⟨_, rfl⟩
      subst hw2
      have h2 := h.below hb2
      have g1 : Goes w base s w2 s := Goes.of_below h hb2
      have g2 := h2.set (s' := { s with ov := .slice none 0 0, O := [] }) 6 (.slice none 0 0) rfl rfl rfl rfl rfl rfl (.inr ⟨rfl, rfl⟩)
      have g3 := g2.at'.set (s' := s.quietStep) 3 (.int .i64 ((s.ago + 1 : Nat) : Int)) rfl rfl rfl rfl rfl rfl (.inl ⟨rfl, rfl⟩)
      have g4 : Goes w base s ((w2.setCell ⟨s.p, 6, none⟩ (.slice none 0 0)).setCell ⟨s.p, 3, none⟩ (.int .i64 ((s.ago + 1 : Nat) : Int))) s.quietStep := (g1.trans g2).trans g3
      have e2 : IntKind.i64.wrap ((s.ago : Int) + 1) = ((s.ago + 1 : Nat) : Int) := by rw [i64_nat _ (by omega) (by omega)]; omega
      have hown : ∀ b, s.own b → b < w.heap.size := fun b hb => (h.own_lt hb).1
      have hS4 : Outs ((w2.setCell ⟨s.p, 6, none⟩ (.slice none 0 0)).setCell ⟨s.p, 3, none⟩ (.int .i64 ((s.ago + 1 : Nat) : Int))) w.heap.size (.slice A3 i d3) (acks s.O) :=
        Goes.outs (Goes.trans g2 g3) hS2 hown
      have d0 : w2.cell? ⟨s.p, 0, none⟩ = some s.qv := h2.cell 0
      have d1 : w2.cell? ⟨s.p, 1, none⟩ = some (.int .u32 (s.num : Int)) := h2.cell 1
      have d2 : w2.cell? ⟨s.p, 2, none⟩ = some (.int .i64 (s.sent : Int)) := h2.cell 2
      have d33 : w2.cell? ⟨s.p, 3, none⟩ = some (.int .i64 (s.ago : Int)) := h2.cell 3
      have d6 : w2.cell? ⟨s.p, 6, none⟩ = some s.ov := h2.cell 6
      have f3 := h2.frozen 3
      have f6 := h2.frozen 6
      have f2 := h2.frozen 2
      obtain ⟨B, c0, hqv, _⟩ := h2.wq.slice
      have HG := Lib.hid (And.intro g4 (And.intro hS4 (And.intro h2 (And.intro hown hS2))))
      obtain ⟨a1, ha1⟩ : ∃ a1, a1 = s.ago + 1 := ⟨_, rfl⟩
      rw [← ha1] at e2 HG
      have HA := Lib.hid ha1
      clear g1 g2 g3 g4 hS4 hown hb2 hS2 h2 HS HJ hlt ha1
      by_cases hQ : s.Q = []
      · rw [hqv, hQ] at d0
        have HF := Lib.hid (show Stepped w base s (.returned (.slice A3 i d3)) _ from ⟨_, _, rfl, HG.out.1, .inl ⟨.inl hQ, rfl, HG.out.2.1⟩⟩)
        clear h ht hg he hO ha hs hnum hon hm hv hqv hq HI HG hQ
        go_wp2
        go_ret
        exact HF.out
      · obtain ⟨x, L, hQ2⟩ : ∃ x L, s.Q = x :: L := by
          cases hc : s.Q with
          | nil => exact absurd hc hQ
          | cons x L => exact ⟨x, L, rfl⟩
        have hW := HG.out.2.2.1.wq
        rw [hQ2] at hW hqv
        obtain ⟨gq, oq, cq, hqv2, hcq⟩ := hW.cell (i := 0) (x := x) rfl
        rw [Nat.add_zero] at hcq
        have hcq1 := hcq.1
        rw [hqv2, List.length_cons] at d0
        have l0 : (((L.length : Int) + 1 == 0)) = false := by rw [beq_eq_false_iff_ne]; omega
        have l1 : (L.length + 1 == 0) = false := by rw [beq_eq_false_iff_ne]; omega
        have l2 : (0 : Int) < (L.length : Int) + 1 := by omega
        obtain ⟨w4, hw4⟩ : ∃ w4, w4 = ((w2.setCell ⟨s.p, 6, none⟩ (.slice none 0 0)).setCell ⟨s.p, 3, none⟩ (.int .i64 (a1 : Int))) := ⟨_, rfl⟩
        by_cases hid : 0 < s.sent ∧ s.ago + 1 ≠ 4
        · have HF := Lib.hid (show Stepped w base s (.returned (.slice A3 i d3)) _ from ⟨_, _, rfl, HG.out.1, .inl ⟨.inr hid, rfl, HG.out.2.1⟩⟩)
          rw [← HA.out] at hid
          have s1 : (0 : Int) < (s.sent : Int) := by omega
          have s2 : ((a1 : Int) != 4) = true := by simp; omega
          have s3 : (a1 != 4) = true := by simp; omega
          clear h ht hg he hO ha hs hnum hon hm hv hqv hq HI HG hQ hQ2 hW hcq hcq1 hqv2 hid hw4 HA
          generalize s.sent = sn at *
          go_wp2
          go_ret
          exact HF.out
        · have HB0 : ¬ s.idle := fun h => by
            rcases h with h | h
            · exact hQ h
            · exact hid h
          have H4 := Lib.hid (show Goes w base s w4 s.quietStep ∧ Outs w4 w.heap.size (.slice A3 i d3) (acks s.O) ∧ (∀ b, s.quietStep.own b → b < w.heap.size) from by rw [hw4]; exact ⟨HG.out.1, HG.out.2.1, fun b hb => HG.out.2.2.2.1 b (own_nil (s' := s.quietStep) hb)⟩)
          have hg4 : Handle w4 := by
            have hk := H4.out.1.kept
            refine (World.cell?_of_block (hk.block 1 hg.pos fun ho => ?_)).trans hg
            have := (h.own_lt ho).2
            omega
          have ht4 : Tab w4 := fun k hk => by
            have hk2 := H4.out.1.kept
            refine (World.cell?_of_block (hk2.block 0 ht.pos fun ho => ?_)).trans (ht k hk)
            have := (h.own_lt ho).2
            omega
          by_cases h8 : 8 ≤ s.sent
          · have ea : a1 = 4 := by have := HA.out; omega
            have HB := Lib.hid (And.intro HB0 h8)
            have hW := wrap_bare 70 (s.num : Int) sNumber w4.drew hg4
            rw [bare] at hW
            have HW := Lib.hid hW
            have HN := Lib.hid (And.intro trivial hnum)
            have s1 : (0 : Int) < (s.sent : Int) := by omega
            have s4 : (8 : Int) ≤ (s.sent : Int) := by omega
            have e3 : IntKind.i64.wrap (s.num : Int) = (s.num : Int) := i64_nat _ (by omega) (by omega)
            have s2 : ((a1 : Int) != 4) = false := by simp; omega
            have s3 : (a1 != 4) = false := by simp; omega
            clear ea
            obtain ⟨sn, hsn⟩ : ∃ sn, sn = s.sent := ⟨_, rfl⟩
            rw [← hsn] at d2 s1 s4
            clear h ht hg hO ha hs hnum hon hm hv hqv hq HI HG hQ hQ2 hcq hcq1 hqv2 hid HA h8 HB0 hg4 ht4 hW hsn
            go_wp2
            rw [← hw4]
            clear hw4 d0 d1 d2 d33 d6 f3 f6 f2 l0 l1 l2 e2 s1 s4 s2 s3
            rcases he with hE | ⟨ps, hE⟩
            · skip
              have d7 : w4.cell? ⟨s.p, 7, none⟩ = some (.nilIface) := by have := H4.out.1.at'.cell 7; rw [← hE]; exact this
              have d41 : w4.cell? ⟨s.p, 1, none⟩ = some (.int .u32 (s.num : Int)) := H4.out.1.at'.cell 1
              refine region_z 16 (fun w' => w'.cell? ⟨s.p, 7, none⟩ = some (.nilIface) ∧ w'.cell? ⟨s.p, 1, none⟩ = some (.int .u32 (s.num : Int))) (by kernel_rfl) ?_
              have hS : w4.drew.cell? ⟨s.p, 7, none⟩ = some (.nilIface) ∧ w4.drew.cell? ⟨s.p, 1, none⟩ = some (.int .u32 (s.num : Int)) := ⟨d7, d41⟩
              refine zt [16] (i := 0) rfl (.pointer (some ⟨s.p, 0, none⟩)) (by kernel_rfl) (by kernel_rfl) (by kernel_rfl) (by kernel_rfl) (fun _ _ _ h => h) hS (fun w' d1 => by have hd1 := d1.1; have hd2 := d1.2; go_simp) ?_
              try simp only [Act.put, List.setIfInBounds_toArray, List.set_cons_zero, List.set_cons_succ]
              refine zt [16] (i := 1) rfl (.pointer (some ⟨s.p, 0, none⟩)) (by kernel_rfl) (by kernel_rfl) (by kernel_rfl) (by kernel_rfl) (fun _ _ _ h => h) hS (fun w' d1 => by have hd1 := d1.1; have hd2 := d1.2; go_simp) ?_
              try simp only [Act.put, List.setIfInBounds_toArray, List.set_cons_zero, List.set_cons_succ]
              refine zt [16] (i := 2) rfl (.pointer (some ⟨s.p, 0, none⟩)) (by kernel_rfl) (by kernel_rfl) (by kernel_rfl) (by kernel_rfl) (fun _ _ _ h => h) hS (fun w' d1 => by have hd1 := d1.1; have hd2 := d1.2; go_simp) ?_
              try simp only [Act.put, List.setIfInBounds_toArray, List.set_cons_zero, List.set_cons_succ]
              refine zt [16] (i := 3) rfl (.pointer (some ⟨s.p, 7, none⟩)) (by kernel_rfl) (by kernel_rfl) (by kernel_rfl) (by kernel_rfl) (fun _ _ _ h => h) hS (fun w' d1 => by have hd1 := d1.1; have hd2 := d1.2; go_simp) ?_
              try simp only [Act.put, List.setIfInBounds_toArray, List.set_cons_zero, List.set_cons_succ]
              refine zt [16] (i := 4) rfl (.nilIface) (by kernel_rfl) (by kernel_rfl) (by kernel_rfl) (by kernel_rfl) (fun _ _ _ h => h) hS (fun w' d1 => by have hd1 := d1.1; have hd2 := d1.2; go_simp) ?_
              try simp only [Act.put, List.setIfInBounds_toArray, List.set_cons_zero, List.set_cons_succ]
              refine zt [16] (i := 5) rfl (.iface 44 (.int .i64 70)) (by kernel_rfl) (by kernel_rfl) (by kernel_rfl) (by kernel_rfl) (fun _ _ _ h => h) hS (fun w' d1 => by have hd1 := d1.1; have hd2 := d1.2; go_simp) ?_
              try simp only [Act.put, List.setIfInBounds_toArray, List.set_cons_zero, List.set_cons_succ]
              refine zt [16] (i := 6) rfl (.pointer (some ⟨s.p, 0, none⟩)) (by kernel_rfl) (by kernel_rfl) (by kernel_rfl) (by kernel_rfl) (fun _ _ _ h => h) hS (fun w' d1 => by have hd1 := d1.1; have hd2 := d1.2; go_simp) ?_
              try simp only [Act.put, List.setIfInBounds_toArray, List.set_cons_zero, List.set_cons_succ]
              refine zt [16] (i := 7) rfl (.pointer (some ⟨s.p, 0, none⟩)) (by kernel_rfl) (by kernel_rfl) (by kernel_rfl) (by kernel_rfl) (fun _ _ _ h => h) hS (fun w' d1 => by have hd1 := d1.1; have hd2 := d1.2; go_simp) ?_
              try simp only [Act.put, List.setIfInBounds_toArray, List.set_cons_zero, List.set_cons_succ]
              refine zt [16] (i := 8) rfl (.pointer (some ⟨s.p, 1, none⟩)) (by kernel_rfl) (by kernel_rfl) (by kernel_rfl) (by kernel_rfl) (fun _ _ _ h => h) hS (fun w' d1 => by have hd1 := d1.1; have hd2 := d1.2; go_simp) ?_
              try simp only [Act.put, List.setIfInBounds_toArray, List.set_cons_zero, List.set_cons_succ]
              refine zt [16] (i := 9) rfl (.int .u32 (s.num : Int)) (by kernel_rfl) (by kernel_rfl) (by kernel_rfl) (by kernel_rfl) (fun _ _ _ h => h) hS (fun w' d1 => by have hd1 := d1.1; have hd2 := d1.2; go_simp) ?_
              try simp only [Act.put, List.setIfInBounds_toArray, List.set_cons_zero, List.set_cons_succ]
              refine zt [16] (i := 10) rfl (.int .i64 (s.num : Int)) (by kernel_rfl) (by kernel_rfl) (by kernel_rfl) (by kernel_rfl) (fun _ _ _ h => h) hS (fun w' d1 => by have hd1 := d1.1; have hd2 := d1.2; go_simp) ?_
              try simp only [Act.put, List.setIfInBounds_toArray, List.set_cons_zero, List.set_cons_succ]
              refine z1 (i := 11) (by kernel_rfl) rfl (fun K hK => ?_)
              go_simp
              refine HW.out.mono ?_
              rintro e w5 ⟨rfl, hb5⟩
              have hp4 : s.p < w4.heap.size := H4.out.1.at'.p_lt
              have hS5 : w5.cell? ⟨s.p, 7, none⟩ = some (.nilIface) ∧ w5.cell? ⟨s.p, 1, none⟩ = some (.int .u32 (s.num : Int)) := ⟨(hb5.cell (p := ⟨s.p, 7, none⟩) hp4).trans hS.1, (hb5.cell (p := ⟨s.p, 1, none⟩) hp4).trans hS.2⟩
              refine hK.out _ _ (.inr hS5) ?_
              clear hK K
              try simp only [Act.put, List.setIfInBounds_toArray, List.set_cons_zero, List.set_cons_succ]
              obtain ⟨T, u, hT⟩ := chain_iface [(sNumber, (s.num : Int))] 70
              have HT := Lib.hid hT
              rw [hT]
              have hb45 : Below w4.heap.size w4 w5 := ((Below.refl w4.heap.size w4).drew).trans hb5
              have hb46 : Below w4.heap.size w4 (w5.alloc (.cells #[.nilIface, .iface T u] 47)) := hb45.trans (((Below.refl w5.heap.size w5).alloc (Nat.le_refl _) _).mono hb45.size)
              have g46 := Goes.of_below H4.out.1.at' hb46
              have g47 := g46.at'.set (s' := s.dies (.iface T u)) 7 (.iface T u) rfl rfl rfl rfl rfl rfl (.inl ⟨rfl, rfl⟩)
              have HF := Lib.hid (show Stepped w base s (.returned (.slice A3 i d3)) ((w5.alloc (.cells #[.nilIface, .iface T u] 47)).setCell ⟨s.p, 7, none⟩ (.iface T u)) from ⟨_, _, rfl, (H4.out.1.trans g46).trans g47, .inr (.inl ⟨HB.out.1, HB.out.2, ⟨_, _, rfl, HT.out.symm⟩, Goes.outs (g46.trans g47) H4.out.2.1 H4.out.2.2⟩)⟩)
              have hS6 : (w5.alloc (.cells #[.nilIface, .iface T u] 47)).cell? ⟨s.p, 7, none⟩ = some (.nilIface) ∧ (w5.alloc (.cells #[.nilIface, .iface T u] 47)).cell? ⟨s.p, 1, none⟩ = some (.int .u32 (s.num : Int)) := ⟨(World.cell?_alloc_lt _ _ ⟨s.p, 7, none⟩ (by show s.p < w5.heap.size; have := hb45.size; omega)).trans hS5.1, (World.cell?_alloc_lt _ _ ⟨s.p, 1, none⟩ (by show s.p < w5.heap.size; have := hb45.size; omega)).trans hS5.2⟩
              have hz6 : (w5.alloc (.cells #[.nilIface, .iface T u] 47)).frozen? ⟨s.p, 7, none⟩ = false := g46.at'.frozen 7
              have n0 : (w5.alloc (.cells #[.nilIface, .iface T u] 47)).cell? ⟨w5.heap.size, 0, none⟩ = some (.nilIface) := by simp
              have n1 : (w5.alloc (.cells #[.nilIface, .iface T u] 47)).cell? ⟨w5.heap.size, 1, none⟩ = some (.iface T u) := by simp
              refine z1 (i := 12) (by kernel_rfl) rfl (fun K hK => ?_)
              go_simp
              refine hK.out _ _ (.inr hS6) ?_
              clear hK K
              try simp only [Act.put, List.setIfInBounds_toArray, List.set_cons_zero, List.set_cons_succ]
              generalize hal : (w5.alloc (.cells #[.nilIface, .iface T u] 47)) = w6 at *
              refine z1 (i := 13) (by kernel_rfl) rfl (fun K hK => ?_)
              go_simp
              refine (first_two T u w5.heap.size w6 n0 n1).mono ?_
              rintro e w7 ⟨rfl, rfl⟩
              refine hK.out _ _ (.inr hS6) ?_
              clear hK K
              try simp only [Act.put, List.setIfInBounds_toArray, List.set_cons_zero, List.set_cons_succ]
              refine z1 (i := 14) (by kernel_rfl) rfl (fun K hK => ?_)
              go_simp
              refine hK.out _ _ (.inr hS6) ?_
              clear hK K
              try simp only [Act.put, List.setIfInBounds_toArray, List.set_cons_zero, List.set_cons_succ]
              refine z1 (i := 15) (by kernel_rfl) rfl (fun K hK => ?_)
              go_simp
              refine hK.out _ _ (.inr hS6) ?_
              clear hK K
              try simp only [Act.put, List.setIfInBounds_toArray, List.set_cons_zero, List.set_cons_succ]
              refine z1 (i := 16) (by kernel_rfl) rfl (fun K hK => ?_)
              go_simp
              refine hK.out _ _ (.inl rfl) ?_
              clear hK K
              refine wpAnyZ_done (by kernel_rfl) ?_ _
              go_wp2
              go_ret
              exact HF.out
            · obtain ⟨T, u, hT⟩ := chain_iface ps 70
              have HT := Lib.hid hT
              have hE2 : s.er = .iface T u := hE.trans hT
              clear hE hT
              have d7 : w4.cell? ⟨s.p, 7, none⟩ = some (.iface T u) := by have := H4.out.1.at'.cell 7; rw [← hE2]; exact this
              have d41 : w4.cell? ⟨s.p, 1, none⟩ = some (.int .u32 (s.num : Int)) := H4.out.1.at'.cell 1
              refine region_z 16 (fun w' => w'.cell? ⟨s.p, 7, none⟩ = some (.iface T u) ∧ w'.cell? ⟨s.p, 1, none⟩ = some (.int .u32 (s.num : Int))) (by kernel_rfl) ?_
              have hS : w4.drew.cell? ⟨s.p, 7, none⟩ = some (.iface T u) ∧ w4.drew.cell? ⟨s.p, 1, none⟩ = some (.int .u32 (s.num : Int)) := ⟨d7, d41⟩
              refine zt [16] (i := 0) rfl (.pointer (some ⟨s.p, 0, none⟩)) (by kernel_rfl) (by kernel_rfl) (by kernel_rfl) (by kernel_rfl) (fun _ _ _ h => h) hS (fun w' d1 => by have hd1 := d1.1; have hd2 := d1.2; go_simp) ?_
              try simp only [Act.put, List.setIfInBounds_toArray, List.set_cons_zero, List.set_cons_succ]
              refine zt [16] (i := 1) rfl (.pointer (some ⟨s.p, 0, none⟩)) (by kernel_rfl) (by kernel_rfl) (by kernel_rfl) (by kernel_rfl) (fun _ _ _ h => h) hS (fun w' d1 => by have hd1 := d1.1; have hd2 := d1.2; go_simp) ?_
              try simp only [Act.put, List.setIfInBounds_toArray, List.set_cons_zero, List.set_cons_succ]
              refine zt [16] (i := 2) rfl (.pointer (some ⟨s.p, 0, none⟩)) (by kernel_rfl) (by kernel_rfl) (by kernel_rfl) (by kernel_rfl) (fun _ _ _ h => h) hS (fun w' d1 => by have hd1 := d1.1; have hd2 := d1.2; go_simp) ?_
              try simp only [Act.put, List.setIfInBounds_toArray, List.set_cons_zero, List.set_cons_succ]
              refine zt [16] (i := 3) rfl (.pointer (some ⟨s.p, 7, none⟩)) (by kernel_rfl) (by kernel_rfl) (by kernel_rfl) (by kernel_rfl) (fun _ _ _ h => h) hS (fun w' d1 => by have hd1 := d1.1; have hd2 := d1.2; go_simp) ?_
              try simp only [Act.put, List.setIfInBounds_toArray, List.set_cons_zero, List.set_cons_succ]
              refine zt [16] (i := 4) rfl (.iface T u) (by kernel_rfl) (by kernel_rfl) (by kernel_rfl) (by kernel_rfl) (fun _ _ _ h => h) hS (fun w' d1 => by have hd1 := d1.1; have hd2 := d1.2; go_simp) ?_
              try simp only [Act.put, List.setIfInBounds_toArray, List.set_cons_zero, List.set_cons_succ]
              refine zt [16] (i := 5) rfl (.iface 44 (.int .i64 70)) (by kernel_rfl) (by kernel_rfl) (by kernel_rfl) (by kernel_rfl) (fun _ _ _ h => h) hS (fun w' d1 => by have hd1 := d1.1; have hd2 := d1.2; go_simp) ?_
              try simp only [Act.put, List.setIfInBounds_toArray, List.set_cons_zero, List.set_cons_succ]
              refine zt [16] (i := 6) rfl (.pointer (some ⟨s.p, 0, none⟩)) (by kernel_rfl) (by kernel_rfl) (by kernel_rfl) (by kernel_rfl) (fun _ _ _ h => h) hS (fun w' d1 => by have hd1 := d1.1; have hd2 := d1.2; go_simp) ?_
              try simp only [Act.put, List.setIfInBounds_toArray, List.set_cons_zero, List.set_cons_succ]
              refine zt [16] (i := 7) rfl (.pointer (some ⟨s.p, 0, none⟩)) (by kernel_rfl) (by kernel_rfl) (by kernel_rfl) (by kernel_rfl) (fun _ _ _ h => h) hS (fun w' d1 => by have hd1 := d1.1; have hd2 := d1.2; go_simp) ?_
              try simp only [Act.put, List.setIfInBounds_toArray, List.set_cons_zero, List.set_cons_succ]
              refine zt [16] (i := 8) rfl (.pointer (some ⟨s.p, 1, none⟩)) (by kernel_rfl) (by kernel_rfl) (by kernel_rfl) (by kernel_rfl) (fun _ _ _ h => h) hS (fun w' d1 => by have hd1 := d1.1; have hd2 := d1.2; go_simp) ?_
              try simp only [Act.put, List.setIfInBounds_toArray, List.set_cons_zero, List.set_cons_succ]
              refine zt [16] (i := 9) rfl (.int .u32 (s.num : Int)) (by kernel_rfl) (by kernel_rfl) (by kernel_rfl) (by kernel_rfl) (fun _ _ _ h => h) hS (fun w' d1 => by have hd1 := d1.1; have hd2 := d1.2; go_simp) ?_
              try simp only [Act.put, List.setIfInBounds_toArray, List.set_cons_zero, List.set_cons_succ]
              refine zt [16] (i := 10) rfl (.int .i64 (s.num : Int)) (by kernel_rfl) (by kernel_rfl) (by kernel_rfl) (by kernel_rfl) (fun _ _ _ h => h) hS (fun w' d1 => by have hd1 := d1.1; have hd2 := d1.2; go_simp) ?_
              try simp only [Act.put, List.setIfInBounds_toArray, List.set_cons_zero, List.set_cons_succ]
              refine z1 (i := 11) (by kernel_rfl) rfl (fun K hK => ?_)
              go_simp
              refine HW.out.mono ?_
              rintro e w5 ⟨rfl, hb5⟩
              have hp4 : s.p < w4.heap.size := H4.out.1.at'.p_lt
              have hS5 : w5.cell? ⟨s.p, 7, none⟩ = some (.iface T u) ∧ w5.cell? ⟨s.p, 1, none⟩ = some (.int .u32 (s.num : Int)) := ⟨(hb5.cell (p := ⟨s.p, 7, none⟩) hp4).trans hS.1, (hb5.cell (p := ⟨s.p, 1, none⟩) hp4).trans hS.2⟩
              refine hK.out _ _ (.inr hS5) ?_
              clear hK K
              try simp only [Act.put, List.setIfInBounds_toArray, List.set_cons_zero, List.set_cons_succ]
              obtain ⟨T2, u2, hT2⟩ := chain_iface [(sNumber, (s.num : Int))] 70
              rw [hT2]
              have hb45 : Below w4.heap.size w4 w5 := ((Below.refl w4.heap.size w4).drew).trans hb5
              have hb46 : Below w4.heap.size w4 (w5.alloc (.cells #[.iface T u, .iface T2 u2] 47)) := hb45.trans (((Below.refl w5.heap.size w5).alloc (Nat.le_refl _) _).mono hb45.size)
              have g46 := Goes.of_below H4.out.1.at' hb46
              have g47 := g46.at'.set (s' := s.dies (.iface T u)) 7 (.iface T u) rfl rfl rfl rfl rfl rfl (.inl ⟨rfl, rfl⟩)
              have HF := Lib.hid (show Stepped w base s (.returned (.slice A3 i d3)) ((w5.alloc (.cells #[.iface T u, .iface T2 u2] 47)).setCell ⟨s.p, 7, none⟩ (.iface T u)) from ⟨_, _, rfl, (H4.out.1.trans g46).trans g47, .inr (.inl ⟨HB.out.1, HB.out.2, ⟨_, _, rfl, HT.out.symm⟩, Goes.outs (g46.trans g47) H4.out.2.1 H4.out.2.2⟩)⟩)
              have hS6 : (w5.alloc (.cells #[.iface T u, .iface T2 u2] 47)).cell? ⟨s.p, 7, none⟩ = some (.iface T u) ∧ (w5.alloc (.cells #[.iface T u, .iface T2 u2] 47)).cell? ⟨s.p, 1, none⟩ = some (.int .u32 (s.num : Int)) := ⟨(World.cell?_alloc_lt _ _ ⟨s.p, 7, none⟩ (by show s.p < w5.heap.size; have := hb45.size; omega)).trans hS5.1, (World.cell?_alloc_lt _ _ ⟨s.p, 1, none⟩ (by show s.p < w5.heap.size; have := hb45.size; omega)).trans hS5.2⟩
              have hz6 : (w5.alloc (.cells #[.iface T u, .iface T2 u2] 47)).frozen? ⟨s.p, 7, none⟩ = false := g46.at'.frozen 7
              have n0 : (w5.alloc (.cells #[.iface T u, .iface T2 u2] 47)).cell? ⟨w5.heap.size, 0, none⟩ = some (.iface T u) := by simp
              have n1 : (w5.alloc (.cells #[.iface T u, .iface T2 u2] 47)).cell? ⟨w5.heap.size, 1, none⟩ = some (.iface T2 u2) := by simp
              refine z1 (i := 12) (by kernel_rfl) rfl (fun K hK => ?_)
              go_simp
              refine hK.out _ _ (.inr hS6) ?_
              clear hK K
              try simp only [Act.put, List.setIfInBounds_toArray, List.set_cons_zero, List.set_cons_succ]
              generalize hal : (w5.alloc (.cells #[.iface T u, .iface T2 u2] 47)) = w6 at *
              refine z1 (i := 13) (by kernel_rfl) rfl (fun K hK => ?_)
              go_simp
              refine (first_one T u w5.heap.size w6 n0).mono ?_
              rintro e w7 ⟨rfl, rfl⟩
              refine hK.out _ _ (.inr hS6) ?_
              clear hK K
              try simp only [Act.put, List.setIfInBounds_toArray, List.set_cons_zero, List.set_cons_succ]
              refine z1 (i := 14) (by kernel_rfl) rfl (fun K hK => ?_)
              go_simp
              refine hK.out _ _ (.inr hS6) ?_
              clear hK K
              try simp only [Act.put, List.setIfInBounds_toArray, List.set_cons_zero, List.set_cons_succ]
              refine z1 (i := 15) (by kernel_rfl) rfl (fun K hK => ?_)
              go_simp
              refine hK.out _ _ (.inr hS6) ?_
              clear hK K
              try simp only [Act.put, List.setIfInBounds_toArray, List.set_cons_zero, List.set_cons_succ]
              refine z1 (i := 16) (by kernel_rfl) rfl (fun K hK => ?_)
              go_simp
              refine hK.out _ _ (.inl rfl) ?_
              clear hK K
              refine wpAnyZ_done (by kernel_rfl) ?_ _
              go_wp2
              go_ret
              exact HF.out
          · obtain ⟨sn, hsn⟩ : ∃ sn, sn = s.sent := ⟨_, rfl⟩
            obtain ⟨sn1, hsn1⟩ : ∃ sn1, sn1 = s.sent + 1 := ⟨_, rfl⟩
            have e5 : IntKind.i64.wrap ((sn : Int) + 1) = (sn1 : Int) := by rw [i64_nat _ (by omega) (by omega)]; omega
            obtain ⟨w6, hw6⟩ : ∃ w6, w6 = ((((w2.setCell ⟨s.p, 6, none⟩ (.slice none 0 0)).setCell ⟨s.p, 3, none⟩ (.int .i64 (a1 : Int))).setCell ⟨s.p, 2, none⟩ (.int .i64 (sn1 : Int))).setCell ⟨s.p, 3, none⟩ (.int .i64 0)) := ⟨_, rfl⟩
            have g5 := H4.out.1.at'.set (s' := { s with ov := .slice none 0 0, O := [], ago := s.ago + 1, sent := s.sent + 1 }) 2 (.int .i64 (sn1 : Int)) rfl (by rw [hsn1]; rfl) rfl rfl rfl rfl (.inl ⟨rfl, rfl⟩)
            have g6 := g5.at'.set (s' := s.sends) 3 (.int .i64 0) rfl rfl rfl rfl rfl rfl (.inl ⟨rfl, rfl⟩)
            obtain ⟨ll, hll⟩ : ∃ ll, ll = L.length := ⟨_, rfl⟩
            have H6 := Lib.hid (show Goes w base s w6 s.sends ∧ Outs w6 w.heap.size (.slice A3 i d3) (acks s.O) ∧ (∀ b, s.sends.own b → b < w.heap.size) ∧ (acks s.O).length = i ∧ i ≤ 1000000 from by
              have e46 : w6 = ((w4.setCell ⟨s.p, 2, none⟩ (.int .i64 (sn1 : Int))).setCell ⟨s.p, 3, none⟩ (.int .i64 0)) := by rw [hw6, hw4]
              rw [e46]
              exact ⟨(H4.out.1.trans g5).trans g6, Goes.outs (g5.trans g6) H4.out.2.1 H4.out.2.2, fun b hb => HG.out.2.2.2.1 b (own_nil (s' := s.sends) hb), by rw [hm]; unfold acks; rw [List.length_map], by omega⟩)
            have HC := Lib.hid (show ∀ w', EndAt w' base s.sends → w'.cell? ⟨s.p, 1, none⟩ = some (.int .u32 (s.num : Int)) ∧ w'.cell? ⟨s.p, 0, none⟩ = some (.slice (some ⟨gq, oq, none⟩) (ll + 1) cq) ∧ w'.cell? ⟨gq, oq, none⟩ = some (.slice (some ⟨x.blk, 0, none⟩) x.len x.cap) from fun w' hw' => by
              refine ⟨hw'.cell 1, ?_, ?_⟩
              · have h90 : w'.cell? ⟨s.p, 0, none⟩ = some s.qv := hw'.cell 0
                rw [h90, hll]
                exact congrArg some hqv2
              · have hWx := hw'.wq
                rw [show s.sends.Q = x :: L from hQ2] at hWx
                obtain ⟨g9, o9, c9, hv9, hc9, _⟩ := hWx.cell (i := 0) (x := x) rfl
                have e9 := hqv2.symm.trans hv9
                injection e9 with e9
                injection e9 with e9
                injection e9 with e9 e10
                subst e9 e10
                rw [Nat.add_zero] at hc9
                exact hc9)
            have HB := Lib.hid (And.intro HB0 (And.intro (show s.sent < 8 by omega) hQ2))
            have hx6 : Lies w6 base x := H6.out.1.at'.fq x (by rw [show s.sends.Q = x :: L from hQ2]; exact List.mem_cons_self ..)
            have hxl : x.len ≤ 1048576 := hq x (by rw [hQ2]; exact List.mem_cons_self ..)
            have ht6 : Tab w6 := fun k hk => by
              have hk2 := H6.out.1.kept
              refine (World.cell?_of_block (hk2.block 0 ht.pos fun ho => ?_)).trans (ht k hk)
              have := (h.own_lt ho).2
              omega
            have HSl := Lib.hid (seal_any 0 s.num (some ⟨x.blk, 0, none⟩) x.len x.cap x.dat w6.drew ht6 hx6.atBO (fun h => by cases h) hx6.lt (by omega) hnum (by omega))
            have u1 : decide ((8 : Int) ≤ (sn : Int)) = false := decide_eq_false (by omega)
            have u2 : decide (8 ≤ sn) = false := decide_eq_false (by omega)
            have hcase : sn = 0 ∨ (0 < sn ∧ a1 = 4) := by have := HA.out; omega
            rw [← hsn] at d2
            rw [← hll] at d0 l0 l1
            clear h ht hg he hO ha hs hnum hon hm hv hqv hq HI HG hQ hQ2 hW hcq hcq1 hqv2 hid HA h8 HB0 hg4 ht4 hsn hsn1 g5 g6 hll hx6 hxl ht6 H4 hw4 hbs l2
            rcases hcase with hs0 | ⟨hs0, ha4⟩
            · have u3 : decide ((0 : Int) < (sn : Int)) = false := decide_eq_false (by omega)
              have u4 : decide (0 < sn) = false := decide_eq_false (by omega)
              clear hs0
              go_wp2
              rw [← hw6]
              clear hw6 d0 d1 d2 d33 d6 f3 f6 f2 l0 l1 e2 e5 u1 u2 u3 u4
              refine region_z 14 (fun w' => w'.cell? ⟨s.p, 1, none⟩ = some (.int .u32 (s.num : Int)) ∧ w'.cell? ⟨s.p, 0, none⟩ = some (.slice (some ⟨gq, oq, none⟩) (ll + 1) cq) ∧ w'.cell? ⟨gq, oq, none⟩ = some (.slice (some ⟨x.blk, 0, none⟩) x.len x.cap)) (by kernel_rfl) ?_
              have hS : w6.drew.cell? ⟨s.p, 1, none⟩ = some (.int .u32 (s.num : Int)) ∧ w6.drew.cell? ⟨s.p, 0, none⟩ = some (.slice (some ⟨gq, oq, none⟩) (ll + 1) cq) ∧ w6.drew.cell? ⟨gq, oq, none⟩ = some (.slice (some ⟨x.blk, 0, none⟩) x.len x.cap) := HC.out w6 H6.out.1.at'
              refine zt [14] (i := 0) rfl (.slice A3 i d3) (by kernel_rfl) (by kernel_rfl) (by kernel_rfl) (by kernel_rfl) (fun _ _ _ h => h) hS (fun w' d1 => by have hd1 := d1.1; have hd2 := d1.2.1; have hd3 := d1.2.2; go_simp) ?_
              try simp only [Act.put, List.setIfInBounds_toArray, List.set_cons_zero, List.set_cons_succ]
              refine zt [14] (i := 1) rfl (.pointer (some ⟨s.p, 0, none⟩)) (by kernel_rfl) (by kernel_rfl) (by kernel_rfl) (by kernel_rfl) (fun _ _ _ h => h) hS (fun w' d1 => by have hd1 := d1.1; have hd2 := d1.2.1; have hd3 := d1.2.2; go_simp) ?_
              try simp only [Act.put, List.setIfInBounds_toArray, List.set_cons_zero, List.set_cons_succ]
              refine zt [14] (i := 2) rfl (.pointer (some ⟨s.p, 0, none⟩)) (by kernel_rfl) (by kernel_rfl) (by kernel_rfl) (by kernel_rfl) (fun _ _ _ h => h) hS (fun w' d1 => by have hd1 := d1.1; have hd2 := d1.2.1; have hd3 := d1.2.2; go_simp) ?_
              try simp only [Act.put, List.setIfInBounds_toArray, List.set_cons_zero, List.set_cons_succ]
              refine zt [14] (i := 3) rfl (.pointer (some ⟨s.p, 1, none⟩)) (by kernel_rfl) (by kernel_rfl) (by kernel_rfl) (by kernel_rfl) (fun _ _ _ h => h) hS (fun w' d1 => by have hd1 := d1.1; have hd2 := d1.2.1; have hd3 := d1.2.2; go_simp) ?_
              try simp only [Act.put, List.setIfInBounds_toArray, List.set_cons_zero, List.set_cons_succ]
              refine zt [14] (i := 4) rfl (.int .u32 (s.num : Int)) (by kernel_rfl) (by kernel_rfl) (by kernel_rfl) (by kernel_rfl) (fun _ _ _ h => h) hS (fun w' d1 => by have hd1 := d1.1; have hd2 := d1.2.1; have hd3 := d1.2.2; go_simp) ?_
              try simp only [Act.put, List.setIfInBounds_toArray, List.set_cons_zero, List.set_cons_succ]
              refine zt [14] (i := 5) rfl (.pointer (some ⟨s.p, 0, none⟩)) (by kernel_rfl) (by kernel_rfl) (by kernel_rfl) (by kernel_rfl) (fun _ _ _ h => h) hS (fun w' d1 => by have hd1 := d1.1; have hd2 := d1.2.1; have hd3 := d1.2.2; go_simp) ?_
              try simp only [Act.put, List.setIfInBounds_toArray, List.set_cons_zero, List.set_cons_succ]
              refine zt [14] (i := 6) rfl (.pointer (some ⟨s.p, 0, none⟩)) (by kernel_rfl) (by kernel_rfl) (by kernel_rfl) (by kernel_rfl) (fun _ _ _ h => h) hS (fun w' d1 => by have hd1 := d1.1; have hd2 := d1.2.1; have hd3 := d1.2.2; go_simp) ?_
              try simp only [Act.put, List.setIfInBounds_toArray, List.set_cons_zero, List.set_cons_succ]
              refine zt [14] (i := 7) rfl (.pointer (some ⟨s.p, 0, none⟩)) (by kernel_rfl) (by kernel_rfl) (by kernel_rfl) (by kernel_rfl) (fun _ _ _ h => h) hS (fun w' d1 => by have hd1 := d1.1; have hd2 := d1.2.1; have hd3 := d1.2.2; go_simp) ?_
              try simp only [Act.put, List.setIfInBounds_toArray, List.set_cons_zero, List.set_cons_succ]
              refine zt [14] (i := 8) rfl (.slice (some ⟨gq, oq, none⟩) (ll + 1) cq) (by kernel_rfl) (by kernel_rfl) (by kernel_rfl) (by kernel_rfl) (fun _ _ _ h => h) hS (fun w' d1 => by have hd1 := d1.1; have hd2 := d1.2.1; have hd3 := d1.2.2; go_simp) ?_
              try simp only [Act.put, List.setIfInBounds_toArray, List.set_cons_zero, List.set_cons_succ]
              refine zt [14] (i := 9) rfl (.pointer (some ⟨gq, oq, none⟩)) (by kernel_rfl) (by kernel_rfl) (by kernel_rfl) (by kernel_rfl) (fun _ _ _ h => h) hS (fun w' d1 => by have hd1 := d1.1; have hd2 := d1.2.1; have hd3 := d1.2.2; go_simp) ?_
              try simp only [Act.put, List.setIfInBounds_toArray, List.set_cons_zero, List.set_cons_succ]
              refine zt [14] (i := 10) rfl (.slice (some ⟨x.blk, 0, none⟩) x.len x.cap) (by kernel_rfl) (by kernel_rfl) (by kernel_rfl) (by kernel_rfl) (fun _ _ _ h => h) hS (fun w' d1 => by have hd1 := d1.1; have hd2 := d1.2.1; have hd3 := d1.2.2; go_simp) ?_
              try simp only [Act.put, List.setIfInBounds_toArray, List.set_cons_zero, List.set_cons_succ]
              refine z1 (i := 11) (by kernel_rfl) rfl (fun K hK => ?_)
              go_simp
              refine HSl.out.mono ?_
              rintro e w7 ⟨y, rfl, hl, hlen, hdat, hb⟩
              have hb7 : Below w6.heap.size w6 w7 := ((Below.refl w6.heap.size w6).drew).trans hb
              have hS7 := HC.out w7 (H6.out.1.at'.below hb7)
              refine hK.out _ _ (.inr hS7) ?_
              clear hK K
              try simp only [Act.put, List.setIfInBounds_toArray, List.set_cons_zero, List.set_cons_succ]
              have hb78 : Below w7.heap.size w7 (w7.alloc (.cells #[frV y] 23)) := (Below.refl _ _).alloc (Nat.le_refl _) _
              have hS8 := HC.out (w7.alloc (.cells #[frV y] 23)) (H6.out.1.at'.below (hb7.trans (hb78.mono hb7.size)))
              obtain ⟨v', w8, hr, hO8, hB8, ⟨A8, d8, hv8⟩, hold⟩ := H6.out.2.1.push (k := i) (Below.refl _ _) H6.out.1.kept.size hl hb7 (by rw [H6.out.2.2.2.1]; exact Nat.le_refl _) H6.out.2.2.2.2
              have g8 := H6.out.1.push H6.out.2.1 hB8 hold H6.out.2.2.1
              have hS9 := HC.out w8 g8.at'
              rw [hlen, hdat] at hO8
              have HF := Lib.hid (show Stepped w base s (.returned v') w8 from ⟨v', _, rfl, g8, .inr (.inr ⟨HB.out.1, HB.out.2.1, rfl, x, L, HB.out.2.2, hO8⟩)⟩)
              rw [H6.out.2.2.2.1] at hv8
              rw [hv8] at hr HF
              have HQ := Lib.hid hr
              clear hr hO8 hB8 hold g8 hlen hdat hl hb hb7 hb78 hv8
              unfold frV at *
              refine z1 (i := 12) (by kernel_rfl) rfl (fun K hK => ?_)
              go_simp
              refine hK.out _ _ (.inr hS8) ?_
              clear hK K
              try simp only [Act.put, List.setIfInBounds_toArray, List.set_cons_zero, List.set_cons_succ]
              refine z1 (i := 13) (by kernel_rfl) rfl (fun K hK => ?_)
              refine wp_append_run _ _ 27 rfl (.slice A3 i d3) (.slice (some ⟨w7.heap.size, 0, none⟩) 1 1) (.slice A8 (i + 1) d8) w8 rfl rfl HQ.out ?_
              refine hK.out _ _ (.inr hS9) ?_
              clear hK K
              try simp only [Act.put, List.setIfInBounds_toArray, List.set_cons_zero, List.set_cons_succ]
              refine z1 (i := 14) (by kernel_rfl) rfl (fun K hK => ?_)
              go_simp
              refine hK.out _ _ (.inr hS9) ?_
              clear hK K
              refine wpAnyZ_done (by kernel_rfl) ?_ _
              go_wp2
              go_ret
              exact HF.out
            · have u3 : (0 : Int) < (sn : Int) := by omega
              have s2 : ((a1 : Int) != 4) = false := by simp; omega
              have s3 : (a1 != 4) = false := by simp; omega
              clear hs0 ha4
              go_wp2
              rw [← hw6]
              clear hw6 d0 d1 d2 d33 d6 f3 f6 f2 l0 l1 e2 e5 u1 u2 u3 s2 s3
              refine region_z 14 (fun w' => w'.cell? ⟨s.p, 1, none⟩ = some (.int .u32 (s.num : Int)) ∧ w'.cell? ⟨s.p, 0, none⟩ = some (.slice (some ⟨gq, oq, none⟩) (ll + 1) cq) ∧ w'.cell? ⟨gq, oq, none⟩ = some (.slice (some ⟨x.blk, 0, none⟩) x.len x.cap)) (by kernel_rfl) ?_
              have hS : w6.drew.cell? ⟨s.p, 1, none⟩ = some (.int .u32 (s.num : Int)) ∧ w6.drew.cell? ⟨s.p, 0, none⟩ = some (.slice (some ⟨gq, oq, none⟩) (ll + 1) cq) ∧ w6.drew.cell? ⟨gq, oq, none⟩ = some (.slice (some ⟨x.blk, 0, none⟩) x.len x.cap) := HC.out w6 H6.out.1.at'
              refine zt [14] (i := 0) rfl (.slice A3 i d3) (by kernel_rfl) (by kernel_rfl) (by kernel_rfl) (by kernel_rfl) (fun _ _ _ h => h) hS (fun w' d1 => by have hd1 := d1.1; have hd2 := d1.2.1; have hd3 := d1.2.2; go_simp) ?_
              try simp only [Act.put, List.setIfInBounds_toArray, List.set_cons_zero, List.set_cons_succ]
              refine zt [14] (i := 1) rfl (.pointer (some ⟨s.p, 0, none⟩)) (by kernel_rfl) (by kernel_rfl) (by kernel_rfl) (by kernel_rfl) (fun _ _ _ h => h) hS (fun w' d1 => by have hd1 := d1.1; have hd2 := d1.2.1; have hd3 := d1.2.2; go_simp) ?_
              try simp only [Act.put, List.setIfInBounds_toArray, List.set_cons_zero, List.set_cons_succ]
              refine zt [14] (i := 2) rfl (.pointer (some ⟨s.p, 0, none⟩)) (by kernel_rfl) (by kernel_rfl) (by kernel_rfl) (by kernel_rfl) (fun _ _ _ h => h) hS (fun w' d1 => by have hd1 := d1.1; have hd2 := d1.2.1; have hd3 := d1.2.2; go_simp) ?_
              try simp only [Act.put, List.setIfInBounds_toArray, List.set_cons_zero, List.set_cons_succ]
              refine zt [14] (i := 3) rfl (.pointer (some ⟨s.p, 1, none⟩)) (by kernel_rfl) (by kernel_rfl) (by kernel_rfl) (by kernel_rfl) (fun _ _ _ h => h) hS (fun w' d1 => by have hd1 := d1.1; have hd2 := d1.2.1; have hd3 := d1.2.2; go_simp) ?_
              try simp only [Act.put, List.setIfInBounds_toArray, List.set_cons_zero, List.set_cons_succ]
              refine zt [14] (i := 4) rfl (.int .u32 (s.num : Int)) (by kernel_rfl) (by kernel_rfl) (by kernel_rfl) (by kernel_rfl) (fun _ _ _ h => h) hS (fun w' d1 => by have hd1 := d1.1; have hd2 := d1.2.1; have hd3 := d1.2.2; go_simp) ?_
              try simp only [Act.put, List.setIfInBounds_toArray, List.set_cons_zero, List.set_cons_succ]
              refine zt [14] (i := 5) rfl (.pointer (some ⟨s.p, 0, none⟩)) (by kernel_rfl) (by kernel_rfl) (by kernel_rfl) (by kernel_rfl) (fun _ _ _ h => h) hS (fun w' d1 => by have hd1 := d1.1; have hd2 := d1.2.1; have hd3 := d1.2.2; go_simp) ?_
              try simp only [Act.put, List.setIfInBounds_toArray, List.set_cons_zero, List.set_cons_succ]
              refine zt [14] (i := 6) rfl (.pointer (some ⟨s.p, 0, none⟩)) (by kernel_rfl) (by kernel_rfl) (by kernel_rfl) (by kernel_rfl) (fun _ _ _ h => h) hS (fun w' d1 => by have hd1 := d1.1; have hd2 := d1.2.1; have hd3 := d1.2.2; go_simp) ?_
              try simp only [Act.put, List.setIfInBounds_toArray, List.set_cons_zero, List.set_cons_succ]
              refine zt [14] (i := 7) rfl (.pointer (some ⟨s.p, 0, none⟩)) (by kernel_rfl) (by kernel_rfl) (by kernel_rfl) (by kernel_rfl) (fun _ _ _ h => h) hS (fun w' d1 => by have hd1 := d1.1; have hd2 := d1.2.1; have hd3 := d1.2.2; go_simp) ?_
              try simp only [Act.put, List.setIfInBounds_toArray, List.set_cons_zero, List.set_cons_succ]
              refine zt [14] (i := 8) rfl (.slice (some ⟨gq, oq, none⟩) (ll + 1) cq) (by kernel_rfl) (by kernel_rfl) (by kernel_rfl) (by kernel_rfl) (fun _ _ _ h => h) hS (fun w' d1 => by have hd1 := d1.1; have hd2 := d1.2.1; have hd3 := d1.2.2; go_simp) ?_
              try simp only [Act.put, List.setIfInBounds_toArray, List.set_cons_zero, List.set_cons_succ]
              refine zt [14] (i := 9) rfl (.pointer (some ⟨gq, oq, none⟩)) (by kernel_rfl) (by kernel_rfl) (by kernel_rfl) (by kernel_rfl) (fun _ _ _ h => h) hS (fun w' d1 => by have hd1 := d1.1; have hd2 := d1.2.1; have hd3 := d1.2.2; go_simp) ?_
              try simp only [Act.put, List.setIfInBounds_toArray, List.set_cons_zero, List.set_cons_succ]
              refine zt [14] (i := 10) rfl (.slice (some ⟨x.blk, 0, none⟩) x.len x.cap) (by kernel_rfl) (by kernel_rfl) (by kernel_rfl) (by kernel_rfl) (fun _ _ _ h => h) hS (fun w' d1 => by have hd1 := d1.1; have hd2 := d1.2.1; have hd3 := d1.2.2; go_simp) ?_
              try simp only [Act.put, List.setIfInBounds_toArray, List.set_cons_zero, List.set_cons_succ]
              refine z1 (i := 11) (by kernel_rfl) rfl (fun K hK => ?_)
              go_simp
              refine HSl.out.mono ?_
              rintro e w7 ⟨y, rfl, hl, hlen, hdat, hb⟩
              have hb7 : Below w6.heap.size w6 w7 := ((Below.refl w6.heap.size w6).drew).trans hb
              have hS7 := HC.out w7 (H6.out.1.at'.below hb7)
              refine hK.out _ _ (.inr hS7) ?_
              clear hK K
              try simp only [Act.put, List.setIfInBounds_toArray, List.set_cons_zero, List.set_cons_succ]
              have hb78 : Below w7.heap.size w7 (w7.alloc (.cells #[frV y] 23)) := (Below.refl _ _).alloc (Nat.le_refl _) _
              have hS8 := HC.out (w7.alloc (.cells #[frV y] 23)) (H6.out.1.at'.below (hb7.trans (hb78.mono hb7.size)))
              obtain ⟨v', w8, hr, hO8, hB8, ⟨A8, d8, hv8⟩, hold⟩ := H6.out.2.1.push (k := i) (Below.refl _ _) H6.out.1.kept.size hl hb7 (by rw [H6.out.2.2.2.1]; exact Nat.le_refl _) H6.out.2.2.2.2
              have g8 := H6.out.1.push H6.out.2.1 hB8 hold H6.out.2.2.1
              have hS9 := HC.out w8 g8.at'
              rw [hlen, hdat] at hO8
              have HF := Lib.hid (show Stepped w base s (.returned v') w8 from ⟨v', _, rfl, g8, .inr (.inr ⟨HB.out.1, HB.out.2.1, rfl, x, L, HB.out.2.2, hO8⟩)⟩)
              rw [H6.out.2.2.2.1] at hv8
              rw [hv8] at hr HF
              have HQ := Lib.hid hr
              clear hr hO8 hB8 hold g8 hlen hdat hl hb hb7 hb78 hv8
              unfold frV at *
              refine z1 (i := 12) (by kernel_rfl) rfl (fun K hK => ?_)
              go_simp
              refine hK.out _ _ (.inr hS8) ?_
              clear hK K
              try simp only [Act.put, List.setIfInBounds_toArray, List.set_cons_zero, List.set_cons_succ]
              refine z1 (i := 13) (by kernel_rfl) rfl (fun K hK => ?_)
              refine wp_append_run _ _ 27 rfl (.slice A3 i d3) (.slice (some ⟨w7.heap.size, 0, none⟩) 1 1) (.slice A8 (i + 1) d8) w8 rfl rfl HQ.out ?_
              refine hK.out _ _ (.inr hS9) ?_
              clear hK K
              try simp only [Act.put, List.setIfInBounds_toArray, List.set_cons_zero, List.set_cons_succ]
              refine z1 (i := 14) (by kernel_rfl) rfl (fun K hK => ?_)
              go_simp
              refine hK.out _ _ (.inr hS9) ?_
              clear hK K
              refine wpAnyZ_done (by kernel_rfl) ?_ _
              go_wp2
              go_ret
              exact HF.out
end Go.Proofs.YteadpnododjeaaaDoor
