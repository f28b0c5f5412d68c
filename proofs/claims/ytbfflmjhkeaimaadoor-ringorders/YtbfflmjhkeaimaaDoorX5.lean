/- The walk of the law RingOrders: it answers true, and makes new memory alone. -/
import Derived.Test.YtbfflmjhkeaimaaDoorX4
namespace Go.Proofs.YtbfflmjhkeaimaaDoor
open Go.RowKit

theorem u64w' (n : Int) : IntKind.u64.wrap n = U n := u64w n
def sumF (G K : Nat → Int) (i q : Nat) : Int := if q < i then U (G q + K q) else 0
set_option maxHeartbeats 4000000 in
set_option maxRecDepth 100000 in
theorem orders_walk (x y z : Value) (n m l : Nat) (f g k : Nat → Int) (w : World) (hx : In w x n f) (hy : In w y m g) (hz : In w z l k) :
    Calls Tryd.prog 7 #[x, y, z] w fun e w' => e = .returned (.bool true) ∧ Below w.heap.size w w' := by
  have HX := Lib.hid hx
  have HY := Lib.hid hy
  have HZ := Lib.hid hz
  clear hx hy hz
  go_enter Tryd.func7, Tryd.ntmps7
  go_wp2_with fail
  refine (awake_any _).mono ?_
  rintro e w1 ⟨rfl, hb1⟩
  have B1 := Lib.hid hb1
  clear hb1
  go_wp2_with fail
  refine (square_any x n f w1 (HX.out.below B1.out)).mono ?_
  rintro e w2 ⟨ga, hg, rfl, hO, hb⟩
  have B2 := Lib.hid (Below.next B1.out hb B1.out.size)
  have Oa := Lib.hid hO
  clear hO hb hg  B1
  go_wp2_with fail
  refine (square_any y m g w2 (HY.out.below B2.out)).mono ?_
  rintro e w3 ⟨gb, hg, rfl, hO, hb⟩
  have B3 := Lib.hid (Below.next B2.out hb B2.out.size)
  have Oa' := Lib.hid (Oa.out.below hb Oa.out.lt)
  have Ob := Lib.hid hO
  clear hO hb hg Oa B2
  have Oa := Oa'
  clear Oa'
  go_wp2_with fail
  refine (square_any z l k w3 (HZ.out.below B3.out)).mono ?_
  rintro e w4 ⟨gc, hg, rfl, hO, hb⟩
  have B4 := Lib.hid (Below.next B3.out hb B3.out.size)
  have Oa' := Lib.hid (Oa.out.below hb Oa.out.lt)
  have Ob' := Lib.hid (Ob.out.below hb Ob.out.lt)
  have Oc := Lib.hid hO
  clear hO hb hg Oa Ob B3
  have Oa := Oa'
  clear Oa'
  have Ob := Ob'
  clear Ob'
  generalize (fun i => if i < n then f i else 0) = F at *
  generalize (fun i => if i < m then g i else 0) = G at *
  generalize (fun i => if i < l then k i else 0) = K at *
  go_wp2_with fail
  refine (times_any ga gb F G w4 Oa.out Ob.out).mono ?_
  rintro e w5 ⟨gab, hg, rfl, hO, hb⟩
  have B5 := Lib.hid (Below.next B4.out hb B4.out.size)
  have Oa' := Lib.hid (Oa.out.below hb Oa.out.lt)
  have Ob' := Lib.hid (Ob.out.below hb Ob.out.lt)
  have Oc' := Lib.hid (Oc.out.below hb Oc.out.lt)
  have Oab := Lib.hid hO
  clear hO hb hg Oa Ob Oc B4
  have Oa := Oa'
  clear Oa'
  have Ob := Ob'
  clear Ob'
  have Oc := Oc'
  clear Oc'
  go_wp2_with fail
  refine (times_any gab gc _ K w5 Oab.out Oc.out).mono ?_
  rintro e w6 ⟨gl, hg, rfl, hO, hb⟩
  have B6 := Lib.hid (Below.next B5.out hb B5.out.size)
  have Oa' := Lib.hid (Oa.out.below hb Oa.out.lt)
  have Ob' := Lib.hid (Ob.out.below hb Ob.out.lt)
  have Oc' := Lib.hid (Oc.out.below hb Oc.out.lt)
  have Oab' := Lib.hid (Oab.out.below hb Oab.out.lt)
  have Ol := Lib.hid hO
  clear hO hb hg Oa Ob Oc Oab B5
  have Oa := Oa'
  clear Oa'
  have Ob := Ob'
  clear Ob'
  have Oc := Oc'
  clear Oc'
  have Oab := Oab'
  clear Oab'
  clear Oab
  go_wp2_with fail
  refine (times_any gb gc G K w6 Ob.out Oc.out).mono ?_
  rintro e w7 ⟨gbc, hg, rfl, hO, hb⟩
  have B7 := Lib.hid (Below.next B6.out hb B6.out.size)
  have Oa' := Lib.hid (Oa.out.below hb Oa.out.lt)
  have Ob' := Lib.hid (Ob.out.below hb Ob.out.lt)
  have Oc' := Lib.hid (Oc.out.below hb Oc.out.lt)
  have Ol' := Lib.hid (Ol.out.below hb Ol.out.lt)
  have Obc := Lib.hid hO
  clear hO hb hg Oa Ob Oc Ol B6
  have Oa := Oa'
  clear Oa'
  have Ob := Ob'
  clear Ob'
  have Oc := Oc'
  clear Oc'
  have Ol := Ol'
  clear Ol'
  go_wp2_with fail
  refine (times_any ga gbc F _ w7 Oa.out Obc.out).mono ?_
  rintro e w8 ⟨gr, hg, rfl, hO, hb⟩
  have B8 := Lib.hid (Below.next B7.out hb B7.out.size)
  have Oa' := Lib.hid (Oa.out.below hb Oa.out.lt)
  have Ob' := Lib.hid (Ob.out.below hb Ob.out.lt)
  have Oc' := Lib.hid (Oc.out.below hb Oc.out.lt)
  have Ol' := Lib.hid (Ol.out.below hb Ol.out.lt)
  have Obc' := Lib.hid (Obc.out.below hb Obc.out.lt)
  have Or := Lib.hid hO
  clear hO hb hg Oa Ob Oc Ol Obc B7
  have Oa := Oa'
  clear Oa'
  have Ob := Ob'
  clear Ob'
  have Oc := Oc'
  clear Oc'
  have Ol := Ol'
  clear Ol'
  have Obc := Obc'
  clear Obc'
  clear Obc
  have hmk : (Instr.makeSlice 28 (.int .i64 9) (.int .i64 9)).run Tryd.prog w8 = .ok (.slice (some ⟨w8.heap.size, 0, none⟩) 9 9) (w8.alloc (.cells (wordsOf 9 fun _ => 0).toArray 22)) := run_makeWords w8 9 (by omega)
  have hO : Own (w8.alloc (.cells (wordsOf 9 fun _ => 0).toArray 22)) w8.heap.size 9 (fun _ => 0) := heap_alloc_new w8 _
  have hb : Below w8.heap.size w8 (w8.alloc (.cells (wordsOf 9 fun _ => 0).toArray 22)) := (Below.refl _ _).alloc (Nat.le_refl _) _
  have H := Lib.hid (And.intro hO hb)
  clear hO hb
  go_wp2
  clear hmk
  generalize w8.alloc (.cells (wordsOf 9 fun _ => 0).toArray 22) = w9 at H ⊢
  go_loopw [39] (fun t wr => ∃ i : Nat, i ≤ 9 ∧ t = .int .i64 i ∧ Hid (Own wr w8.heap.size 9 (sumF G K i)) ∧ Hid (Below w8.heap.size w8 wr)) (fun t _ => 9 - (intOf t).toNat)
  case atStart => exact ⟨0, by omega, rfl, H.out.1.congr fun q _ => by simp [sumF], H.out.2⟩
  case round =>
    clear H
    obtain ⟨i, hi, rfl, HO, HW⟩ := hrel
    by_cases hlt : i < 9
    · have c1 : wr.cell? ⟨gb, i, none⟩ = some (.int .u64 (G i)) := (Ob.out.below HW.out Ob.out.lt).cell i hlt
      have c2 : wr.cell? ⟨gc, i, none⟩ = some (.int .u64 (K i)) := (Oc.out.below HW.out Oc.out.lt).cell i hlt
      have c3 : wr.drew.cell? ⟨w8.heap.size, i, none⟩ = some (.int .u64 (sumF G K i i)) := HO.out.cell i hlt
      have c4 : wr.drew.frozen? ⟨w8.heap.size, i, none⟩ = false := HO.out.frozen i
      go_wp2
      go_still_tail 11, (by kernel_rfl)
      change wpList _ _ _ _ _ wr.drew
      have HE := Lib.hid (And.intro HO.out.drew HW.out.drew)
      generalize wr.drew = w10 at HE c3 c4 ⊢
      go_wp2
      go_roundw
      case rel =>
        refine ⟨i + 1, by omega, by go_num, (HE.out.1.set i hlt _).congr fun q _ => ?_, HE.out.2.setCell (Nat.le_refl _) _⟩
        unfold sumF
        by_cases e : q = i
        · rw [if_pos e, if_pos (by omega), e, u64w]; rfl
        · rw [if_neg e]
          by_cases h : q < i
          · rw [if_pos h, if_pos (by omega)]
          · rw [if_neg h, if_neg (by omega)]
      case measure => simp [intOf]; omega
    · have hS : Own wr w8.heap.size 9 (fun q => U (G q + K q)) := HO.out.congr fun q hq => by unfold sumF; rw [if_pos (by omega)]
      have Os := Lib.hid hS
      have B9 := Lib.hid (Below.next B8.out HW.out B8.out.size)
      have Oa' := Lib.hid (Oa.out.below HW.out Oa.out.lt)
      have Ob' := Lib.hid (Ob.out.below HW.out Ob.out.lt)
      have Oc' := Lib.hid (Oc.out.below HW.out Oc.out.lt)
      have Ol' := Lib.hid (Ol.out.below HW.out Ol.out.lt)
      have Or' := Lib.hid (Or.out.below HW.out Or.out.lt)
      clear hS HO HW B8 Oa Ob Oc Ol Or
      have Oa := Oa'
      clear Oa'
      have Ob := Ob'
      clear Ob'
      have Oc := Oc'
      clear Oc'
      have Ol := Ol'
      clear Ol'
      have Or := Or'
      clear Or'
      generalize w8.heap.size = gs at *
      go_wp2_with fail
      refine (times_any ga gs F _ wr Oa.out Os.out).mono ?_
      rintro e w11 ⟨gp, hg, rfl, hO, hb⟩
      have Bw11 := Lib.hid (Below.next B9.out hb B9.out.size)
      have Oa' := Lib.hid (Oa.out.below hb Oa.out.lt)
      have Ob' := Lib.hid (Ob.out.below hb Ob.out.lt)
      have Oc' := Lib.hid (Oc.out.below hb Oc.out.lt)
      have Ol' := Lib.hid (Ol.out.below hb Ol.out.lt)
      have Or' := Lib.hid (Or.out.below hb Or.out.lt)
      have Os' := Lib.hid (Os.out.below hb Os.out.lt)
      have Op := Lib.hid hO
      clear hO hb hg Oa Ob Oc Ol Or Os B9
      have Oa := Oa'
      clear Oa'
      have Ob := Ob'
      clear Ob'
      have Oc := Oc'
      clear Oc'
      have Ol := Ol'
      clear Ol'
      have Or := Or'
      clear Or'
      have Os := Os'
      clear Os'
      go_wp2_with fail
      refine (times_any ga gb F G w11 Oa.out Ob.out).mono ?_
      rintro e w12 ⟨gq, hg, rfl, hO, hb⟩
      have Bw12 := Lib.hid (Below.next Bw11.out hb Bw11.out.size)
      have Oa' := Lib.hid (Oa.out.below hb Oa.out.lt)
      have Ob' := Lib.hid (Ob.out.below hb Ob.out.lt)
      have Oc' := Lib.hid (Oc.out.below hb Oc.out.lt)
      have Ol' := Lib.hid (Ol.out.below hb Ol.out.lt)
      have Or' := Lib.hid (Or.out.below hb Or.out.lt)
      have Os' := Lib.hid (Os.out.below hb Os.out.lt)
      have Op' := Lib.hid (Op.out.below hb Op.out.lt)
      have Oq := Lib.hid hO
      clear hO hb hg Oa Ob Oc Ol Or Os Op Bw11
      have Oa := Oa'
      clear Oa'
      have Ob := Ob'
      clear Ob'
      have Oc := Oc'
      clear Oc'
      have Ol := Ol'
      clear Ol'
      have Or := Or'
      clear Or'
      have Os := Os'
      clear Os'
      have Op := Op'
      clear Op'
      go_wp2_with fail
      refine (times_any ga gc F K w12 Oa.out Oc.out).mono ?_
      rintro e w13 ⟨gt, hg, rfl, hO, hb⟩
      have Bw13 := Lib.hid (Below.next Bw12.out hb Bw12.out.size)
      have Oa' := Lib.hid (Oa.out.below hb Oa.out.lt)
      have Ob' := Lib.hid (Ob.out.below hb Ob.out.lt)
      have Oc' := Lib.hid (Oc.out.below hb Oc.out.lt)
      have Ol' := Lib.hid (Ol.out.below hb Ol.out.lt)
      have Or' := Lib.hid (Or.out.below hb Or.out.lt)
      have Os' := Lib.hid (Os.out.below hb Os.out.lt)
      have Op' := Lib.hid (Op.out.below hb Op.out.lt)
      have Oq' := Lib.hid (Oq.out.below hb Oq.out.lt)
      have Ot := Lib.hid hO
      clear hO hb hg Oa Ob Oc Ol Or Os Op Oq Bw12
      have Oa := Oa'
      clear Oa'
      have Ob := Ob'
      clear Ob'
      have Oc := Oc'
      clear Oc'
      have Ol := Ol'
      clear Ol'
      have Or := Or'
      clear Or'
      have Os := Os'
      clear Os'
      have Op := Op'
      clear Op'
      have Oq := Oq'
      clear Oq'
      go_wp2_with fail
      refine (words_same _ _ 9 9 9 _ _ w13 (by unfold maxLen; omega) (At.own Ol.out).opt (At.own Or.out).opt (fun i _ => prod_assoc F G K i)).mono ?_
      rintro e w14 ⟨rfl, hb⟩
      have B14 := Lib.hid (Below.next Bw13.out hb Bw13.out.size)
      have Op' := Lib.hid (Op.out.below hb Op.out.lt)
      have Oq' := Lib.hid (Oq.out.below hb Oq.out.lt)
      have Ot' := Lib.hid (Ot.out.below hb Ot.out.lt)
      clear hb Bw13 Oa Ob Oc Ol Or Os Op Oq Ot
      go_wp2
      go_loopw [80] (fun t wr => ∃ i : Nat, i ≤ 9 ∧ t = .int .i64 i ∧ Hid (Below w14.heap.size w14 wr)) (fun t _ => 9 - (intOf t).toNat)
      case atStart => exact ⟨0, by omega, rfl, Below.refl _ _⟩
      case round =>
        rename_i wq
        obtain ⟨i, hi, rfl, HW⟩ := hrel
        by_cases hlt : i < 9
        · have c1 := (Op'.out.below HW.out Op'.out.lt).cell i hlt
          have c2 := (Oq'.out.below HW.out Oq'.out.lt).cell i hlt
          have c3 := (Ot'.out.below HW.out Ot'.out.lt).cell i hlt
          rw [prod_spread, ← u64w'] at c1
          go_wp2
          go_quiet (fail)
          go_wp2
          go_roundw
          case rel => exact ⟨i + 1, by omega, by go_num, HW.out.os, HW.out.tape, HW.out.output, HW.out.size, HW.out.block⟩
          case measure => simp [intOf]; omega
        · go_wp2
          go_ret
          exact ⟨rfl, Below.next B14.out HW.out B14.out.size⟩
end Go.Proofs.YtbfflmjhkeaimaaDoor
