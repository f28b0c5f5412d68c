/- Contracts of aes' makeS. -/
import Derived.Test.YtecdfjcncgcegaaDoorAB1
namespace Go.Proofs.YtecdfjcncgcegaaDoor
open Go.RowKit

theorem zero256 : ∀ w, (zeroValue 65).run Tryd.prog w = .ok (.agg (bys 256 fun _ => 0)) w :=
  (zero_of_info (n := 256) (by kernel_rfl)).1
def MS1 (w : World) (k : Nat) (wr : World) : Prop := Below w.heap.size w wr ∧ OwnB wr w.heap.size 256 65 (fun _ => 0) ∧ OwnB wr (w.heap.size + 1) 256 65 (fun q => if q < k then Aes.p3 q else 0)
def MS2 (w : World) (g k : Nat) (wr : World) : Prop := Below w.heap.size w wr ∧ OwnB wr w.heap.size 256 65 (fun _ => 0) ∧ OwnB wr (w.heap.size + 1) 256 65 Aes.p3 ∧ OwnB wr g 256 65 (Aes.sF k)
theorem p3_dflt (k q : Nat) : (if q = k then Aes.p3 k else if q < k then Aes.p3 q else 0) = if q < k + 1 then Aes.p3 q else 0 := by
  by_cases h : q = k
  · subst h; rw [if_pos rfl, if_pos (by omega)]
  · rw [if_neg h]
    by_cases h' : q < k
    · rw [if_pos h', if_pos (by omega)]
    · rw [if_neg h', if_neg (by omega)]
set_option maxHeartbeats 1000000 in
set_option maxRecDepth 100000 in
theorem makeS_any (w : World) :
    Calls Tryd.prog 28 #[] w fun e w' => e = .returned (.agg (bys 256 Aes.sb)) ∧ Below w.heap.size w w' := by
  have hz := zero256
  go_enter Tryd.func28, Tryd.ntmps28
  go_wp2
  go_loopw [2, 6] (fun b t wr => ∃ k : Nat, k ≤ 256 ∧ t = .int .i64 k ∧ b = .int .u8 (Aes.p3 k : Int) ∧ MS1 w k wr) (fun _ t _ => 256 - (intOf t).toNat)
  case atStart =>
    refine ⟨0, by omega, rfl, rfl, ((Below.refl _ _).alloc (Nat.le_refl _) _).alloc (by simp) _, (OwnB.new w 256 65 fun _ => 0).alloc _, ?_⟩
    have := OwnB.new (w.alloc (.cells (bys 256 fun _ => 0) 65)) 256 65 fun _ => 0
    simp only [World.size_alloc] at this
    exact this
  case round =>
    obtain ⟨k, hk, rfl, rfl, H⟩ := hrel
    by_cases hlt : k < 256
    · have c1 := H.2.2.cell k hlt
      have c2 := H.2.2.frozen k
      have HH := Lib.hid H
      have hp := Aes.p3_lt hlt
      have hx := Lib.hid (bits8_xor (Aes.p3 k) (Aes.xt (Aes.p3 k)) hp (Aes.xt_lt hp))
      clear H
      go_wp2_with (go_at_call 38; refine (twice_any _ _ hp).mono ?_; rintro e w' ⟨rfl, rfl⟩)
      go_roundw
      case rel =>
        obtain ⟨h0, h1, h2⟩ := HH.out
        exact ⟨k + 1, by omega, by go_num, by rw [hx.out]; rfl, h0.setCell (by simp) _, h1.far (by simp) _, (h2.set k _).congr fun q _ => p3_dflt k q⟩
      case measure => simp [intOf]; omega
    · obtain rfl : k = 256 := by omega
      have H2 : MS2 w wr.heap.size 0 ((wr.alloc (.cells (bys 256 fun _ => 0) 65)).setCell ⟨wr.heap.size, 0, none⟩ (.int .u8 (Aes.sI 0 : Int))) :=
        ⟨(H.1.alloc (by have := H.2.1.lt; omega) _).setCell (by have := H.2.1.lt; simp; omega) _, (H.2.1.alloc _).far (by have := H.2.1.lt; simp; omega) _,
          ((H.2.2.alloc _).far (by have := H.2.2.lt; simp; omega) _).congr (fun q hq => by rw [if_pos hq]), ((OwnB.new wr 256 65 fun _ => 0).set 0 (Aes.sI 0)).congr fun q _ => rfl⟩
      have hlt := H.2.2.lt
      have HH := Lib.hid H2
      rw [World.setCell_alloc_at _ _ _ _ _ rfl] at HH
      have hg0 : (bys 256 fun _ => 0)[0]? = some (.int .u8 0) := bys_get 256 (fun _ => 0) 0 (by omega)
      clear H H2
      go_wp2_with (go_at_call 39; refine (sOfInverse_any 0 _ (by omega)).mono ?_; rintro e w' ⟨rfl, rfl⟩)
      clear hg0
      generalize wr.heap.size = g at hlt HH ⊢
      go_loopw [19] (fun t w2 => ∃ k : Nat, k ≤ 255 ∧ t = .int .i64 k ∧ MS2 w g k w2) (fun t _ => 255 - (intOf t).toNat)
      case atStart => exact ⟨0, by omega, rfl, HH.out⟩
      case round =>
        clear HH
        obtain ⟨k, hk, rfl, H⟩ := hrel
        by_cases hlk : k < 255
        · have c1 := H.2.2.1.cell k (by omega)
          have c2 := H.2.2.1.cell (255 - k) (by omega)
          have hp := Aes.p3_lt (n := k) (by omega)
          have c3 := H.2.2.2.cell (Aes.p3 k) hp
          have c4 := H.2.2.2.frozen (Aes.p3 k)
          have hp2 := Aes.p3_lt (n := 255 - k) (by omega)
          have e1 : ((255 : Int) - (k : Int)).toNat = 255 - k := by omega
          have e2 : (k : Int) < 256 := by omega
          have e3 : (255 : Int) - (k : Int) < 256 := by omega
          have e4 : (k : Int) ≤ 255 := by omega
          have e5 : IntKind.i64.wrap ((255 : Int) - (k : Int)) = 255 - (k : Int) := i64_nat _ (by omega) (by omega)
          have e6 : (Aes.p3 k : Int) < 256 := by omega
          have hc := fun w => (sOfInverse_any (Aes.p3 (255 - k)) w hp2).mono (fun e w' h => (⟨h.1, h.2.symm⟩ : e = .returned (.int .u8 (Aes.sI (Aes.p3 (255 - k)) : Int)) ∧ w' = w))
          have HH := Lib.hid H
          have HC := Lib.hid hc
          clear H hc
          go_wp2
          go_still_tail 9, (by kernel_rfl)
          still_call (HC.out _)
          still_step
          refine wpStill_nil ?_
          change wpList _ _ _ _ _ wr.drew
          have HD : MS2 w g k wr.drew := ⟨HH.out.1.drew, HH.out.2.1, HH.out.2.2.1, HH.out.2.2.2⟩
          have HE := Lib.hid HD
          have c3' : wr.drew.cell? ⟨g, Aes.p3 k, none⟩ = some (.int .u8 (Aes.sF k (Aes.p3 k) : Int)) := c3
          have c4' : wr.drew.frozen? ⟨g, Aes.p3 k, none⟩ = false := c4
          clear HD HH c1 c2 c3 c4
          generalize wr.drew = w2 at HE c3' c4' ⊢
          go_wp2
          go_roundw
          case rel =>
            obtain ⟨h0, h1, h2, h3⟩ := HE.out
            exact ⟨k + 1, by omega, by go_num, h0.setCell (by simp; omega) _, h1.far (by simp; omega) _, h2.far (by simp; omega) _, (h3.set (Aes.p3 k) _).congr fun q _ => rfl⟩
          case measure => simp [intOf]; omega
        · obtain rfl : k = 255 := by omega
          obtain ⟨h0, h1, h2, h3⟩ := H
          have HH := Lib.hid h0
          clear h0 hz
          go_wp2_with (first | (refine ld_row 65 256 _ Tryd.underlying65 Tryd.info65 rfl _ rfl _ rfl h3 ?_) | (refine st_row 65 256 Tryd.info65 rfl _ _ rfl _ rfl rfl h1 ?_))
          exact bodyPost_ret (v := .agg (bys 256 Aes.sb)) (res_row 65 256 _ Tryd.underlying65 Tryd.info65 rfl _ _ _ rfl (h1.setRow _) fun q hq => Aes.sF_all q hq) rfl ⟨rfl, Below.row HH.out (by omega) _⟩
end Go.Proofs.YtecdfjcncgcegaaDoor
