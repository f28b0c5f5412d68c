/- Walk of AesWords. -/
import Derived.Test.YtngghmjjeckmpaaAR7
import Derived.Test.YtngghmjjeckmpaaAB9
import Derived.Test.YtngghmjjeckmpaaAQ0
namespace Go.Proofs.Ytngghmjjeckmpaa
open Go.RowKit

/-- What the law holds before its last statement. -/
def WC (w : World) (key : Nat → Nat) (gA g c gb cb gx : Nat) (w' : World) : Prop := Ciph w' gA (Aes.ks key) ∧ RCi w' key g c gb cb ∧ Below w.heap.size w w' ∧ CB w' gx (sl8 g 176 c) (sl8 gb 256 cb)
theorem WC.next {w w1 w2 : World} {key : Nat → Nat} {gA g c gb cb gx : Nat} (h : WC w key gA g c gb cb gx w1) (hb : Below w1.heap.size w1 w2) : WC w key gA g c gb cb gx w2 := ⟨OwnB.below h.1 hb (OwnB.lt h.1), h.2.1.below hb, h.2.2.1.trans (hb.mono h.2.2.1.size), h.2.2.2.below hb h.2.2.2.lt⟩
theorem WC.drawn {w w1 : World} {key : Nat → Nat} {gA g c gb cb gx : Nat} (h : WC w key gA g c gb cb gx w1) : WC w key gA g c gb cb gx { w1 with drawn := w1.drawn + 1 } := ⟨h.1, h.2.1, h.2.2.1.drew, h.2.2.2⟩
set_option maxHeartbeats 1000000 in
set_option maxRecDepth 100000 in
theorem words_walk (key : Nat → Nat) (n : Nat) (w : World) (hk : ∀ i, key i < 256) (hn : n < 18446744073709551616) :
    Calls Try.prog 4 #[.agg (bys 16 key), .int .u64 (n : Int)] w fun e w' => e = .returned (.bool true) ∧ Below w.heap.size w w' := by
  have HK := Lib.hid hk
  clear hk
  have h1 := OwnB.new w 16 22 key
  have HI := Lib.hid (And.intro h1 ((Below.refl w.heap.size w).alloc (Nat.le_refl _) (.cells (bys 16 key) 22)))
  go_enter Try.func4, Try.ntmps4
  go_wp2_with (refine ld_row 22 16 _ Try.underlying22 Try.info22 rfl _ rfl _ rfl h1 ?_)
  clear h1
  generalize (w.alloc (.cells (bys 16 key) 22)) = w0 at HI ⊢
  refine (new_made key _ HK.out).mono ?_
  rintro e w1 ⟨gA, rfl, hm⟩
  have HB := Lib.hid (show Ciph w1 gA (Aes.ks key) ∧ OwnB w1 w.heap.size 16 22 key ∧ Below w.heap.size w w1 from ⟨hm.2.1, HI.out.1.below hm.2.2 HI.out.1.lt, HI.out.2.trans (hm.2.2.mono HI.out.2.size)⟩)
  clear hm HI
  go_wp2_with (fail)
  refine (awake_any _).mono ?_
  rintro e w2 ⟨rfl, hb⟩
  have HB2 := Lib.hid (show Ciph w2 gA (Aes.ks key) ∧ OwnB w2 w.heap.size 16 22 key ∧ Below w.heap.size w w2 from ⟨OwnB.below HB.out.1 hb (OwnB.lt HB.out.1), HB.out.2.1.below hb HB.out.2.1.lt, HB.out.2.2.trans (hb.mono HB.out.2.2.size)⟩)
  clear hb HB
  go_wp2_with (fail)
  refine (rnew_any key _ 16 _ HK.out (AtB.own HB2.out.2.1) ⟨Nat.le_refl _, by decide⟩).mono ?_
  rintro e w3 ⟨g, c, gb, cb, rfl, hC, hb⟩
  have HB3 := Lib.hid (show Ciph w3 gA (Aes.ks key) ∧ RCi w3 key g c gb cb ∧ Below w.heap.size w w3 from ⟨OwnB.below HB2.out.1 hb (OwnB.lt HB2.out.1), hC, HB2.out.2.2.trans (hb.mono HB2.out.2.2.size)⟩)
  clear hb HB2 hC
  go_wp2
  have HC := Lib.hid (show WC w key gA g c gb cb w3.heap.size (w3.alloc (.cells #[sl8 g 176 c, sl8 gb 256 cb] 30)) from ⟨OwnB.alloc HB3.out.1 _, HB3.out.2.1.below ((Below.refl _ _).alloc (Nat.le_refl _) _), HB3.out.2.2.alloc HB3.out.2.2.size _, CB.new w3 _ _⟩)
  clear HB3
  obtain ⟨n1, hn1⟩ : ∃ x, x = n ^^^ 1 := ⟨_, rfl⟩
  have hx : bits .xor .u64 (n : Int) 1 = (n1 : Int) := by have := bits_xor n 1 hn (by omega); rw [hn1]; exact this
  have hl1 : n1 < 18446744073709551616 := by rw [hn1]; exact xor_lt hn (by omega)
  clear hn1
  refine region_quiet (C := WC w key gA g c gb cb w3.heap.size) (by kernel_rfl) (by kernel_rfl) HC.out.drawn ?_
  go_big_quiet_want; go_big_quiet_op; go_big_quiet_on
  go_big_quiet_want; go_big_quiet_op; go_big_quiet_on
  go_big_quiet_want; refine quiet_call _ _ (.int .u64 (wordN (Aes.ks key) n : Int)) (fun w => by go_simp) (fun w' h => (word_any gA (Aes.ks key) n w' h.1 (Aes.ks_lt key HK.out) hn).mono fun _ _ ⟨he, hb⟩ => ⟨he, h.next hb⟩) ?_; (simp only [Act.put, List.setIfInBounds_toArray, List.set_cons_zero, List.set_cons_succ]); go_big_quiet_on
  go_big_quiet_want; refine quiet_val (rci g c gb cb) (fun w' h => by have a0 := h.2.2.2.cell0; have a1 := h.2.2.2.cell1; go_simp) ?_; (simp only [Act.put, List.setIfInBounds_toArray, List.set_cons_zero, List.set_cons_succ]); go_big_quiet_on
  go_big_quiet_want; go_big_quiet_op; go_big_quiet_on
  go_big_quiet_want; refine quiet_call _ _ (.int .u64 (wordN (Aes.ks key) n : Int)) (fun w => by go_simp) (fun w' h => (rword_any key g c gb cb n w' h.2.1 HK.out hn).mono fun _ _ ⟨he, hb⟩ => ⟨he, h.next hb⟩) ?_; (simp only [Act.put, List.setIfInBounds_toArray, List.set_cons_zero, List.set_cons_succ]); go_big_quiet_on
  go_big_quiet_want; refine quiet_val (.bool true) (fun w' h => by go_simp) ?_; (simp only [Act.put, List.setIfInBounds_toArray, List.set_cons_zero, List.set_cons_succ]); go_big_quiet_on
  go_big_quiet_want; go_big_quiet_op; go_big_quiet_on
  go_big_quiet_want; go_big_quiet_op; go_big_quiet_on
  go_big_quiet_want; go_big_quiet_op; go_big_quiet_on
  go_big_quiet_want; refine quiet_val (.int .u64 (n1 : Int)) (fun w' h => by go_simp) ?_; (simp only [Act.put, List.setIfInBounds_toArray, List.set_cons_zero, List.set_cons_succ]); go_big_quiet_on
  go_big_quiet_want; refine quiet_call _ _ (.int .u64 (wordN (Aes.ks key) n1 : Int)) (fun w => by go_simp) (fun w' h => (word_any gA (Aes.ks key) n1 w' h.1 (Aes.ks_lt key HK.out) hl1).mono fun _ _ ⟨he, hb⟩ => ⟨he, h.next hb⟩) ?_; (simp only [Act.put, List.setIfInBounds_toArray, List.set_cons_zero, List.set_cons_succ]); go_big_quiet_on
  go_big_quiet_want; refine quiet_val (rci g c gb cb) (fun w' h => by have a0 := h.2.2.2.cell0; have a1 := h.2.2.2.cell1; go_simp) ?_; (simp only [Act.put, List.setIfInBounds_toArray, List.set_cons_zero, List.set_cons_succ]); go_big_quiet_on
  go_big_quiet_want; go_big_quiet_op; go_big_quiet_on
  go_big_quiet_want; refine quiet_val (.int .u64 (n1 : Int)) (fun w' h => by go_simp) ?_; (simp only [Act.put, List.setIfInBounds_toArray, List.set_cons_zero, List.set_cons_succ]); go_big_quiet_on
  go_big_quiet_want; refine quiet_call _ _ (.int .u64 (wordN (Aes.ks key) n1 : Int)) (fun w => by go_simp) (fun w' h => (rword_any key g c gb cb n1 w' h.2.1 HK.out hl1).mono fun _ _ ⟨he, hb⟩ => ⟨he, h.next hb⟩) ?_; (simp only [Act.put, List.setIfInBounds_toArray, List.set_cons_zero, List.set_cons_succ]); go_big_quiet_on
  go_big_quiet_want; refine quiet_val (.bool true) (fun w' h => by go_simp) ?_; (simp only [Act.put, List.setIfInBounds_toArray, List.set_cons_zero, List.set_cons_succ]); go_big_quiet_on
  go_big_quiet_want; refine quiet_val (.bool true) (fun w' h => by go_simp) ?_; (simp only [Act.put, List.setIfInBounds_toArray, List.set_cons_zero, List.set_cons_succ]); go_big_quiet_on
  go_big_quiet_want; go_big_quiet_op; go_big_quiet_on
  refine wpQuiet_nil ?_
  intro w' hw'
  have HW := Lib.hid hw'.2.2.1
  clear hw' HC
  go_wp2
  go_ret
  exact ⟨rfl, HW.out⟩
end Go.Proofs.Ytngghmjjeckmpaa
