/- Contracts of garble's Pick and of the document's Reply. -/
import Derived.Test.YtamejhhjfnfalaaDoorZGC2
namespace Go.Proofs.YtamejhhjfnfalaaDoor
open Go.RowKit

/-- The labels that the receiver gets. -/
def pickN (L p : Nat → Lab) (x : Nat) (i : Nat) : Lab := Garb.nadd (if x.testBit i then L (2 * i + 1) else L (2 * i)) (p i)
set_option maxHeartbeats 1000000 in
set_option maxRecDepth 100000 in
theorem pick_no (w : World) (A : Option Addr) (c : Nat) (x : Nat) (Az : Option Addr) (n cz : Nat) (hh : Handle w) (hn : n ≠ 128) : Calls Tryd.prog 32 #[.slice A 64 c, .int .u64 (x : Int), .slice Az n cz] w (RpBad w) := by
  have HJ := Lib.hid (just_yes 64 ⟨#[111, 116, 115]⟩ w)
  have HJ2 := Lib.hid (just_no 128 n ⟨#[114, 101, 112, 108, 121]⟩ w hh hn)
  unfold RpBad
  clear hn hh
  go_enter Tryd.func32, Tryd.ntmps32
  go_wp2_with fail
  refine HJ.out.mono ?_
  rintro e w1 ⟨rfl, rfl⟩
  go_wp2_with fail
  refine HJ2.out.mono ?_
  rintro e w2 ⟨⟨p, a, rfl⟩, hb⟩
  obtain ⟨T, y, hT⟩ := chain_iface [(p, a)] 1
  have HT := Lib.hid hT
  have HB := Lib.hid hb
  rw [hT]
  clear hT hb
  go_wp2
  go_ret2
  exact ⟨⟨p, a, by rw [HT.out]; rfl⟩, HB.out⟩

set_option maxHeartbeats 8000000 in
set_option maxRecDepth 100000 in
theorem pick_ok (w : World) (go co gr cr : Nat) (p q L : Nat → Lab) (f : Nat → Bool) (x : Nat) (hA : AtV w (some ⟨go, 0, none⟩) (64 * 5) (ov p q f)) (hL : AtV w (some ⟨gr, 0, none⟩) (128 * 2) (lv L)) (hp : ∀ i, Garb.Wd (p i)) (hw : ∀ i, Garb.Wd (L i)) (hx : x < 18446744073709551616) :
    Calls Tryd.prog 32 #[.slice (some ⟨go, 0, none⟩) 64 co, .int .u64 (x : Int), .slice (some ⟨gr, 0, none⟩) 128 cr] w fun e w' => e = .returned (.tuple #[.slice (some ⟨w.heap.size, 0, none⟩) 64 64, .nilIface]) ∧ Row w' w.heap.size 28 2 (.slice (some ⟨w.heap.size, 0, none⟩) 64 64) 64 (lv (pickN L p x)) ∧ Below w.heap.size w w' := by
  have HJ := Lib.hid (just_yes 64 ⟨#[111, 116, 115]⟩ w)
  have HJ2 := Lib.hid (just_yes 128 ⟨#[114, 101, 112, 108, 121]⟩ w)
  have hmk : (Instr.makeSlice 29 (.int .i64 64) (.int .i64 64)).run Tryd.prog w = .ok (.slice (some ⟨w.heap.size, 0, none⟩) 64 64) (w.alloc (.cells (madeCells #[Value.int .u64 0, Value.int .u64 0] (64 * 2)) 28)) := run_makeL w 64 64 (by omega) (by omega)
  have hR2 := made_labs w 64 64 (by omega) (by unfold maxLen; omega)
  have hb2 : Below w.heap.size w (w.alloc (.cells (madeCells #[Value.int .u64 0, Value.int .u64 0] (64 * 2)) 28)) := (Below.refl _ _).alloc (Nat.le_refl _) _
  have HI0 := Lib.hid (And.intro hR2 hb2)
  have HA := Lib.hid (And.intro hA hL)
  have HW := Lib.hid (And.intro hp hw)
  have Ha := Lib.hid hx
  clear hR2 hb2 hA hL hp hw hx
  go_enter Tryd.func32, Tryd.ntmps32
  go_wp2_with fail
  refine HJ.out.mono ?_
  rintro e w2 ⟨rfl, rfl⟩
  go_wp2_with fail
  refine HJ2.out.mono ?_
  rintro e w3 ⟨rfl, rfl⟩
  clear HJ HJ2
  go_wp2
  clear hmk
  generalize (w.alloc (.cells (madeCells #[Value.int .u64 0, Value.int .u64 0] (64 * 2)) 28)) = w4 at *
  go_loopw [29] (fun i wr => ∃ k : Nat, k ≤ 64 ∧ i = .int .i64 k ∧ Hid (Row wr w.heap.size 28 2 (.slice (some ⟨w.heap.size, 0, none⟩) 64 64) 64 (lv fun q => if q < k then pickN L p x q else (0, 0)) ∧ Below w.heap.size w wr)) (fun i _ => 64 - (intOf i).toNat)
  case atStart => exact ⟨0, by omega, rfl, HI0.out.1.congr (lv_congr fun i _ => by rw [if_neg (by omega)]), HI0.out.2⟩
  case round =>
    clear HI0
    obtain ⟨k, hk, rfl, HI⟩ := hrel
    by_cases hlt : k < 64
    · obtain ⟨_, e9, ae, hae, c0, c1, c2, c3, c4, -⟩ := (HA.out.1.below HI.out.2).ot k hlt
      cases e9
      rw [Addr.add_mid, Nat.zero_add] at hae
      subst hae
      have lt1 : (k : Int) < 64 := by omega
      have lt0 : (0 : Int) ≤ (k : Int) := by omega
      have lt4 : ¬ (k : Int) < 0 := by omega
      have lt5 : ¬ 64 ≤ k := by omega
      have e1 : IntKind.i64.wrap ((k : Int) + 1) = (k : Int) + 1 := i64_nat _ (by omega) (by omega)
      obtain ⟨e2, e3⟩ := bit_and x k Ha.out
      have XO := Blk.new wr 71 (otC (p k) (q k) (f k))
      have hbO := (Below.refl wr.heap.size wr).alloc (Nat.le_refl _) (.cells (otC (p k) (q k) (f k)) 71)
      have hbW := HI.out.2.trans (hbO.mono HI.out.2.size)
      have HO5 := Lib.hid (show Blk _ wr.heap.size 71 (otC (p k) (q k) (f k)) from XO)
      have HR5 := Lib.hid (HI.out.1.below hbO)
      have HB5 := Lib.hid hbW
      have HLt := Lib.hid hlt
      clear XO hbO hbW HI
      cases hbt : x.testBit k with
      | false =>
        rw [hbt] at e2
        have e2 : bits .and .u64 ((x : Int) / 2 ^ k) 1 = 0 := e2
        obtain ⟨m2, hm2⟩ : ∃ m2, 2 * k = m2 := ⟨_, rfl⟩
        obtain ⟨X, hX⟩ : ∃ X, m2 + 0 = X := ⟨_, rfl⟩
        have HPk := Lib.hid (show pickN L p x k = Garb.nadd (L X) (p k) by unfold pickN; rw [hbt, ← hX, ← hm2]; rfl)
        have HE4 := Lib.hid (show IntKind.i64.wrap (2 * (k : Int)) = (m2 : Int) ∧ IntKind.i64.wrap ((m2 : Int) + 0) = (X : Int) from ⟨by rw [i64_nat _ (by omega) (by omega)]; omega, by rw [i64_nat _ (by omega) (by omega)]; omega⟩)
        have HE5 := Lib.hid (show IntKind.i64.wrap (m2 : Int) = (m2 : Int) from i64_nat _ (by omega) (by omega))
        have HXk := Lib.hid (show X ≤ 2 * k + 1 by omega)
        have hXm : X = m2 := by omega
        have HXm := Lib.hid hXm
        clear hbt hm2 hX hXm
        go_wp2
        clear c0 c1 c2 c3 c4 e2 e3
        generalize (wr.alloc (.cells (otC (p k) (q k) (f k)) 71)) = w5 at *
        refine region_y [14] (fun w' => Below w5.heap.size w5 w') (by kernel_rfl) ?_
        have hS : Below w5.heap.size w5 w5.drew := drew_below w5
        refine yu (i := 0) rfl (.slice (some ⟨w.heap.size, 0, none⟩) 64 64) (by kernel_rfl) (by kernel_rfl) (by kernel_rfl) (fun _ _ _ h => h) (fun w' => by go_simp) ?_
        try simp only [Act.put, List.setIfInBounds_toArray, List.set_cons_zero, List.set_cons_succ]
        refine yu (i := 1) rfl (.int .i64 (k : Int)) (by kernel_rfl) (by kernel_rfl) (by kernel_rfl) (fun _ _ _ h => h) (fun w' => by go_simp) ?_
        try simp only [Act.put, List.setIfInBounds_toArray, List.set_cons_zero, List.set_cons_succ]
        refine yu (i := 2) rfl (.slice (some ⟨gr, 0, none⟩) 128 cr) (by kernel_rfl) (by kernel_rfl) (by kernel_rfl) (fun _ _ _ h => h) (fun w' => by go_simp) ?_
        try simp only [Act.put, List.setIfInBounds_toArray, List.set_cons_zero, List.set_cons_succ]
        refine yu (i := 3) rfl (.int .i64 (k : Int)) (by kernel_rfl) (by kernel_rfl) (by kernel_rfl) (fun _ _ _ h => h) (fun w' => by go_simp) ?_
        try simp only [Act.put, List.setIfInBounds_toArray, List.set_cons_zero, List.set_cons_succ]
        refine yu (i := 4) rfl (.int .i64 (m2 : Int)) (by kernel_rfl) (by kernel_rfl) (by kernel_rfl) (fun _ _ _ h => h) (fun w' => by have e4 := HE4.out.1; go_simp) ?_
        try simp only [Act.put, List.setIfInBounds_toArray, List.set_cons_zero, List.set_cons_succ]
        refine yu (i := 5) rfl (.int .i64 0) (by kernel_rfl) (by kernel_rfl) (by kernel_rfl) (fun _ _ _ h => h) (fun w' => by go_simp) ?_
        try simp only [Act.put, List.setIfInBounds_toArray, List.set_cons_zero, List.set_cons_succ]
        refine yu (i := 6) rfl (.int .i64 (X : Int)) (by kernel_rfl) (by kernel_rfl) (by kernel_rfl) (fun _ _ _ h => h) (fun w' => by have e6 := HE4.out.2; have e8 : (m2 : Int) = (X : Int) := (by have := HXm.out; omega); have e9 : IntKind.i64.wrap (X : Int) = (X : Int) := (by rw [← e8]; exact HE5.out); have e7 : IntKind.i64.wrap (m2 : Int) = (m2 : Int) := HE5.out; go_simp) ?_
        try simp only [Act.put, List.setIfInBounds_toArray, List.set_cons_zero, List.set_cons_succ]
        refine yu (i := 7) rfl (.pointer (some ⟨gr, X * 2, none⟩)) (by kernel_rfl) (by kernel_rfl) (by kernel_rfl) (fun _ _ _ h => h) (fun w' => by have lt2 : (X : Int) < 128 := (by have := HXk.out; have := HLt.out; omega); have lt3 : (0 : Int) ≤ (X : Int) := (by omega); go_simp) ?_
        try simp only [Act.put, List.setIfInBounds_toArray, List.set_cons_zero, List.set_cons_succ]
        refine yt [14, 12] (i := 8) rfl (labL (L X)) (by kernel_rfl) (by kernel_rfl) (by kernel_rfl) (by kernel_rfl) (fun _ _ _ h => h) hS (fun w' hw' => by have hX := HA.out.2.below (HB5.out.trans (hw'.mono HB5.out.size)); obtain ⟨_, e9, ae, hae, q0, q1, -⟩ := hX.lab X (by have := HXk.out; have := HLt.out; omega); cases e9; rw [Addr.add_mid, Nat.zero_add] at hae; subst hae; clear hX; go_simp) ?_
        try simp only [Act.put, List.setIfInBounds_toArray, List.set_cons_zero, List.set_cons_succ]
        refine yu (i := 9) rfl (.pointer (some ⟨wr.heap.size, 0, none⟩)) (by kernel_rfl) (by kernel_rfl) (by kernel_rfl) (fun _ _ _ h => h) (fun w' => by go_simp) ?_
        try simp only [Act.put, List.setIfInBounds_toArray, List.set_cons_zero, List.set_cons_succ]
        refine yu (i := 10) rfl (.pointer (some ⟨wr.heap.size, 0, none⟩)) (by kernel_rfl) (by kernel_rfl) (by kernel_rfl) (fun _ _ _ h => h) (fun w' => by go_simp) ?_
        try simp only [Act.put, List.setIfInBounds_toArray, List.set_cons_zero, List.set_cons_succ]
        refine yt [14, 12] (i := 11) rfl (labL (p k)) (by kernel_rfl) (by kernel_rfl) (by kernel_rfl) (by kernel_rfl) (fun _ _ _ h => h) hS (fun w' hw' => by have hX := Blk.below HO5.out hw' (Blk.lt HO5.out); have q0 := Blk.cell hX 0 rfl; have q1 := Blk.cell hX 1 rfl; clear hX; go_simp) ?_
        try simp only [Act.put, List.setIfInBounds_toArray, List.set_cons_zero, List.set_cons_succ]
        refine y1 (i := 12) (by kernel_rfl) rfl (fun K' hK => ?_)
        go_simp
        refine (xor_lab (L X) (p k) w5.drew (HW.out.2 X) (HW.out.1 k)).mono ?_
        rintro e v1 ⟨rfl, hbv1⟩
        have hS := hS.trans (hbv1.mono hS.size)
        refine hK.out _ _ (.inr fun _ => hS) ?_
        clear hK K' hbv1
        try simp only [Act.put, List.setIfInBounds_toArray, List.set_cons_zero, List.set_cons_succ]
        refine yu (i := 13) rfl (.pointer (some ⟨w.heap.size, k * 2, none⟩)) (by kernel_rfl) (by kernel_rfl) (by kernel_rfl) (fun _ _ _ h => h) (fun w' => by have lt2 : (k : Int) < 64 := (by have := HLt.out; omega); have lt3 : (0 : Int) ≤ (k : Int) := (by omega); go_simp) ?_
        try simp only [Act.put, List.setIfInBounds_toArray, List.set_cons_zero, List.set_cons_succ]
        have hRv := HR5.out.below hS
        have zf := hRv.frozen (k * 2)
        have zf1 := hRv.frozen (k * 2 + 1)
        have ca := hRv.cellAt (k * 2) (by have := HLt.out; omega)
        have ca1 := hRv.cellAt (k * 2 + 1) (by have := HLt.out; omega)
        have HF := Lib.hid (And.intro hRv (HB5.out.trans (hS.mono HB5.out.size)))
        refine y1 (i := 14) (by kernel_rfl) rfl (fun K' hK => ?_)
        go_simp
        refine hK.out _ _ (.inl (by decide)) ?_
        clear hK K' hS zf zf1 ca ca1 hRv
        try simp only [Act.put, List.setIfInBounds_toArray, List.set_cons_zero, List.set_cons_succ]
        refine wpAnyY_done (by kernel_rfl) ?_ _
        go_wp2
        go_roundw
        case rel => exact ⟨k + 1, by have := HLt.out; omega, by go_num, HF.out.1.setL k HLt.out (Garb.nadd (L X) (p k)) (fun q _ => by
          by_cases h : q = k
          · subst h; rw [if_pos rfl, if_pos (by omega)]; exact HPk.out
          · rw [if_neg h]
            by_cases h2 : q < k
            · rw [if_pos h2, if_pos (by omega)]
            · rw [if_neg h2, if_neg (by omega)]), (HF.out.2.setCell (p := ⟨w.heap.size, k * 2, none⟩) (Nat.le_refl _) _).setCell (p := ⟨w.heap.size, k * 2 + 1, none⟩) (Nat.le_refl _) _⟩
        case measure => simp [intOf]; have := HLt.out; omega
      | true =>
        rw [hbt] at e2
        have e2 : bits .and .u64 ((x : Int) / 2 ^ k) 1 = 1 := e2
        obtain ⟨m2, hm2⟩ : ∃ m2, 2 * k = m2 := ⟨_, rfl⟩
        obtain ⟨X, hX⟩ : ∃ X, m2 + 1 = X := ⟨_, rfl⟩
        have HPk := Lib.hid (show pickN L p x k = Garb.nadd (L X) (p k) by unfold pickN; rw [hbt, ← hX, ← hm2]; rfl)
        have HE4 := Lib.hid (show IntKind.i64.wrap (2 * (k : Int)) = (m2 : Int) ∧ IntKind.i64.wrap ((m2 : Int) + 1) = (X : Int) from ⟨by rw [i64_nat _ (by omega) (by omega)]; omega, by rw [i64_nat _ (by omega) (by omega)]; omega⟩)
        have HE5 := Lib.hid (show IntKind.i64.wrap (m2 : Int) = (m2 : Int) from i64_nat _ (by omega) (by omega))
        have HXk := Lib.hid (show X ≤ 2 * k + 1 by omega)
        
        clear hbt hm2 hX 
        go_wp2
        clear c0 c1 c2 c3 c4 e2 e3
        generalize (wr.alloc (.cells (otC (p k) (q k) (f k)) 71)) = w5 at *
        refine region_y [14] (fun w' => Below w5.heap.size w5 w') (by kernel_rfl) ?_
        have hS : Below w5.heap.size w5 w5.drew := drew_below w5
        refine yu (i := 0) rfl (.slice (some ⟨w.heap.size, 0, none⟩) 64 64) (by kernel_rfl) (by kernel_rfl) (by kernel_rfl) (fun _ _ _ h => h) (fun w' => by go_simp) ?_
        try simp only [Act.put, List.setIfInBounds_toArray, List.set_cons_zero, List.set_cons_succ]
        refine yu (i := 1) rfl (.int .i64 (k : Int)) (by kernel_rfl) (by kernel_rfl) (by kernel_rfl) (fun _ _ _ h => h) (fun w' => by go_simp) ?_
        try simp only [Act.put, List.setIfInBounds_toArray, List.set_cons_zero, List.set_cons_succ]
        refine yu (i := 2) rfl (.slice (some ⟨gr, 0, none⟩) 128 cr) (by kernel_rfl) (by kernel_rfl) (by kernel_rfl) (fun _ _ _ h => h) (fun w' => by go_simp) ?_
        try simp only [Act.put, List.setIfInBounds_toArray, List.set_cons_zero, List.set_cons_succ]
        refine yu (i := 3) rfl (.int .i64 (k : Int)) (by kernel_rfl) (by kernel_rfl) (by kernel_rfl) (fun _ _ _ h => h) (fun w' => by go_simp) ?_
        try simp only [Act.put, List.setIfInBounds_toArray, List.set_cons_zero, List.set_cons_succ]
        refine yu (i := 4) rfl (.int .i64 (m2 : Int)) (by kernel_rfl) (by kernel_rfl) (by kernel_rfl) (fun _ _ _ h => h) (fun w' => by have e4 := HE4.out.1; go_simp) ?_
        try simp only [Act.put, List.setIfInBounds_toArray, List.set_cons_zero, List.set_cons_succ]
        refine yu (i := 5) rfl (.int .i64 1) (by kernel_rfl) (by kernel_rfl) (by kernel_rfl) (fun _ _ _ h => h) (fun w' => by go_simp) ?_
        try simp only [Act.put, List.setIfInBounds_toArray, List.set_cons_zero, List.set_cons_succ]
        refine yu (i := 6) rfl (.int .i64 (X : Int)) (by kernel_rfl) (by kernel_rfl) (by kernel_rfl) (fun _ _ _ h => h) (fun w' => by have e6 := HE4.out.2; have e7 : IntKind.i64.wrap (m2 : Int) = (m2 : Int) := HE5.out; go_simp) ?_
        try simp only [Act.put, List.setIfInBounds_toArray, List.set_cons_zero, List.set_cons_succ]
        refine yu (i := 7) rfl (.pointer (some ⟨gr, X * 2, none⟩)) (by kernel_rfl) (by kernel_rfl) (by kernel_rfl) (fun _ _ _ h => h) (fun w' => by have lt2 : (X : Int) < 128 := (by have := HXk.out; have := HLt.out; omega); have lt3 : (0 : Int) ≤ (X : Int) := (by omega); go_simp) ?_
        try simp only [Act.put, List.setIfInBounds_toArray, List.set_cons_zero, List.set_cons_succ]
        refine yt [14, 12] (i := 8) rfl (labL (L X)) (by kernel_rfl) (by kernel_rfl) (by kernel_rfl) (by kernel_rfl) (fun _ _ _ h => h) hS (fun w' hw' => by have hX := HA.out.2.below (HB5.out.trans (hw'.mono HB5.out.size)); obtain ⟨_, e9, ae, hae, q0, q1, -⟩ := hX.lab X (by have := HXk.out; have := HLt.out; omega); cases e9; rw [Addr.add_mid, Nat.zero_add] at hae; subst hae; clear hX; go_simp) ?_
        try simp only [Act.put, List.setIfInBounds_toArray, List.set_cons_zero, List.set_cons_succ]
        refine yu (i := 9) rfl (.pointer (some ⟨wr.heap.size, 0, none⟩)) (by kernel_rfl) (by kernel_rfl) (by kernel_rfl) (fun _ _ _ h => h) (fun w' => by go_simp) ?_
        try simp only [Act.put, List.setIfInBounds_toArray, List.set_cons_zero, List.set_cons_succ]
        refine yu (i := 10) rfl (.pointer (some ⟨wr.heap.size, 0, none⟩)) (by kernel_rfl) (by kernel_rfl) (by kernel_rfl) (fun _ _ _ h => h) (fun w' => by go_simp) ?_
        try simp only [Act.put, List.setIfInBounds_toArray, List.set_cons_zero, List.set_cons_succ]
        refine yt [14, 12] (i := 11) rfl (labL (p k)) (by kernel_rfl) (by kernel_rfl) (by kernel_rfl) (by kernel_rfl) (fun _ _ _ h => h) hS (fun w' hw' => by have hX := Blk.below HO5.out hw' (Blk.lt HO5.out); have q0 := Blk.cell hX 0 rfl; have q1 := Blk.cell hX 1 rfl; clear hX; go_simp) ?_
        try simp only [Act.put, List.setIfInBounds_toArray, List.set_cons_zero, List.set_cons_succ]
        refine y1 (i := 12) (by kernel_rfl) rfl (fun K' hK => ?_)
        go_simp
        refine (xor_lab (L X) (p k) w5.drew (HW.out.2 X) (HW.out.1 k)).mono ?_
        rintro e v1 ⟨rfl, hbv1⟩
        have hS := hS.trans (hbv1.mono hS.size)
        refine hK.out _ _ (.inr fun _ => hS) ?_
        clear hK K' hbv1
        try simp only [Act.put, List.setIfInBounds_toArray, List.set_cons_zero, List.set_cons_succ]
        refine yu (i := 13) rfl (.pointer (some ⟨w.heap.size, k * 2, none⟩)) (by kernel_rfl) (by kernel_rfl) (by kernel_rfl) (fun _ _ _ h => h) (fun w' => by have lt2 : (k : Int) < 64 := (by have := HLt.out; omega); have lt3 : (0 : Int) ≤ (k : Int) := (by omega); go_simp) ?_
        try simp only [Act.put, List.setIfInBounds_toArray, List.set_cons_zero, List.set_cons_succ]
        have hRv := HR5.out.below hS
        have zf := hRv.frozen (k * 2)
        have zf1 := hRv.frozen (k * 2 + 1)
        have ca := hRv.cellAt (k * 2) (by have := HLt.out; omega)
        have ca1 := hRv.cellAt (k * 2 + 1) (by have := HLt.out; omega)
        have HF := Lib.hid (And.intro hRv (HB5.out.trans (hS.mono HB5.out.size)))
        refine y1 (i := 14) (by kernel_rfl) rfl (fun K' hK => ?_)
        go_simp
        refine hK.out _ _ (.inl (by decide)) ?_
        clear hK K' hS zf zf1 ca ca1 hRv
        try simp only [Act.put, List.setIfInBounds_toArray, List.set_cons_zero, List.set_cons_succ]
        refine wpAnyY_done (by kernel_rfl) ?_ _
        go_wp2
        go_roundw
        case rel => exact ⟨k + 1, by have := HLt.out; omega, by go_num, HF.out.1.setL k HLt.out (Garb.nadd (L X) (p k)) (fun q _ => by
          by_cases h : q = k
          · subst h; rw [if_pos rfl, if_pos (by omega)]; exact HPk.out
          · rw [if_neg h]
            by_cases h2 : q < k
            · rw [if_pos h2, if_pos (by omega)]
            · rw [if_neg h2, if_neg (by omega)]), (HF.out.2.setCell (p := ⟨w.heap.size, k * 2, none⟩) (Nat.le_refl _) _).setCell (p := ⟨w.heap.size, k * 2 + 1, none⟩) (Nat.le_refl _) _⟩
        case measure => simp [intOf]; have := HLt.out; omega
    · obtain rfl : k = 64 := by omega
      have lt1 : ¬ ((64 : Nat) : Int) < 64 := by omega
      have HB := Lib.hid HI.out
      clear hlt hk HI
      go_wp2
      go_ret2
      exact ⟨rfl, HB.out.1.congr (lv_congr fun i hi => by rw [if_pos hi]), HB.out.2⟩

set_option maxHeartbeats 8000000 in
set_option maxRecDepth 100000 in
theorem rreply_ok (w : World) (go co gz cz : Nat) (p q z : Nat → Lab) (f : Nat → Bool) (d : Lab) (a : Nat) (hA : AtV w (some ⟨go, 0, none⟩) (64 * 5) (ov p q f)) (hZ : AtV w (some ⟨gz, 0, none⟩) (64 * 2) (lv z)) (hp : ∀ i, Garb.Wd (p i)) (hq : ∀ i, Garb.Wd (q i)) (hz : ∀ i, Garb.Wd (z i)) (hd : Garb.Wd d) (ha : a < 18446744073709551616) :
    Calls Tryd.prog 33 #[.slice (some ⟨go, 0, none⟩) 64 co, .int .u64 (a : Int), .slice (some ⟨gz, 0, none⟩) 64 cz, labL d] w fun e w' => ∃ v, e = .returned v ∧ Row w' w.heap.size 28 2 v 128 (lv (repN z p q d a)) ∧ Below w.heap.size w w' := by
  have XD := Blk.new w 28 #[.int .u64 (d.1 : Int), .int .u64 (d.2 : Int)]
  have hb0 := (Below.refl w.heap.size w).alloc (Nat.le_refl _) (.cells #[.int .u64 (d.1 : Int), .int .u64 (d.2 : Int)] 28)
  have HX := Lib.hid (And.intro (show LbB _ w.heap.size d from XD) hb0)
  have HA := Lib.hid (And.intro hA hZ)
  have HW := Lib.hid (And.intro hp (And.intro hq (And.intro hz hd)))
  have Ha := Lib.hid ha
  clear XD hb0 hA hZ hp hq hz hd ha
  go_enter Tryd.func33, Tryd.ntmps33
  go_wp2
  go_loopw [9, 10] (fun v' i wr => ∃ k : Nat, ∃ v, k ≤ 64 ∧ v = v' ∧ i = .int .i64 k ∧ Hid (Row wr (w.heap.size + 1) 28 2 v (2 * k) (lv (repN z p q d a)) ∧ Below w.heap.size w wr ∧ LbB wr w.heap.size d)) (fun _ i _ => 64 - (intOf i).toNat)
  case atStart => exact ⟨0, _, by omega, rfl, rfl, Row.nil _ _ _ _ _, HX.out.2, HX.out.1⟩
  case round =>
    clear HX
    obtain ⟨k, v, hk, rfl, rfl, HI⟩ := hrel
    by_cases hlt : k < 64
    · have lt1 : (k : Int) < 64 := by omega
      have e1 : IntKind.i64.wrap ((k : Int) + 1) = (k : Int) + 1 := i64_nat _ (by omega) (by omega)
      have HR5 := Lib.hid HI.out.1
      have HB5 := Lib.hid HI.out.2.1
      have HD5 := Lib.hid HI.out.2.2
      have HZ5 := Lib.hid (HA.out.2.below HI.out.2.1)
      have HO5 := Lib.hid (HA.out.1.below HI.out.2.1)
      have HLt := Lib.hid hlt
      clear hlt HI
      cases hbt : a.testBit k with
      | false =>
        have HBi := Lib.hid (rbit_any (a : Int) k wr (by omega) (by have := Ha.out; omega) HLt.out)
        rw [show bitI (a : Int) k = false from hbt] at HBi
        have HBt := Lib.hid hbt
        clear hbt
        go_wp2_with fail
        refine HBi.out.mono ?_
        rintro e w6 ⟨rfl, rfl⟩
        clear HBi
        go_wp2
        refine region_y [29, 30] (fun w' => Below wr.heap.size wr w') (by kernel_rfl) ?_
        have hS : Below wr.heap.size wr wr.drew := drew_below wr
        refine yu (i := 0) rfl (v) (by kernel_rfl) (by kernel_rfl) (by kernel_rfl) (fun _ _ _ h => h) (fun w' => by go_simp) ?_
        try simp only [Act.put, List.setIfInBounds_toArray, List.set_cons_zero, List.set_cons_succ]
        refine yu (i := 1) rfl (.slice (some ⟨gz, 0, none⟩) 64 cz) (by kernel_rfl) (by kernel_rfl) (by kernel_rfl) (fun _ _ _ h => h) (fun w' => by go_simp) ?_
        try simp only [Act.put, List.setIfInBounds_toArray, List.set_cons_zero, List.set_cons_succ]
        refine yu (i := 2) rfl (.int .i64 (k : Int)) (by kernel_rfl) (by kernel_rfl) (by kernel_rfl) (fun _ _ _ h => h) (fun w' => by go_simp) ?_
        try simp only [Act.put, List.setIfInBounds_toArray, List.set_cons_zero, List.set_cons_succ]
        refine yu (i := 3) rfl (.pointer (some ⟨gz, k * 2, none⟩)) (by kernel_rfl) (by kernel_rfl) (by kernel_rfl) (fun _ _ _ h => h) (fun w' => by have lt2 : (k : Int) < 64 := (by have := HLt.out; omega); have lt3 : (0 : Int) ≤ (k : Int) := (by omega); go_simp) ?_
        try simp only [Act.put, List.setIfInBounds_toArray, List.set_cons_zero, List.set_cons_succ]
        refine yt [29, 30, 28, 12] (i := 4) rfl (labL (z k)) (by kernel_rfl) (by kernel_rfl) (by kernel_rfl) (by kernel_rfl) (fun _ _ _ h => h) hS (fun w' hw' => by have hX := HZ5.out.below hw'; obtain ⟨_, e9, ae, hae, q0, q1, -⟩ := hX.lab k HLt.out; cases e9; rw [Addr.add_mid, Nat.zero_add] at hae; subst hae; clear hX; go_simp) ?_
        try simp only [Act.put, List.setIfInBounds_toArray, List.set_cons_zero, List.set_cons_succ]
        refine yu (i := 5) rfl (.slice (some ⟨go, 0, none⟩) 64 co) (by kernel_rfl) (by kernel_rfl) (by kernel_rfl) (fun _ _ _ h => h) (fun w' => by go_simp) ?_
        try simp only [Act.put, List.setIfInBounds_toArray, List.set_cons_zero, List.set_cons_succ]
        refine yu (i := 6) rfl (.int .i64 (k : Int)) (by kernel_rfl) (by kernel_rfl) (by kernel_rfl) (fun _ _ _ h => h) (fun w' => by go_simp) ?_
        try simp only [Act.put, List.setIfInBounds_toArray, List.set_cons_zero, List.set_cons_succ]
        refine yu (i := 7) rfl (.int .u64 0) (by kernel_rfl) (by kernel_rfl) (by kernel_rfl) (fun _ _ _ h => h) (fun w' => by go_simp) ?_
        try simp only [Act.put, List.setIfInBounds_toArray, List.set_cons_zero, List.set_cons_succ]
        refine yu (i := 8) rfl (.pointer (some ⟨go, k * 5, none⟩)) (by kernel_rfl) (by kernel_rfl) (by kernel_rfl) (fun _ _ _ h => h) (fun w' => by have lt2 : (k : Int) < 64 := (by have := HLt.out; omega); have lt3 : (0 : Int) ≤ (k : Int) := (by omega); go_simp) ?_
        try simp only [Act.put, List.setIfInBounds_toArray, List.set_cons_zero, List.set_cons_succ]
        refine yu (i := 9) rfl (.pointer (some ⟨go, k * 5, none⟩)) (by kernel_rfl) (by kernel_rfl) (by kernel_rfl) (fun _ _ _ h => h) (fun w' => by go_simp) ?_
        try simp only [Act.put, List.setIfInBounds_toArray, List.set_cons_zero, List.set_cons_succ]
        refine yu (i := 10) rfl (.pointer (some ⟨go, k * 5, none⟩)) (by kernel_rfl) (by kernel_rfl) (by kernel_rfl) (fun _ _ _ h => h) (fun w' => by go_simp) ?_
        try simp only [Act.put, List.setIfInBounds_toArray, List.set_cons_zero, List.set_cons_succ]
        refine yt [29, 30, 28, 12] (i := 11) rfl (labL (p k)) (by kernel_rfl) (by kernel_rfl) (by kernel_rfl) (by kernel_rfl) (fun _ _ _ h => h) hS (fun w' hw' => by have hX := HO5.out.below hw'; obtain ⟨_, e9, ae, hae, c0, c1, c2, c3, c4, -⟩ := hX.ot k HLt.out; cases e9; rw [Addr.add_mid, Nat.zero_add] at hae; subst hae; clear hX; go_simp) ?_
        try simp only [Act.put, List.setIfInBounds_toArray, List.set_cons_zero, List.set_cons_succ]
        refine yu (i := 13) rfl (.slice (some ⟨gz, 0, none⟩) 64 cz) (by kernel_rfl) (by kernel_rfl) (by kernel_rfl) (fun _ _ _ h => h) (fun w' => by go_simp) ?_
        try simp only [Act.put, List.setIfInBounds_toArray, List.set_cons_zero, List.set_cons_succ]
        refine yu (i := 14) rfl (.int .i64 (k : Int)) (by kernel_rfl) (by kernel_rfl) (by kernel_rfl) (fun _ _ _ h => h) (fun w' => by go_simp) ?_
        try simp only [Act.put, List.setIfInBounds_toArray, List.set_cons_zero, List.set_cons_succ]
        refine yu (i := 15) rfl (.pointer (some ⟨gz, k * 2, none⟩)) (by kernel_rfl) (by kernel_rfl) (by kernel_rfl) (fun _ _ _ h => h) (fun w' => by have lt2 : (k : Int) < 64 := (by have := HLt.out; omega); have lt3 : (0 : Int) ≤ (k : Int) := (by omega); go_simp) ?_
        try simp only [Act.put, List.setIfInBounds_toArray, List.set_cons_zero, List.set_cons_succ]
        refine yt [29, 30, 28, 27, 18] (i := 16) rfl (labL (z k)) (by kernel_rfl) (by kernel_rfl) (by kernel_rfl) (by kernel_rfl) (fun _ _ _ h => h) hS (fun w' hw' => by have hX := HZ5.out.below hw'; obtain ⟨_, e9, ae, hae, q0, q1, -⟩ := hX.lab k HLt.out; cases e9; rw [Addr.add_mid, Nat.zero_add] at hae; subst hae; clear hX; go_simp) ?_
        try simp only [Act.put, List.setIfInBounds_toArray, List.set_cons_zero, List.set_cons_succ]
        refine yt [29, 30, 28, 27, 18] (i := 17) rfl (labL d) (by kernel_rfl) (by kernel_rfl) (by kernel_rfl) (by kernel_rfl) (fun _ _ _ h => h) hS (fun w' hw' => by have hX := Blk.below HD5.out hw' (Blk.lt HD5.out); have q0 := Blk.cell hX 0 rfl; have q1 := Blk.cell hX 1 rfl; clear hX; go_simp) ?_
        try simp only [Act.put, List.setIfInBounds_toArray, List.set_cons_zero, List.set_cons_succ]
        refine yu (i := 19) rfl (.slice (some ⟨go, 0, none⟩) 64 co) (by kernel_rfl) (by kernel_rfl) (by kernel_rfl) (fun _ _ _ h => h) (fun w' => by go_simp) ?_
        try simp only [Act.put, List.setIfInBounds_toArray, List.set_cons_zero, List.set_cons_succ]
        refine yu (i := 20) rfl (.int .i64 (k : Int)) (by kernel_rfl) (by kernel_rfl) (by kernel_rfl) (fun _ _ _ h => h) (fun w' => by go_simp) ?_
        try simp only [Act.put, List.setIfInBounds_toArray, List.set_cons_zero, List.set_cons_succ]
        refine yu (i := 21) rfl (.int .u64 0) (by kernel_rfl) (by kernel_rfl) (by kernel_rfl) (fun _ _ _ h => h) (fun w' => by go_simp) ?_
        try simp only [Act.put, List.setIfInBounds_toArray, List.set_cons_zero, List.set_cons_succ]
        refine yu (i := 22) rfl (.int .u64 1) (by kernel_rfl) (by kernel_rfl) (by kernel_rfl) (fun _ _ _ h => h) (fun w' => by have w1 : IntKind.u64.wrap 1 = 1 := rfl; have w0 : IntKind.u64.wrap 0 = 0 := rfl; go_simp) ?_
        try simp only [Act.put, List.setIfInBounds_toArray, List.set_cons_zero, List.set_cons_succ]
        refine yu (i := 23) rfl (.pointer (some ⟨go, k * 5, none⟩)) (by kernel_rfl) (by kernel_rfl) (by kernel_rfl) (fun _ _ _ h => h) (fun w' => by have lt2 : (k : Int) < 64 := (by have := HLt.out; omega); have lt3 : (0 : Int) ≤ (k : Int) := (by omega); go_simp) ?_
        try simp only [Act.put, List.setIfInBounds_toArray, List.set_cons_zero, List.set_cons_succ]
        refine yu (i := 24) rfl (.pointer (some ⟨go, k * 5, none⟩)) (by kernel_rfl) (by kernel_rfl) (by kernel_rfl) (fun _ _ _ h => h) (fun w' => by go_simp) ?_
        try simp only [Act.put, List.setIfInBounds_toArray, List.set_cons_zero, List.set_cons_succ]
        refine yu (i := 25) rfl (.pointer (some ⟨go, k * 5 + 2, none⟩)) (by kernel_rfl) (by kernel_rfl) (by kernel_rfl) (fun _ _ _ h => h) (fun w' => by go_simp) ?_
        try simp only [Act.put, List.setIfInBounds_toArray, List.set_cons_zero, List.set_cons_succ]
        refine yt [29, 30, 28, 27] (i := 26) rfl (labL (q k)) (by kernel_rfl) (by kernel_rfl) (by kernel_rfl) (by kernel_rfl) (fun _ _ _ h => h) hS (fun w' hw' => by have hX := HO5.out.below hw'; obtain ⟨_, e9, ae, hae, c0, c1, c2, c3, c4, -⟩ := hX.ot k HLt.out; cases e9; rw [Addr.add_mid, Nat.zero_add] at hae; subst hae; clear hX; go_simp) ?_
        try simp only [Act.put, List.setIfInBounds_toArray, List.set_cons_zero, List.set_cons_succ]
        refine y1 (i := 12) (by kernel_rfl) rfl (fun K' hK => ?_)
        go_simp
        refine (rxor_lab (z k) (p k) wr.drew (HW.out.2.2.1 k) (HW.out.1 k)).mono ?_
        rintro e v1 ⟨rfl, hbv1⟩
        have hS := hS.trans (hbv1.mono hS.size)
        refine hK.out _ _ (.inr fun _ => hS) ?_
        clear hK K' hbv1
        try simp only [Act.put, List.setIfInBounds_toArray, List.set_cons_zero, List.set_cons_succ]
        refine y1 (i := 18) (by kernel_rfl) rfl (fun K' hK => ?_)
        go_simp
        refine (rxor_lab (z k) d v1 (HW.out.2.2.1 k) HW.out.2.2.2).mono ?_
        rintro e v2 ⟨rfl, hbv2⟩
        have hS := hS.trans (hbv2.mono hS.size)
        refine hK.out _ _ (.inr fun _ => hS) ?_
        clear hK K' hbv2
        try simp only [Act.put, List.setIfInBounds_toArray, List.set_cons_zero, List.set_cons_succ]
        refine y1 (i := 27) (by kernel_rfl) rfl (fun K' hK => ?_)
        go_simp
        refine (rxor_lab (Garb.nadd (z k) d) (q k) v2 ((HW.out.2.2.1 k).add HW.out.2.2.2) (HW.out.2.1 k)).mono ?_
        rintro e v3 ⟨rfl, hbv3⟩
        have hS := hS.trans (hbv3.mono hS.size)
        refine hK.out _ _ (.inr fun _ => hS) ?_
        clear hK K' hbv3
        try simp only [Act.put, List.setIfInBounds_toArray, List.set_cons_zero, List.set_cons_succ]
        obtain ⟨gn, kn, wz, hr, hgB, hRz, hgr, hor⟩ := append_two v3 (w.heap.size + 1) v (2 * k) (repN z p q d a) (repN z p q d a) (Garb.nadd (z k) (p k)) (Garb.nadd (Garb.nadd (z k) d) (q k)) (HR5.out.below hS) (fun _ _ => rfl) (by rw [repN_0, HBt.out]; rfl) (by rw [repN_1, HBt.out]; rfl) (by have := HLt.out; omega) (by have h1 := Blk.lt HD5.out; have h2 := hS.size; omega)
        have hown := HR5.out.own
        have hbz : Below w.heap.size w wz := ((HB5.out.trans (hS.mono HB5.out.size)).alloc (Nat.le_trans HB5.out.size hS.size) _).grown hgr (by have := HB5.out.size; have := hS.size; simp; omega) (fun q hq => by have := (hown q hq).1; omega)
        have HR := Lib.hid hr
        have HF := Lib.hid (And.intro hRz (And.intro hbz (show LbB wz w.heap.size d from Blk.chg (Blk.below HD5.out hS (Blk.lt HD5.out)) (((Chg.refl (fun x => v.ownBlock = some x) _).alloc _).grown hgr (fun x hx => .inr hx)) (fun h => by have := (hown _ h).1; omega))))
        have hS3 := hS.alloc hS.size (.cells #[.int .u64 ((Garb.nadd (z k) (p k)).1 : Int), .int .u64 ((Garb.nadd (z k) (p k)).2 : Int), .int .u64 ((Garb.nadd (Garb.nadd (z k) d) (q k)).1 : Int), .int .u64 ((Garb.nadd (Garb.nadd (z k) d) (q k)).2 : Int)] 28)
        clear hr hgB hRz hgr hor hown hbz
        refine y1 (i := 28) (by kernel_rfl) rfl (fun K' hK => ?_)
        go_simp
        refine hK.out _ _ (.inr fun _ => hS3) ?_
        clear hK K' hS hS3
        try simp only [Act.put, List.setIfInBounds_toArray, List.set_cons_zero, List.set_cons_succ]
        refine y1 (i := 29) (by kernel_rfl) rfl (fun K' hK => ?_)
        refine wp_append_run _ _ 29 rfl v (.slice (some ⟨v3.heap.size, 0, none⟩) 2 2) (.slice (some ⟨gn, 0, none⟩) (2 * k + 2) kn) wz rfl rfl (HR.out _) ?_
        refine hK.out _ _ (.inl (by decide)) ?_
        clear hK K' HR
        try simp only [Act.put, List.setIfInBounds_toArray, List.set_cons_zero, List.set_cons_succ]
        refine y1 (i := 30) (by kernel_rfl) rfl (fun K' hK => ?_)
        go_simp
        refine hK.out _ _ (.inl (by decide)) ?_
        clear hK K'
        try simp only [Act.put, List.setIfInBounds_toArray, List.set_cons_zero, List.set_cons_succ]
        refine wpAnyY_done (by kernel_rfl) ?_ _
        go_wp2
        go_roundw
        case rel => exact ⟨k + 1, _, by have := HLt.out; omega, rfl, by go_num, HF.out.1, HF.out.2.1, HF.out.2.2⟩
        case measure => simp [intOf]; have := HLt.out; omega
      | true =>
        have HBi := Lib.hid (rbit_any (a : Int) k wr (by omega) (by have := Ha.out; omega) HLt.out)
        rw [show bitI (a : Int) k = true from hbt] at HBi
        have HBt := Lib.hid hbt
        clear hbt
        go_wp2_with fail
        refine HBi.out.mono ?_
        rintro e w6 ⟨rfl, rfl⟩
        clear HBi
        go_wp2
        refine region_y [29, 30] (fun w' => Below wr.heap.size wr w') (by kernel_rfl) ?_
        have hS : Below wr.heap.size wr wr.drew := drew_below wr
        refine yu (i := 0) rfl (v) (by kernel_rfl) (by kernel_rfl) (by kernel_rfl) (fun _ _ _ h => h) (fun w' => by go_simp) ?_
        try simp only [Act.put, List.setIfInBounds_toArray, List.set_cons_zero, List.set_cons_succ]
        refine yu (i := 1) rfl (.slice (some ⟨gz, 0, none⟩) 64 cz) (by kernel_rfl) (by kernel_rfl) (by kernel_rfl) (fun _ _ _ h => h) (fun w' => by go_simp) ?_
        try simp only [Act.put, List.setIfInBounds_toArray, List.set_cons_zero, List.set_cons_succ]
        refine yu (i := 2) rfl (.int .i64 (k : Int)) (by kernel_rfl) (by kernel_rfl) (by kernel_rfl) (fun _ _ _ h => h) (fun w' => by go_simp) ?_
        try simp only [Act.put, List.setIfInBounds_toArray, List.set_cons_zero, List.set_cons_succ]
        refine yu (i := 3) rfl (.pointer (some ⟨gz, k * 2, none⟩)) (by kernel_rfl) (by kernel_rfl) (by kernel_rfl) (fun _ _ _ h => h) (fun w' => by have lt2 : (k : Int) < 64 := (by have := HLt.out; omega); have lt3 : (0 : Int) ≤ (k : Int) := (by omega); go_simp) ?_
        try simp only [Act.put, List.setIfInBounds_toArray, List.set_cons_zero, List.set_cons_succ]
        refine yt [29, 30, 28, 12] (i := 4) rfl (labL (z k)) (by kernel_rfl) (by kernel_rfl) (by kernel_rfl) (by kernel_rfl) (fun _ _ _ h => h) hS (fun w' hw' => by have hX := HZ5.out.below hw'; obtain ⟨_, e9, ae, hae, q0, q1, -⟩ := hX.lab k HLt.out; cases e9; rw [Addr.add_mid, Nat.zero_add] at hae; subst hae; clear hX; go_simp) ?_
        try simp only [Act.put, List.setIfInBounds_toArray, List.set_cons_zero, List.set_cons_succ]
        refine yu (i := 5) rfl (.slice (some ⟨go, 0, none⟩) 64 co) (by kernel_rfl) (by kernel_rfl) (by kernel_rfl) (fun _ _ _ h => h) (fun w' => by go_simp) ?_
        try simp only [Act.put, List.setIfInBounds_toArray, List.set_cons_zero, List.set_cons_succ]
        refine yu (i := 6) rfl (.int .i64 (k : Int)) (by kernel_rfl) (by kernel_rfl) (by kernel_rfl) (fun _ _ _ h => h) (fun w' => by go_simp) ?_
        try simp only [Act.put, List.setIfInBounds_toArray, List.set_cons_zero, List.set_cons_succ]
        refine yu (i := 7) rfl (.int .u64 1) (by kernel_rfl) (by kernel_rfl) (by kernel_rfl) (fun _ _ _ h => h) (fun w' => by go_simp) ?_
        try simp only [Act.put, List.setIfInBounds_toArray, List.set_cons_zero, List.set_cons_succ]
        refine yu (i := 8) rfl (.pointer (some ⟨go, k * 5, none⟩)) (by kernel_rfl) (by kernel_rfl) (by kernel_rfl) (fun _ _ _ h => h) (fun w' => by have lt2 : (k : Int) < 64 := (by have := HLt.out; omega); have lt3 : (0 : Int) ≤ (k : Int) := (by omega); go_simp) ?_
        try simp only [Act.put, List.setIfInBounds_toArray, List.set_cons_zero, List.set_cons_succ]
        refine yu (i := 9) rfl (.pointer (some ⟨go, k * 5, none⟩)) (by kernel_rfl) (by kernel_rfl) (by kernel_rfl) (fun _ _ _ h => h) (fun w' => by go_simp) ?_
        try simp only [Act.put, List.setIfInBounds_toArray, List.set_cons_zero, List.set_cons_succ]
        refine yu (i := 10) rfl (.pointer (some ⟨go, k * 5 + 2, none⟩)) (by kernel_rfl) (by kernel_rfl) (by kernel_rfl) (fun _ _ _ h => h) (fun w' => by go_simp) ?_
        try simp only [Act.put, List.setIfInBounds_toArray, List.set_cons_zero, List.set_cons_succ]
        refine yt [29, 30, 28, 12] (i := 11) rfl (labL (q k)) (by kernel_rfl) (by kernel_rfl) (by kernel_rfl) (by kernel_rfl) (fun _ _ _ h => h) hS (fun w' hw' => by have hX := HO5.out.below hw'; obtain ⟨_, e9, ae, hae, c0, c1, c2, c3, c4, -⟩ := hX.ot k HLt.out; cases e9; rw [Addr.add_mid, Nat.zero_add] at hae; subst hae; clear hX; go_simp) ?_
        try simp only [Act.put, List.setIfInBounds_toArray, List.set_cons_zero, List.set_cons_succ]
        refine yu (i := 13) rfl (.slice (some ⟨gz, 0, none⟩) 64 cz) (by kernel_rfl) (by kernel_rfl) (by kernel_rfl) (fun _ _ _ h => h) (fun w' => by go_simp) ?_
        try simp only [Act.put, List.setIfInBounds_toArray, List.set_cons_zero, List.set_cons_succ]
        refine yu (i := 14) rfl (.int .i64 (k : Int)) (by kernel_rfl) (by kernel_rfl) (by kernel_rfl) (fun _ _ _ h => h) (fun w' => by go_simp) ?_
        try simp only [Act.put, List.setIfInBounds_toArray, List.set_cons_zero, List.set_cons_succ]
        refine yu (i := 15) rfl (.pointer (some ⟨gz, k * 2, none⟩)) (by kernel_rfl) (by kernel_rfl) (by kernel_rfl) (fun _ _ _ h => h) (fun w' => by have lt2 : (k : Int) < 64 := (by have := HLt.out; omega); have lt3 : (0 : Int) ≤ (k : Int) := (by omega); go_simp) ?_
        try simp only [Act.put, List.setIfInBounds_toArray, List.set_cons_zero, List.set_cons_succ]
        refine yt [29, 30, 28, 27, 18] (i := 16) rfl (labL (z k)) (by kernel_rfl) (by kernel_rfl) (by kernel_rfl) (by kernel_rfl) (fun _ _ _ h => h) hS (fun w' hw' => by have hX := HZ5.out.below hw'; obtain ⟨_, e9, ae, hae, q0, q1, -⟩ := hX.lab k HLt.out; cases e9; rw [Addr.add_mid, Nat.zero_add] at hae; subst hae; clear hX; go_simp) ?_
        try simp only [Act.put, List.setIfInBounds_toArray, List.set_cons_zero, List.set_cons_succ]
        refine yt [29, 30, 28, 27, 18] (i := 17) rfl (labL d) (by kernel_rfl) (by kernel_rfl) (by kernel_rfl) (by kernel_rfl) (fun _ _ _ h => h) hS (fun w' hw' => by have hX := Blk.below HD5.out hw' (Blk.lt HD5.out); have q0 := Blk.cell hX 0 rfl; have q1 := Blk.cell hX 1 rfl; clear hX; go_simp) ?_
        try simp only [Act.put, List.setIfInBounds_toArray, List.set_cons_zero, List.set_cons_succ]
        refine yu (i := 19) rfl (.slice (some ⟨go, 0, none⟩) 64 co) (by kernel_rfl) (by kernel_rfl) (by kernel_rfl) (fun _ _ _ h => h) (fun w' => by go_simp) ?_
        try simp only [Act.put, List.setIfInBounds_toArray, List.set_cons_zero, List.set_cons_succ]
        refine yu (i := 20) rfl (.int .i64 (k : Int)) (by kernel_rfl) (by kernel_rfl) (by kernel_rfl) (fun _ _ _ h => h) (fun w' => by go_simp) ?_
        try simp only [Act.put, List.setIfInBounds_toArray, List.set_cons_zero, List.set_cons_succ]
        refine yu (i := 21) rfl (.int .u64 1) (by kernel_rfl) (by kernel_rfl) (by kernel_rfl) (fun _ _ _ h => h) (fun w' => by go_simp) ?_
        try simp only [Act.put, List.setIfInBounds_toArray, List.set_cons_zero, List.set_cons_succ]
        refine yu (i := 22) rfl (.int .u64 0) (by kernel_rfl) (by kernel_rfl) (by kernel_rfl) (fun _ _ _ h => h) (fun w' => by have w1 : IntKind.u64.wrap 1 = 1 := rfl; have w0 : IntKind.u64.wrap 0 = 0 := rfl; go_simp) ?_
        try simp only [Act.put, List.setIfInBounds_toArray, List.set_cons_zero, List.set_cons_succ]
        refine yu (i := 23) rfl (.pointer (some ⟨go, k * 5, none⟩)) (by kernel_rfl) (by kernel_rfl) (by kernel_rfl) (fun _ _ _ h => h) (fun w' => by have lt2 : (k : Int) < 64 := (by have := HLt.out; omega); have lt3 : (0 : Int) ≤ (k : Int) := (by omega); go_simp) ?_
        try simp only [Act.put, List.setIfInBounds_toArray, List.set_cons_zero, List.set_cons_succ]
        refine yu (i := 24) rfl (.pointer (some ⟨go, k * 5, none⟩)) (by kernel_rfl) (by kernel_rfl) (by kernel_rfl) (fun _ _ _ h => h) (fun w' => by go_simp) ?_
        try simp only [Act.put, List.setIfInBounds_toArray, List.set_cons_zero, List.set_cons_succ]
        refine yu (i := 25) rfl (.pointer (some ⟨go, k * 5, none⟩)) (by kernel_rfl) (by kernel_rfl) (by kernel_rfl) (fun _ _ _ h => h) (fun w' => by go_simp) ?_
        try simp only [Act.put, List.setIfInBounds_toArray, List.set_cons_zero, List.set_cons_succ]
        refine yt [29, 30, 28, 27] (i := 26) rfl (labL (p k)) (by kernel_rfl) (by kernel_rfl) (by kernel_rfl) (by kernel_rfl) (fun _ _ _ h => h) hS (fun w' hw' => by have hX := HO5.out.below hw'; obtain ⟨_, e9, ae, hae, c0, c1, c2, c3, c4, -⟩ := hX.ot k HLt.out; cases e9; rw [Addr.add_mid, Nat.zero_add] at hae; subst hae; clear hX; go_simp) ?_
        try simp only [Act.put, List.setIfInBounds_toArray, List.set_cons_zero, List.set_cons_succ]
        refine y1 (i := 12) (by kernel_rfl) rfl (fun K' hK => ?_)
        go_simp
        refine (rxor_lab (z k) (q k) wr.drew (HW.out.2.2.1 k) (HW.out.2.1 k)).mono ?_
        rintro e v1 ⟨rfl, hbv1⟩
        have hS := hS.trans (hbv1.mono hS.size)
        refine hK.out _ _ (.inr fun _ => hS) ?_
        clear hK K' hbv1
        try simp only [Act.put, List.setIfInBounds_toArray, List.set_cons_zero, List.set_cons_succ]
        refine y1 (i := 18) (by kernel_rfl) rfl (fun K' hK => ?_)
        go_simp
        refine (rxor_lab (z k) d v1 (HW.out.2.2.1 k) HW.out.2.2.2).mono ?_
        rintro e v2 ⟨rfl, hbv2⟩
        have hS := hS.trans (hbv2.mono hS.size)
        refine hK.out _ _ (.inr fun _ => hS) ?_
        clear hK K' hbv2
        try simp only [Act.put, List.setIfInBounds_toArray, List.set_cons_zero, List.set_cons_succ]
        refine y1 (i := 27) (by kernel_rfl) rfl (fun K' hK => ?_)
        go_simp
        refine (rxor_lab (Garb.nadd (z k) d) (p k) v2 ((HW.out.2.2.1 k).add HW.out.2.2.2) (HW.out.1 k)).mono ?_
        rintro e v3 ⟨rfl, hbv3⟩
        have hS := hS.trans (hbv3.mono hS.size)
        refine hK.out _ _ (.inr fun _ => hS) ?_
        clear hK K' hbv3
        try simp only [Act.put, List.setIfInBounds_toArray, List.set_cons_zero, List.set_cons_succ]
        obtain ⟨gn, kn, wz, hr, hgB, hRz, hgr, hor⟩ := append_two v3 (w.heap.size + 1) v (2 * k) (repN z p q d a) (repN z p q d a) (Garb.nadd (z k) (q k)) (Garb.nadd (Garb.nadd (z k) d) (p k)) (HR5.out.below hS) (fun _ _ => rfl) (by rw [repN_0, HBt.out]; rfl) (by rw [repN_1, HBt.out]; rfl) (by have := HLt.out; omega) (by have h1 := Blk.lt HD5.out; have h2 := hS.size; omega)
        have hown := HR5.out.own
        have hbz : Below w.heap.size w wz := ((HB5.out.trans (hS.mono HB5.out.size)).alloc (Nat.le_trans HB5.out.size hS.size) _).grown hgr (by have := HB5.out.size; have := hS.size; simp; omega) (fun q hq => by have := (hown q hq).1; omega)
        have HR := Lib.hid hr
        have HF := Lib.hid (And.intro hRz (And.intro hbz (show LbB wz w.heap.size d from Blk.chg (Blk.below HD5.out hS (Blk.lt HD5.out)) (((Chg.refl (fun x => v.ownBlock = some x) _).alloc _).grown hgr (fun x hx => .inr hx)) (fun h => by have := (hown _ h).1; omega))))
        have hS3 := hS.alloc hS.size (.cells #[.int .u64 ((Garb.nadd (z k) (q k)).1 : Int), .int .u64 ((Garb.nadd (z k) (q k)).2 : Int), .int .u64 ((Garb.nadd (Garb.nadd (z k) d) (p k)).1 : Int), .int .u64 ((Garb.nadd (Garb.nadd (z k) d) (p k)).2 : Int)] 28)
        clear hr hgB hRz hgr hor hown hbz
        refine y1 (i := 28) (by kernel_rfl) rfl (fun K' hK => ?_)
        go_simp
        refine hK.out _ _ (.inr fun _ => hS3) ?_
        clear hK K' hS hS3
        try simp only [Act.put, List.setIfInBounds_toArray, List.set_cons_zero, List.set_cons_succ]
        refine y1 (i := 29) (by kernel_rfl) rfl (fun K' hK => ?_)
        refine wp_append_run _ _ 29 rfl v (.slice (some ⟨v3.heap.size, 0, none⟩) 2 2) (.slice (some ⟨gn, 0, none⟩) (2 * k + 2) kn) wz rfl rfl (HR.out _) ?_
        refine hK.out _ _ (.inl (by decide)) ?_
        clear hK K' HR
        try simp only [Act.put, List.setIfInBounds_toArray, List.set_cons_zero, List.set_cons_succ]
        refine y1 (i := 30) (by kernel_rfl) rfl (fun K' hK => ?_)
        go_simp
        refine hK.out _ _ (.inl (by decide)) ?_
        clear hK K'
        try simp only [Act.put, List.setIfInBounds_toArray, List.set_cons_zero, List.set_cons_succ]
        refine wpAnyY_done (by kernel_rfl) ?_ _
        go_wp2
        go_roundw
        case rel => exact ⟨k + 1, _, by have := HLt.out; omega, rfl, by go_num, HF.out.1, HF.out.2.1, HF.out.2.2⟩
        case measure => simp [intOf]; have := HLt.out; omega
    · obtain rfl : k = 64 := by omega
      have lt1 : ¬ ((64 : Nat) : Int) < 64 := by omega
      have HB := Lib.hid HI.out
      clear hlt hk HI
      go_wp2
      go_ret
      exact ⟨_, rfl, HB.out.1.mono (fun x hx => by have := (HB.out.1.own x hx).1; omega), HB.out.2.1⟩

end Go.Proofs.YtamejhhjfnfalaaDoor
