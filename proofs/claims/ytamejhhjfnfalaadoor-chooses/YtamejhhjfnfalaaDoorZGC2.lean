/- Contracts of garble's Reply and Pick and of the document's Reply. -/
import Derived.Test.YtamejhhjfnfalaaDoorZGC1
import Derived.Test.YtamejhhjfnfalaaDoorMG
namespace Go.Proofs.YtamejhhjfnfalaaDoor
open Go.RowKit

/-- What the sender answers. -/
def repN (z p q : Nat → Lab) (d : Lab) (a : Nat) (j : Nat) : Lab :=
  if j % 2 = 0 then Garb.nadd (z (j / 2)) (if a.testBit (j / 2) then q (j / 2) else p (j / 2)) else Garb.nadd (Garb.nadd (z (j / 2)) d) (if a.testBit (j / 2) then p (j / 2) else q (j / 2))
theorem repN_0 (z p q : Nat → Lab) (d : Lab) (a k : Nat) : repN z p q d a (2 * k) = Garb.nadd (z k) (if a.testBit k then q k else p k) := by
  unfold repN
  rw [if_pos (by omega), show 2 * k / 2 = k by omega]
theorem repN_1 (z p q : Nat → Lab) (d : Lab) (a k : Nat) : repN z p q d a (2 * k + 1) = Garb.nadd (Garb.nadd (z k) d) (if a.testBit k then p k else q k) := by
  unfold repN
  rw [if_neg (by omega), show (2 * k + 1) / 2 = k by omega]
/-- A bit of a word, as the walk asks for it. -/
theorem bit_and (a k : Nat) (ha : a < 18446744073709551616) : bits .and .u64 ((a : Int) / 2 ^ k) 1 = (if a.testBit k then 1 else 0) ∧ IntKind.u64.wrap ((a : Int) / 2 ^ k) = (a : Int) / 2 ^ k := by
  have h := shr_i64 (a : Int) k (by omega)
  have h2 := div_nonneg2 (a : Int) k (by omega)
  have h3 := div_lt2 (a : Int) k (by omega) (by omega)
  refine ⟨?_, by rw [u64w]; omega⟩
  rw [Ae.and_one, h]
  rfl

/-- Reply with too few or too many. -/
def RpBad (w : World) (e : Ending) (w' : World) : Prop := (∃ p a, e = .returned (.tuple #[.slice none 0 0, chain [(p, a)] 1])) ∧ Below w.heap.size w w'
set_option maxHeartbeats 1000000 in
set_option maxRecDepth 100000 in
theorem reply_no (w : World) (A : Option Addr) (c : Nat) (x : Nat) (Az : Option Addr) (n cz : Nat) (d : Lab) (hh : Handle w) (hn : n ≠ 64) : Calls Tryd.prog 31 #[.slice A 64 c, .int .u64 (x : Int), .slice Az n cz, labL d] w (RpBad w) := by
  have hb0 := (Below.refl w.heap.size w).alloc (Nat.le_refl _) (.cells #[.int .u64 (d.1 : Int), .int .u64 (d.2 : Int)] 28)
  have HJ := Lib.hid (just_yes 64 ⟨#[111, 116, 115]⟩ (w.alloc (.cells #[.int .u64 (d.1 : Int), .int .u64 (d.2 : Int)] 28)))
  have HJ2 := Lib.hid (just_no 64 n ⟨#[122, 101, 114, 111, 115]⟩ (w.alloc (.cells #[.int .u64 (d.1 : Int), .int .u64 (d.2 : Int)] 28)) (hh.belowS hb0) hn)
  have HB0 := Lib.hid hb0
  unfold RpBad
  clear hn hh hb0
  go_enter Tryd.func31, Tryd.ntmps31
  go_wp2_with fail
  refine HJ.out.mono ?_
  rintro e w1 ⟨rfl, rfl⟩
  go_wp2_with fail
  refine HJ2.out.mono ?_
  rintro e w2 ⟨⟨p, a, rfl⟩, hb⟩
  obtain ⟨T, y, hT⟩ := chain_iface [(p, a)] 1
  have HT := Lib.hid hT
  have HB := Lib.hid (HB0.out.trans (hb.mono HB0.out.size))
  rw [hT]
  clear hT hb
  go_wp2
  go_ret2
  exact ⟨⟨p, a, by rw [HT.out]; rfl⟩, HB.out⟩

set_option maxHeartbeats 8000000 in
set_option maxRecDepth 100000 in
theorem reply_ok (w : World) (go co gz cz : Nat) (p q z : Nat → Lab) (f : Nat → Bool) (d : Lab) (a : Nat) (hA : AtV w (some ⟨go, 0, none⟩) (64 * 5) (ov p q f)) (hZ : AtV w (some ⟨gz, 0, none⟩) (64 * 2) (lv z)) (hp : ∀ i, Garb.Wd (p i)) (hq : ∀ i, Garb.Wd (q i)) (hz : ∀ i, Garb.Wd (z i)) (hd : Garb.Wd d) (ha : a < 18446744073709551616) :
    Calls Tryd.prog 31 #[.slice (some ⟨go, 0, none⟩) 64 co, .int .u64 (a : Int), .slice (some ⟨gz, 0, none⟩) 64 cz, labL d] w fun e w' => ∃ gr cr, e = .returned (.tuple #[.slice (some ⟨gr, 0, none⟩) 128 cr, .nilIface]) ∧ Row w' w.heap.size 28 2 (.slice (some ⟨gr, 0, none⟩) 128 cr) 128 (lv (repN z p q d a)) ∧ Below w.heap.size w w' := by
  have XD := Blk.new w 28 #[.int .u64 (d.1 : Int), .int .u64 (d.2 : Int)]
  have hb0 := (Below.refl w.heap.size w).alloc (Nat.le_refl _) (.cells #[.int .u64 (d.1 : Int), .int .u64 (d.2 : Int)] 28)
  obtain ⟨w1, hw1⟩ : ∃ x, w.alloc (.cells #[.int .u64 (d.1 : Int), .int .u64 (d.2 : Int)] 28) = x := ⟨_, rfl⟩
  rw [hw1] at XD hb0
  have HJ := Lib.hid (just_yes 64 ⟨#[111, 116, 115]⟩ w1)
  have HJ2 := Lib.hid (just_yes 64 ⟨#[122, 101, 114, 111, 115]⟩ w1)
  rw [← hw1] at HJ HJ2
  have hs1 : w1.heap.size = w.heap.size + 1 := by rw [← hw1]; simp
  have hmk : (Instr.makeSlice 29 (.int .i64 0) (.int .i64 128)).run Tryd.prog w1 = .ok (.slice (some ⟨w1.heap.size, 0, none⟩) 0 128) (w1.alloc (.cells (madeCells #[Value.int .u64 0, Value.int .u64 0] (128 * 2)) 28)) := run_makeL w1 0 128 (by omega) (by omega)
  have hR2 := made_labs w1 0 128 (by omega) (by unfold maxLen; omega)
  have hb2 : Below w1.heap.size w1 (w1.alloc (.cells (madeCells #[Value.int .u64 0, Value.int .u64 0] (128 * 2)) 28)) := (Below.refl _ _).alloc (Nat.le_refl _) _
  have hbw := hb0.trans (hb2.mono hb0.size)
  have HI0 := Lib.hid (show Row _ w1.heap.size 28 2 (.slice (some ⟨w1.heap.size, 0, none⟩) 0 128) 0 (lv (repN z p q d a)) ∧ Below w.heap.size w _ from ⟨hR2.congr (fun i hi => absurd hi (by omega)), hbw⟩)
  have HX := Lib.hid (Blk.below XD hb2 (Blk.lt XD))
  have HA := Lib.hid (And.intro hA hZ)
  have HW := Lib.hid (And.intro hp (And.intro hq (And.intro hz hd)))
  have Ha := Lib.hid ha
  rw [hs1] at hmk HI0
  clear XD hb0 hs1 hR2 hb2 hbw hA hZ hp hq hz hd ha
  subst hw1
  go_enter Tryd.func31, Tryd.ntmps31
  go_wp2_with fail
  refine HJ.out.mono ?_
  rintro e w2 ⟨rfl, rfl⟩
  go_wp2_with fail
  refine HJ2.out.mono ?_
  rintro e w3 ⟨rfl, rfl⟩
  clear HJ HJ2
  go_wp2
  clear hmk
  generalize ((w.alloc (.cells #[.int .u64 (d.1 : Int), .int .u64 (d.2 : Int)] 28)).alloc (.cells (madeCells #[Value.int .u64 0, Value.int .u64 0] (128 * 2)) 28)) = w4 at *
  go_loopw [12, 31] (fun v' i wr => ∃ k gr cr : Nat, k ≤ 64 ∧ v' = .slice (some ⟨gr, 0, none⟩) (2 * k) cr ∧ i = .int .i64 k ∧ Hid (Row wr (w.heap.size + 1) 28 2 (.slice (some ⟨gr, 0, none⟩) (2 * k) cr) (2 * k) (lv (repN z p q d a)) ∧ Below w.heap.size w wr ∧ LbB wr w.heap.size d)) (fun _ i _ => 64 - (intOf i).toNat)
  case atStart => exact ⟨0, _, _, by omega, rfl, rfl, HI0.out.1, HI0.out.2, HX.out⟩
  case round =>
    clear HI0 HX
    obtain ⟨k, gr, cr, hk, rfl, rfl, HI⟩ := hrel
    by_cases hlt : k < 64
    · obtain ⟨_, e9, ae, hae, c0, c1, c2, c3, c4, -⟩ := (HA.out.1.below HI.out.2.1).ot k hlt
      cases e9
      rw [Addr.add_mid, Nat.zero_add] at hae
      subst hae
      have lt1 : (k : Int) < 64 := by omega
      have lt0 : (0 : Int) ≤ (k : Int) := by omega
      have lt4 : ¬ (k : Int) < 0 := by omega
      have lt5 : ¬ 64 ≤ k := by omega
      have e1 : IntKind.i64.wrap ((k : Int) + 1) = (k : Int) + 1 := i64_nat _ (by omega) (by omega)
      obtain ⟨e2, e3⟩ := bit_and a k Ha.out
      have XO := Blk.new wr 71 (otC (p k) (q k) (f k))
      have hbO := (Below.refl wr.heap.size wr).alloc (Nat.le_refl _) (.cells (otC (p k) (q k) (f k)) 71)
      have hbW := HI.out.2.1.trans (hbO.mono HI.out.2.1.size)
      have HO5 := Lib.hid (show Blk _ wr.heap.size 71 (otC (p k) (q k) (f k)) from XO)
      have HR5 := Lib.hid (HI.out.1.below hbO)
      have HB5 := Lib.hid hbW
      have HD5 := Lib.hid (show LbB _ w.heap.size d from Blk.below HI.out.2.2 hbO (Blk.lt HI.out.2.2))
      have HZ5 := Lib.hid (HA.out.2.below hbW)
      have HGr := Lib.hid (show w.heap.size < gr from Nat.lt_of_succ_le (HI.out.1.own gr rfl).1)
      have HLt := Lib.hid hlt
      clear XO hbO hbW hlt HI
      cases hbt : a.testBit k with
      | false =>
        rw [hbt] at e2
        have e2 : bits .and .u64 ((a : Int) / 2 ^ k) 1 = 0 := e2
        have HBt := Lib.hid hbt
        clear hbt
        go_wp2
        clear c0 c1 c2 c3 c4 e2 e3
        generalize (wr.alloc (.cells (otC (p k) (q k) (f k)) 71)) = w5 at *
        refine region_y [23, 24] (fun w' => Below w5.heap.size w5 w') (by kernel_rfl) ?_
        have hS : Below w5.heap.size w5 w5.drew := drew_below w5
        refine yu (i := 0) rfl (.slice (some ⟨gr, 0, none⟩) (2 * k) cr) (by kernel_rfl) (by kernel_rfl) (by kernel_rfl) (fun _ _ _ h => h) (fun w' => by go_simp) ?_
        try simp only [Act.put, List.setIfInBounds_toArray, List.set_cons_zero, List.set_cons_succ]
        refine yu (i := 1) rfl (.slice (some ⟨gz, 0, none⟩) 64 cz) (by kernel_rfl) (by kernel_rfl) (by kernel_rfl) (fun _ _ _ h => h) (fun w' => by go_simp) ?_
        try simp only [Act.put, List.setIfInBounds_toArray, List.set_cons_zero, List.set_cons_succ]
        refine yu (i := 2) rfl (.int .i64 (k : Int)) (by kernel_rfl) (by kernel_rfl) (by kernel_rfl) (fun _ _ _ h => h) (fun w' => by go_simp) ?_
        try simp only [Act.put, List.setIfInBounds_toArray, List.set_cons_zero, List.set_cons_succ]
        refine yu (i := 3) rfl (.pointer (some ⟨gz, k * 2, none⟩)) (by kernel_rfl) (by kernel_rfl) (by kernel_rfl) (fun _ _ _ h => h) (fun w' => by have lt2 : (k : Int) < 64 := (by have := HLt.out; omega); have lt3 : (0 : Int) ≤ (k : Int) := (by omega); go_simp) ?_
        try simp only [Act.put, List.setIfInBounds_toArray, List.set_cons_zero, List.set_cons_succ]
        refine yt [23, 24, 22, 9] (i := 4) rfl (labL (z k)) (by kernel_rfl) (by kernel_rfl) (by kernel_rfl) (by kernel_rfl) (fun _ _ _ h => h) hS (fun w' hw' => by have hX := HZ5.out.below hw'; obtain ⟨_, e9, ae, hae, q0, q1, -⟩ := hX.lab k HLt.out; cases e9; rw [Addr.add_mid, Nat.zero_add] at hae; subst hae; clear hX; go_simp) ?_
        try simp only [Act.put, List.setIfInBounds_toArray, List.set_cons_zero, List.set_cons_succ]
        refine yu (i := 5) rfl (.int .u64 0) (by kernel_rfl) (by kernel_rfl) (by kernel_rfl) (fun _ _ _ h => h) (fun w' => by go_simp) ?_
        try simp only [Act.put, List.setIfInBounds_toArray, List.set_cons_zero, List.set_cons_succ]
        refine yu (i := 6) rfl (.pointer (some ⟨wr.heap.size, 0, none⟩)) (by kernel_rfl) (by kernel_rfl) (by kernel_rfl) (fun _ _ _ h => h) (fun w' => by go_simp) ?_
        try simp only [Act.put, List.setIfInBounds_toArray, List.set_cons_zero, List.set_cons_succ]
        refine yu (i := 7) rfl (.pointer (some ⟨wr.heap.size, 0, none⟩)) (by kernel_rfl) (by kernel_rfl) (by kernel_rfl) (fun _ _ _ h => h) (fun w' => by go_simp) ?_
        try simp only [Act.put, List.setIfInBounds_toArray, List.set_cons_zero, List.set_cons_succ]
        refine yt [23, 24, 22, 9] (i := 8) rfl (labL (p k)) (by kernel_rfl) (by kernel_rfl) (by kernel_rfl) (by kernel_rfl) (fun _ _ _ h => h) hS (fun w' hw' => by have hX := Blk.below HO5.out hw' (Blk.lt HO5.out); have q0 := Blk.cell hX 0 rfl; have q1 := Blk.cell hX 1 rfl; clear hX; go_simp) ?_
        try simp only [Act.put, List.setIfInBounds_toArray, List.set_cons_zero, List.set_cons_succ]
        refine yu (i := 10) rfl (.slice (some ⟨gz, 0, none⟩) 64 cz) (by kernel_rfl) (by kernel_rfl) (by kernel_rfl) (fun _ _ _ h => h) (fun w' => by go_simp) ?_
        try simp only [Act.put, List.setIfInBounds_toArray, List.set_cons_zero, List.set_cons_succ]
        refine yu (i := 11) rfl (.int .i64 (k : Int)) (by kernel_rfl) (by kernel_rfl) (by kernel_rfl) (fun _ _ _ h => h) (fun w' => by go_simp) ?_
        try simp only [Act.put, List.setIfInBounds_toArray, List.set_cons_zero, List.set_cons_succ]
        refine yu (i := 12) rfl (.pointer (some ⟨gz, k * 2, none⟩)) (by kernel_rfl) (by kernel_rfl) (by kernel_rfl) (fun _ _ _ h => h) (fun w' => by have lt2 : (k : Int) < 64 := (by have := HLt.out; omega); have lt3 : (0 : Int) ≤ (k : Int) := (by omega); go_simp) ?_
        try simp only [Act.put, List.setIfInBounds_toArray, List.set_cons_zero, List.set_cons_succ]
        refine yt [23, 24, 22, 21, 15] (i := 13) rfl (labL (z k)) (by kernel_rfl) (by kernel_rfl) (by kernel_rfl) (by kernel_rfl) (fun _ _ _ h => h) hS (fun w' hw' => by have hX := HZ5.out.below hw'; obtain ⟨_, e9, ae, hae, q0, q1, -⟩ := hX.lab k HLt.out; cases e9; rw [Addr.add_mid, Nat.zero_add] at hae; subst hae; clear hX; go_simp) ?_
        try simp only [Act.put, List.setIfInBounds_toArray, List.set_cons_zero, List.set_cons_succ]
        refine yt [23, 24, 22, 21, 15] (i := 14) rfl (labL d) (by kernel_rfl) (by kernel_rfl) (by kernel_rfl) (by kernel_rfl) (fun _ _ _ h => h) hS (fun w' hw' => by have hX := Blk.below HD5.out hw' (Blk.lt HD5.out); have q0 := Blk.cell hX 0 rfl; have q1 := Blk.cell hX 1 rfl; clear hX; go_simp) ?_
        try simp only [Act.put, List.setIfInBounds_toArray, List.set_cons_zero, List.set_cons_succ]
        refine yu (i := 16) rfl (.int .u64 0) (by kernel_rfl) (by kernel_rfl) (by kernel_rfl) (fun _ _ _ h => h) (fun w' => by go_simp) ?_
        try simp only [Act.put, List.setIfInBounds_toArray, List.set_cons_zero, List.set_cons_succ]
        refine yu (i := 17) rfl (.int .u64 1) (by kernel_rfl) (by kernel_rfl) (by kernel_rfl) (fun _ _ _ h => h) (fun w' => by have w1 : IntKind.u64.wrap 1 = 1 := rfl; have w0 : IntKind.u64.wrap 0 = 0 := rfl; go_simp) ?_
        try simp only [Act.put, List.setIfInBounds_toArray, List.set_cons_zero, List.set_cons_succ]
        refine yu (i := 18) rfl (.pointer (some ⟨wr.heap.size, 0, none⟩)) (by kernel_rfl) (by kernel_rfl) (by kernel_rfl) (fun _ _ _ h => h) (fun w' => by go_simp) ?_
        try simp only [Act.put, List.setIfInBounds_toArray, List.set_cons_zero, List.set_cons_succ]
        refine yu (i := 19) rfl (.pointer (some ⟨wr.heap.size, 2, none⟩)) (by kernel_rfl) (by kernel_rfl) (by kernel_rfl) (fun _ _ _ h => h) (fun w' => by go_simp) ?_
        try simp only [Act.put, List.setIfInBounds_toArray, List.set_cons_zero, List.set_cons_succ]
        refine yt [23, 24, 22, 21] (i := 20) rfl (labL (q k)) (by kernel_rfl) (by kernel_rfl) (by kernel_rfl) (by kernel_rfl) (fun _ _ _ h => h) hS (fun w' hw' => by have hX := Blk.below HO5.out hw' (Blk.lt HO5.out); have q0 := Blk.cell hX 2 rfl; have q1 := Blk.cell hX 3 rfl; clear hX; go_simp) ?_
        try simp only [Act.put, List.setIfInBounds_toArray, List.set_cons_zero, List.set_cons_succ]
        refine y1 (i := 9) (by kernel_rfl) rfl (fun K' hK => ?_)
        go_simp
        refine (xor_lab (z k) (p k) w5.drew (HW.out.2.2.1 k) (HW.out.1 k)).mono ?_
        rintro e v1 ⟨rfl, hbv1⟩
        have hS := hS.trans (hbv1.mono hS.size)
        refine hK.out _ _ (.inr fun _ => hS) ?_
        clear hK K' hbv1
        try simp only [Act.put, List.setIfInBounds_toArray, List.set_cons_zero, List.set_cons_succ]
        refine y1 (i := 15) (by kernel_rfl) rfl (fun K' hK => ?_)
        go_simp
        refine (label_any (z k) d true v1 (HW.out.2.2.1 k) HW.out.2.2.2).mono ?_
        rw [show Garb.lab Garb.nadd (z k) d true = Garb.nadd (z k) d from rfl]
        rintro e v2 ⟨rfl, hbv2⟩
        have hS := hS.trans (hbv2.mono hS.size)
        refine hK.out _ _ (.inr fun _ => hS) ?_
        clear hK K' hbv2
        try simp only [Act.put, List.setIfInBounds_toArray, List.set_cons_zero, List.set_cons_succ]
        refine y1 (i := 21) (by kernel_rfl) rfl (fun K' hK => ?_)
        go_simp
        refine (xor_lab (Garb.nadd (z k) d) (q k) v2 ((HW.out.2.2.1 k).add HW.out.2.2.2) (HW.out.2.1 k)).mono ?_
        rintro e v3 ⟨rfl, hbv3⟩
        have hS := hS.trans (hbv3.mono hS.size)
        refine hK.out _ _ (.inr fun _ => hS) ?_
        clear hK K' hbv3
        try simp only [Act.put, List.setIfInBounds_toArray, List.set_cons_zero, List.set_cons_succ]
        obtain ⟨gn, kn, wz, hr, hgB, hRz, hgr, hor⟩ := append_two v3 (w.heap.size + 1) (.slice (some ⟨gr, 0, none⟩) (2 * k) cr) (2 * k) (repN z p q d a) (repN z p q d a) (Garb.nadd (z k) (p k)) (Garb.nadd (Garb.nadd (z k) d) (q k)) (HR5.out.below hS) (fun _ _ => rfl) (by rw [repN_0, HBt.out]; rfl) (by rw [repN_1, HBt.out]; rfl) (by have := HLt.out; omega) (by have h1 := Blk.lt HD5.out; have h2 := hS.size; omega)
        have hown := HR5.out.own
        have hbz : Below w.heap.size w wz := ((HB5.out.trans (hS.mono HB5.out.size)).alloc (Nat.le_trans HB5.out.size hS.size) _).grown hgr (by have := HB5.out.size; have := hS.size; simp; omega) (fun q hq => by have := (hown q hq).1; omega)
        have HR := Lib.hid hr
        have HF := Lib.hid (And.intro hRz (And.intro hbz (show LbB wz w.heap.size d from Blk.chg (Blk.below HD5.out hS (Blk.lt HD5.out)) (((Chg.refl (fun x => (Value.slice (some ⟨gr, 0, none⟩) (2 * k) cr).ownBlock = some x) _).alloc _).grown hgr (fun x hx => .inr hx)) (fun h => by have e : gr = w.heap.size := Option.some.inj h; have := HGr.out; omega))))
        have hS3 := hS.alloc hS.size (.cells #[.int .u64 ((Garb.nadd (z k) (p k)).1 : Int), .int .u64 ((Garb.nadd (z k) (p k)).2 : Int), .int .u64 ((Garb.nadd (Garb.nadd (z k) d) (q k)).1 : Int), .int .u64 ((Garb.nadd (Garb.nadd (z k) d) (q k)).2 : Int)] 28)
        clear hr hgB hRz hgr hor hown hbz
        refine y1 (i := 22) (by kernel_rfl) rfl (fun K' hK => ?_)
        go_simp
        refine hK.out _ _ (.inr fun _ => hS3) ?_
        clear hK K' hS hS3
        try simp only [Act.put, List.setIfInBounds_toArray, List.set_cons_zero, List.set_cons_succ]
        refine y1 (i := 23) (by kernel_rfl) rfl (fun K' hK => ?_)
        refine wp_append_run _ _ 29 rfl (.slice (some ⟨gr, 0, none⟩) (2 * k) cr) (.slice (some ⟨v3.heap.size, 0, none⟩) 2 2) (.slice (some ⟨gn, 0, none⟩) (2 * k + 2) kn) wz rfl rfl (HR.out _) ?_
        refine hK.out _ _ (.inl (by decide)) ?_
        clear hK K' HR
        try simp only [Act.put, List.setIfInBounds_toArray, List.set_cons_zero, List.set_cons_succ]
        refine y1 (i := 24) (by kernel_rfl) rfl (fun K' hK => ?_)
        go_simp
        refine hK.out _ _ (.inl (by decide)) ?_
        clear hK K'
        try simp only [Act.put, List.setIfInBounds_toArray, List.set_cons_zero, List.set_cons_succ]
        refine wpAnyY_done (by kernel_rfl) ?_ _
        go_wp2
        go_roundw
        case rel => exact ⟨k + 1, gn, kn, by have := HLt.out; omega, rfl, by go_num, HF.out.1, HF.out.2.1, HF.out.2.2⟩
        case measure => simp [intOf]; have := HLt.out; omega
      | true =>
        rw [hbt] at e2
        have e2 : bits .and .u64 ((a : Int) / 2 ^ k) 1 = 1 := e2
        have HBt := Lib.hid hbt
        clear hbt
        go_wp2
        clear c0 c1 c2 c3 c4 e2 e3
        generalize (wr.alloc (.cells (otC (p k) (q k) (f k)) 71)) = w5 at *
        refine region_y [23, 24] (fun w' => Below w5.heap.size w5 w') (by kernel_rfl) ?_
        have hS : Below w5.heap.size w5 w5.drew := drew_below w5
        refine yu (i := 0) rfl (.slice (some ⟨gr, 0, none⟩) (2 * k) cr) (by kernel_rfl) (by kernel_rfl) (by kernel_rfl) (fun _ _ _ h => h) (fun w' => by go_simp) ?_
        try simp only [Act.put, List.setIfInBounds_toArray, List.set_cons_zero, List.set_cons_succ]
        refine yu (i := 1) rfl (.slice (some ⟨gz, 0, none⟩) 64 cz) (by kernel_rfl) (by kernel_rfl) (by kernel_rfl) (fun _ _ _ h => h) (fun w' => by go_simp) ?_
        try simp only [Act.put, List.setIfInBounds_toArray, List.set_cons_zero, List.set_cons_succ]
        refine yu (i := 2) rfl (.int .i64 (k : Int)) (by kernel_rfl) (by kernel_rfl) (by kernel_rfl) (fun _ _ _ h => h) (fun w' => by go_simp) ?_
        try simp only [Act.put, List.setIfInBounds_toArray, List.set_cons_zero, List.set_cons_succ]
        refine yu (i := 3) rfl (.pointer (some ⟨gz, k * 2, none⟩)) (by kernel_rfl) (by kernel_rfl) (by kernel_rfl) (fun _ _ _ h => h) (fun w' => by have lt2 : (k : Int) < 64 := (by have := HLt.out; omega); have lt3 : (0 : Int) ≤ (k : Int) := (by omega); go_simp) ?_
        try simp only [Act.put, List.setIfInBounds_toArray, List.set_cons_zero, List.set_cons_succ]
        refine yt [23, 24, 22, 9] (i := 4) rfl (labL (z k)) (by kernel_rfl) (by kernel_rfl) (by kernel_rfl) (by kernel_rfl) (fun _ _ _ h => h) hS (fun w' hw' => by have hX := HZ5.out.below hw'; obtain ⟨_, e9, ae, hae, q0, q1, -⟩ := hX.lab k HLt.out; cases e9; rw [Addr.add_mid, Nat.zero_add] at hae; subst hae; clear hX; go_simp) ?_
        try simp only [Act.put, List.setIfInBounds_toArray, List.set_cons_zero, List.set_cons_succ]
        refine yu (i := 5) rfl (.int .u64 1) (by kernel_rfl) (by kernel_rfl) (by kernel_rfl) (fun _ _ _ h => h) (fun w' => by go_simp) ?_
        try simp only [Act.put, List.setIfInBounds_toArray, List.set_cons_zero, List.set_cons_succ]
        refine yu (i := 6) rfl (.pointer (some ⟨wr.heap.size, 0, none⟩)) (by kernel_rfl) (by kernel_rfl) (by kernel_rfl) (fun _ _ _ h => h) (fun w' => by go_simp) ?_
        try simp only [Act.put, List.setIfInBounds_toArray, List.set_cons_zero, List.set_cons_succ]
        refine yu (i := 7) rfl (.pointer (some ⟨wr.heap.size, 2, none⟩)) (by kernel_rfl) (by kernel_rfl) (by kernel_rfl) (fun _ _ _ h => h) (fun w' => by go_simp) ?_
        try simp only [Act.put, List.setIfInBounds_toArray, List.set_cons_zero, List.set_cons_succ]
        refine yt [23, 24, 22, 9] (i := 8) rfl (labL (q k)) (by kernel_rfl) (by kernel_rfl) (by kernel_rfl) (by kernel_rfl) (fun _ _ _ h => h) hS (fun w' hw' => by have hX := Blk.below HO5.out hw' (Blk.lt HO5.out); have q0 := Blk.cell hX 2 rfl; have q1 := Blk.cell hX 3 rfl; clear hX; go_simp) ?_
        try simp only [Act.put, List.setIfInBounds_toArray, List.set_cons_zero, List.set_cons_succ]
        refine yu (i := 10) rfl (.slice (some ⟨gz, 0, none⟩) 64 cz) (by kernel_rfl) (by kernel_rfl) (by kernel_rfl) (fun _ _ _ h => h) (fun w' => by go_simp) ?_
        try simp only [Act.put, List.setIfInBounds_toArray, List.set_cons_zero, List.set_cons_succ]
        refine yu (i := 11) rfl (.int .i64 (k : Int)) (by kernel_rfl) (by kernel_rfl) (by kernel_rfl) (fun _ _ _ h => h) (fun w' => by go_simp) ?_
        try simp only [Act.put, List.setIfInBounds_toArray, List.set_cons_zero, List.set_cons_succ]
        refine yu (i := 12) rfl (.pointer (some ⟨gz, k * 2, none⟩)) (by kernel_rfl) (by kernel_rfl) (by kernel_rfl) (fun _ _ _ h => h) (fun w' => by have lt2 : (k : Int) < 64 := (by have := HLt.out; omega); have lt3 : (0 : Int) ≤ (k : Int) := (by omega); go_simp) ?_
        try simp only [Act.put, List.setIfInBounds_toArray, List.set_cons_zero, List.set_cons_succ]
        refine yt [23, 24, 22, 21, 15] (i := 13) rfl (labL (z k)) (by kernel_rfl) (by kernel_rfl) (by kernel_rfl) (by kernel_rfl) (fun _ _ _ h => h) hS (fun w' hw' => by have hX := HZ5.out.below hw'; obtain ⟨_, e9, ae, hae, q0, q1, -⟩ := hX.lab k HLt.out; cases e9; rw [Addr.add_mid, Nat.zero_add] at hae; subst hae; clear hX; go_simp) ?_
        try simp only [Act.put, List.setIfInBounds_toArray, List.set_cons_zero, List.set_cons_succ]
        refine yt [23, 24, 22, 21, 15] (i := 14) rfl (labL d) (by kernel_rfl) (by kernel_rfl) (by kernel_rfl) (by kernel_rfl) (fun _ _ _ h => h) hS (fun w' hw' => by have hX := Blk.below HD5.out hw' (Blk.lt HD5.out); have q0 := Blk.cell hX 0 rfl; have q1 := Blk.cell hX 1 rfl; clear hX; go_simp) ?_
        try simp only [Act.put, List.setIfInBounds_toArray, List.set_cons_zero, List.set_cons_succ]
        refine yu (i := 16) rfl (.int .u64 1) (by kernel_rfl) (by kernel_rfl) (by kernel_rfl) (fun _ _ _ h => h) (fun w' => by go_simp) ?_
        try simp only [Act.put, List.setIfInBounds_toArray, List.set_cons_zero, List.set_cons_succ]
        refine yu (i := 17) rfl (.int .u64 0) (by kernel_rfl) (by kernel_rfl) (by kernel_rfl) (fun _ _ _ h => h) (fun w' => by have w1 : IntKind.u64.wrap 1 = 1 := rfl; have w0 : IntKind.u64.wrap 0 = 0 := rfl; go_simp) ?_
        try simp only [Act.put, List.setIfInBounds_toArray, List.set_cons_zero, List.set_cons_succ]
        refine yu (i := 18) rfl (.pointer (some ⟨wr.heap.size, 0, none⟩)) (by kernel_rfl) (by kernel_rfl) (by kernel_rfl) (fun _ _ _ h => h) (fun w' => by go_simp) ?_
        try simp only [Act.put, List.setIfInBounds_toArray, List.set_cons_zero, List.set_cons_succ]
        refine yu (i := 19) rfl (.pointer (some ⟨wr.heap.size, 0, none⟩)) (by kernel_rfl) (by kernel_rfl) (by kernel_rfl) (fun _ _ _ h => h) (fun w' => by go_simp) ?_
        try simp only [Act.put, List.setIfInBounds_toArray, List.set_cons_zero, List.set_cons_succ]
        refine yt [23, 24, 22, 21] (i := 20) rfl (labL (p k)) (by kernel_rfl) (by kernel_rfl) (by kernel_rfl) (by kernel_rfl) (fun _ _ _ h => h) hS (fun w' hw' => by have hX := Blk.below HO5.out hw' (Blk.lt HO5.out); have q0 := Blk.cell hX 0 rfl; have q1 := Blk.cell hX 1 rfl; clear hX; go_simp) ?_
        try simp only [Act.put, List.setIfInBounds_toArray, List.set_cons_zero, List.set_cons_succ]
        refine y1 (i := 9) (by kernel_rfl) rfl (fun K' hK => ?_)
        go_simp
        refine (xor_lab (z k) (q k) w5.drew (HW.out.2.2.1 k) (HW.out.2.1 k)).mono ?_
        rintro e v1 ⟨rfl, hbv1⟩
        have hS := hS.trans (hbv1.mono hS.size)
        refine hK.out _ _ (.inr fun _ => hS) ?_
        clear hK K' hbv1
        try simp only [Act.put, List.setIfInBounds_toArray, List.set_cons_zero, List.set_cons_succ]
        refine y1 (i := 15) (by kernel_rfl) rfl (fun K' hK => ?_)
        go_simp
        refine (label_any (z k) d true v1 (HW.out.2.2.1 k) HW.out.2.2.2).mono ?_
        rw [show Garb.lab Garb.nadd (z k) d true = Garb.nadd (z k) d from rfl]
        rintro e v2 ⟨rfl, hbv2⟩
        have hS := hS.trans (hbv2.mono hS.size)
        refine hK.out _ _ (.inr fun _ => hS) ?_
        clear hK K' hbv2
        try simp only [Act.put, List.setIfInBounds_toArray, List.set_cons_zero, List.set_cons_succ]
        refine y1 (i := 21) (by kernel_rfl) rfl (fun K' hK => ?_)
        go_simp
        refine (xor_lab (Garb.nadd (z k) d) (p k) v2 ((HW.out.2.2.1 k).add HW.out.2.2.2) (HW.out.1 k)).mono ?_
        rintro e v3 ⟨rfl, hbv3⟩
        have hS := hS.trans (hbv3.mono hS.size)
        refine hK.out _ _ (.inr fun _ => hS) ?_
        clear hK K' hbv3
        try simp only [Act.put, List.setIfInBounds_toArray, List.set_cons_zero, List.set_cons_succ]
        obtain ⟨gn, kn, wz, hr, hgB, hRz, hgr, hor⟩ := append_two v3 (w.heap.size + 1) (.slice (some ⟨gr, 0, none⟩) (2 * k) cr) (2 * k) (repN z p q d a) (repN z p q d a) (Garb.nadd (z k) (q k)) (Garb.nadd (Garb.nadd (z k) d) (p k)) (HR5.out.below hS) (fun _ _ => rfl) (by rw [repN_0, HBt.out]; rfl) (by rw [repN_1, HBt.out]; rfl) (by have := HLt.out; omega) (by have h1 := Blk.lt HD5.out; have h2 := hS.size; omega)
        have hown := HR5.out.own
        have hbz : Below w.heap.size w wz := ((HB5.out.trans (hS.mono HB5.out.size)).alloc (Nat.le_trans HB5.out.size hS.size) _).grown hgr (by have := HB5.out.size; have := hS.size; simp; omega) (fun q hq => by have := (hown q hq).1; omega)
        have HR := Lib.hid hr
        have HF := Lib.hid (And.intro hRz (And.intro hbz (show LbB wz w.heap.size d from Blk.chg (Blk.below HD5.out hS (Blk.lt HD5.out)) (((Chg.refl (fun x => (Value.slice (some ⟨gr, 0, none⟩) (2 * k) cr).ownBlock = some x) _).alloc _).grown hgr (fun x hx => .inr hx)) (fun h => by have e : gr = w.heap.size := Option.some.inj h; have := HGr.out; omega))))
        have hS3 := hS.alloc hS.size (.cells #[.int .u64 ((Garb.nadd (z k) (q k)).1 : Int), .int .u64 ((Garb.nadd (z k) (q k)).2 : Int), .int .u64 ((Garb.nadd (Garb.nadd (z k) d) (p k)).1 : Int), .int .u64 ((Garb.nadd (Garb.nadd (z k) d) (p k)).2 : Int)] 28)
        clear hr hgB hRz hgr hor hown hbz
        refine y1 (i := 22) (by kernel_rfl) rfl (fun K' hK => ?_)
        go_simp
        refine hK.out _ _ (.inr fun _ => hS3) ?_
        clear hK K' hS hS3
        try simp only [Act.put, List.setIfInBounds_toArray, List.set_cons_zero, List.set_cons_succ]
        refine y1 (i := 23) (by kernel_rfl) rfl (fun K' hK => ?_)
        refine wp_append_run _ _ 29 rfl (.slice (some ⟨gr, 0, none⟩) (2 * k) cr) (.slice (some ⟨v3.heap.size, 0, none⟩) 2 2) (.slice (some ⟨gn, 0, none⟩) (2 * k + 2) kn) wz rfl rfl (HR.out _) ?_
        refine hK.out _ _ (.inl (by decide)) ?_
        clear hK K' HR
        try simp only [Act.put, List.setIfInBounds_toArray, List.set_cons_zero, List.set_cons_succ]
        refine y1 (i := 24) (by kernel_rfl) rfl (fun K' hK => ?_)
        go_simp
        refine hK.out _ _ (.inl (by decide)) ?_
        clear hK K'
        try simp only [Act.put, List.setIfInBounds_toArray, List.set_cons_zero, List.set_cons_succ]
        refine wpAnyY_done (by kernel_rfl) ?_ _
        go_wp2
        go_roundw
        case rel => exact ⟨k + 1, gn, kn, by have := HLt.out; omega, rfl, by go_num, HF.out.1, HF.out.2.1, HF.out.2.2⟩
        case measure => simp [intOf]; have := HLt.out; omega
    · obtain rfl : k = 64 := by omega
      have lt1 : ¬ ((64 : Nat) : Int) < 64 := by omega
      have HB := Lib.hid HI.out
      clear hlt hk HI
      go_wp2
      go_ret2
      exact ⟨gr, cr, rfl, HB.out.1.mono (fun x hx => by have := (HB.out.1.own x hx).1; omega), HB.out.2.1⟩

end Go.Proofs.YtamejhhjfnfalaaDoor
