/- The laws' common beginning, awake: the document's example. -/
import Derived.Test.YtamejhhjfnfalaaDoorZGA8
import Derived.Test.YtamejhhjfnfalaaDoorZGA9
import Derived.Test.YtamejhhjfnfalaaDoorMH
import Derived.Test.YtamejhhjfnfalaaDoorME
namespace Go.Proofs.YtamejhhjfnfalaaDoor
open Go.RowKit
open Rely (upd)

/-- What is evaluated of labels of bits is the labels of the wires' bits. -/
theorem right_eq (H : Lab → Nat → Lab) (d : Lab) (hd : Garb.ncol d = true) (first N n : Nat) (zin lin : Nat → Lab) (y : Nat → Nat → Int) (m : Nat) (o : Nat → Int) (f : Nat → Bool) (hG : Circ.Good N n y m o) (hl : ∀ q, q < N → lin q = Garb.lab Garb.nadd (zin q) d (f q)) (q : Nat) (hq : q < N + n) :
    evlH H first N lin (tabH H d first N zin y n) y n q = Garb.lab Garb.nadd (zerH H d first N zin y n q) d (Circ.vals N f y n q) :=
  Garb.garble_right Garb.nat_xr H d hd (Garb.tw first) (Garb.tw1 first) N zin lin f _ y hl n (Garb.tabs_ok n) hG.fit q hq
/-- The example's circuit: one And. -/
def yA (_ j : Nat) : Int := if j = 0 then 2 else if j = 1 then 0 else 1
def oA (_ : Nat) : Int := 2
theorem goodA : Circ.Good ((2 : Nat) : Int) 1 yA 1 oA := ⟨by omega, by omega, by omega, by omega, fun i hi => by
  obtain rfl : i = 0 := by omega
  exact .inl ⟨.inr rfl, by decide, by decide, by decide, by decide⟩, fun i _ => ⟨by show (0 : Int) ≤ 2; omega, by show (2 : Int) < ((2 : Nat) : Int) + ((1 : Nat) : Int); omega⟩⟩
/-- What the example is in memory. -/
structure AwM (w0 : World) (w : World) : Prop where
  g : AtV w (some ⟨w0.heap.size, 0, none⟩) (1 * 3) (gv yA)
  o : AtV w (some ⟨w0.heap.size + 1, 0, none⟩) 1 (iv oA)
  c : circB w (w0.heap.size + 1 + 1) ((2 : Nat) : Int) (some ⟨w0.heap.size, 0, none⟩) 1 1 (some ⟨w0.heap.size + 1, 0, none⟩) 1 1
  d : LbB w (w0.heap.size + 1 + 1 + 1) (1, 0)
  h : Handle w
  b : Below w0.heap.size w0 w
theorem AwM.below {w0 w w' : World} (h : AwM w0 w) (hb : Below w.heap.size w w') : AwM w0 w' :=
  ⟨h.g.below hb, h.o.below hb, h.c.below hb h.c.lt, Blk.below h.d hb (Blk.lt h.d), h.h.belowS hb, h.b.trans (hb.mono h.b.size)⟩
theorem AwM.start (w : World) (hh : Handle w) : AwM w ((((w.alloc (.cells #[.int .i64 2, .int .i64 0, .int .i64 1] 84)).alloc (.cells #[.int .i64 2] 3)).alloc (.cells #[.int .i64 2, .slice (some ⟨w.heap.size, 0, none⟩) 1 1, .slice (some ⟨w.heap.size + 1, 0, none⟩) 1 1] 25)).alloc (.cells #[.int .u64 1, .int .u64 0] 28)) := by
  have XG := ((Blk.new w 84 #[.int .i64 2, .int .i64 0, .int .i64 1]).alloc (.cells #[.int .i64 2] 3)).alloc (.cells #[.int .i64 2, .slice (some ⟨w.heap.size, 0, none⟩) 1 1, .slice (some ⟨w.heap.size + 1, 0, none⟩) 1 1] 25)
  have XO := (Blk.new (w.alloc (.cells #[.int .i64 2, .int .i64 0, .int .i64 1] 84)) 3 #[.int .i64 2]).alloc (.cells #[.int .i64 2, .slice (some ⟨w.heap.size, 0, none⟩) 1 1, .slice (some ⟨w.heap.size + 1, 0, none⟩) 1 1] 25)
  have XC := Blk.new ((w.alloc (.cells #[.int .i64 2, .int .i64 0, .int .i64 1] 84)).alloc (.cells #[.int .i64 2] 3)) 25 #[.int .i64 2, .slice (some ⟨w.heap.size, 0, none⟩) 1 1, .slice (some ⟨w.heap.size + 1, 0, none⟩) 1 1]
  have XD := Blk.new (((w.alloc (.cells #[.int .i64 2, .int .i64 0, .int .i64 1] 84)).alloc (.cells #[.int .i64 2] 3)).alloc (.cells #[.int .i64 2, .slice (some ⟨w.heap.size, 0, none⟩) 1 1, .slice (some ⟨w.heap.size + 1, 0, none⟩) 1 1] 25)) 28 #[.int .u64 1, .int .u64 0]
  simp only [World.size_alloc] at XO XC XD
  have hb : Below w.heap.size w ((((w.alloc (.cells #[.int .i64 2, .int .i64 0, .int .i64 1] 84)).alloc (.cells #[.int .i64 2] 3)).alloc (.cells #[.int .i64 2, .slice (some ⟨w.heap.size, 0, none⟩) 1 1, .slice (some ⟨w.heap.size + 1, 0, none⟩) 1 1] 25)).alloc (.cells #[.int .u64 1, .int .u64 0] 28)) := ((((Below.refl _ w).alloc (Nat.le_refl _) _).alloc (by simp) _).alloc (by simp; omega) _).alloc (by simp; omega) _
  have YG := XG.alloc (.cells #[.int .u64 1, .int .u64 0] 28)
  have YO := XO.alloc (.cells #[.int .u64 1, .int .u64 0] 28)
  refine ⟨fun i hi => ⟨_, rfl, ?_⟩, fun i hi => ⟨_, rfl, ?_⟩, XC.alloc (.cells #[.int .u64 1, .int .u64 0] 28), XD, hh.belowS hb, hb⟩
  · rw [Addr.add_mid, Nat.zero_add]
    refine YG.cell i ?_
    rcases (show i = 0 ∨ i = 1 ∨ i = 2 by omega) with rfl | rfl | rfl <;> rfl
  · rw [Addr.add_mid, Nat.zero_add]
    obtain rfl : i = 0 := by omega
    exact YO.cell 0 rfl

/-- The example garbled. -/
def GxAns (H : Lab → Nat → Lab) (w : World) (e : Ending) (w' : World) : Prop :=
  ∃ gt kt go, e = .returned (.tuple #[.slice (some ⟨gt, 0, none⟩) 2 kt, .slice (some ⟨go, 0, none⟩) 1 1, .nilIface]) ∧ AtV w' (some ⟨gt, 0, none⟩) (2 * 2) (lv (tabH H (1, 0) 0 2 (fun _ => (0, 0)) yA 1)) ∧ AtV w' (some ⟨go, 0, none⟩) (1 * 2) (lv fun _ => zerH H (1, 0) 0 2 (fun _ => (0, 0)) yA 1 2) ∧ Below w.heap.size w w'
theorem wd1 : Garb.Wd (1, 0) := ⟨by decide, by decide⟩
theorem gar_ex (H : Lab → Nat → Lab) (hH : Hs H) (w0 w : World) (h : AwM w0 w) :
    Calls Tryd.prog 11 #[.agg #[.int .i64 2, .slice (some ⟨w0.heap.size, 0, none⟩) 1 1, .slice (some ⟨w0.heap.size + 1, 0, none⟩) 1 1], .agg #[.int .u64 1, .int .u64 0], .slice (some ⟨w.heap.size, 0, none⟩) 2 2, .int .u64 0] (w.alloc (.cells (madeCells #[Value.int .u64 0, Value.int .u64 0] (2 * 2)) 28)) (GxAns H w) := by
  have hb : Below w.heap.size w (w.alloc (.cells (madeCells #[Value.int .u64 0, Value.int .u64 0] (2 * 2)) 28)) := (Below.refl _ _).alloc (Nat.le_refl _) _
  have hx := h.below hb
  have hz := (made_labs w 2 2 (Nat.le_refl _) (by unfold maxLen; omega)).atv
  have key := garble_ok H hH _ 2 (some ⟨w0.heap.size, 0, none⟩) 1 1 yA (some ⟨w0.heap.size + 1, 0, none⟩) 1 1 oA (1, 0) (some ⟨w.heap.size, 0, none⟩) 2 0 (fun _ => (0, 0)) hx.h hx.g hx.o hz (fun h => by cases h) goodA wd1 rfl (fun _ => Garb.Wd.zero)
  refine Calls.mono key ?_
  rintro e w' ⟨gt, kt, go, rfl, hR1, hR2, hb2⟩
  exact ⟨gt, kt, go, rfl, hR1.atv, hR2.atv, hb.trans (hb2.mono hb.size)⟩
theorem gar_bad (w0 w : World) (h : AwM w0 w) :
    Calls Tryd.prog 11 #[.agg #[.int .i64 2, .slice (some ⟨w0.heap.size, 0, none⟩) 1 1, .slice (some ⟨w0.heap.size + 1, 0, none⟩) 1 1], .agg #[.int .u64 2, .int .u64 0], .slice (some ⟨w.heap.size, 0, none⟩) 2 2, .int .u64 0] (w.alloc (.cells (madeCells #[Value.int .u64 0, Value.int .u64 0] (2 * 2)) 28)) (GrBad 100 w) := by
  have hb : Below w.heap.size w (w.alloc (.cells (madeCells #[Value.int .u64 0, Value.int .u64 0] (2 * 2)) 28)) := (Below.refl _ _).alloc (Nat.le_refl _) _
  have hx := h.below hb
  have key := garble_col _ ((2 : Nat) : Int) (some ⟨w0.heap.size, 0, none⟩) 1 1 yA (some ⟨w0.heap.size + 1, 0, none⟩) 1 1 oA (2, 0) (some ⟨w.heap.size, 0, none⟩) 2 2 0 hx.h hx.g hx.o (by unfold maxLen; omega) (by unfold maxLen; omega) goodA rfl rfl
  refine Calls.mono key ?_
  rintro e w' ⟨h1, hb2⟩
  exact ⟨h1, hb.trans (hb2.mono hb.size)⟩
/-- The example evaluated. -/
def ExAns (H : Lab → Nat → Lab) (w : World) (e : Ending) (w' : World) : Prop :=
  ∃ go, e = .returned (.tuple #[.slice (some ⟨go, 0, none⟩) 1 1, .nilIface]) ∧ AtV w' (some ⟨go, 0, none⟩) (1 * 2) (lv fun _ => Garb.lab Garb.nadd (zerH H (1, 0) 0 2 (fun _ => (0, 0)) yA 1 2) (1, 0) true) ∧ Below w.heap.size w w'
theorem ev_ex (H : Lab → Nat → Lab) (hH : Hs H) (w0 w : World) (gt kt : Nat) (h : AwM w0 w) (ht : AtV w (some ⟨gt, 0, none⟩) (2 * 2) (lv (tabH H (1, 0) 0 2 (fun _ => (0, 0)) yA 1))) :
    Calls Tryd.prog 21 #[.agg #[.int .i64 2, .slice (some ⟨w0.heap.size, 0, none⟩) 1 1, .slice (some ⟨w0.heap.size + 1, 0, none⟩) 1 1], .slice (some ⟨w.heap.size, 0, none⟩) 2 2, .slice (some ⟨gt, 0, none⟩) 2 kt, .int .u64 0] (w.alloc (.cells #[.int .u64 1, .int .u64 0, .int .u64 1, .int .u64 0] 28)) (ExAns H w) := by
  have hb : Below w.heap.size w (w.alloc (.cells #[.int .u64 1, .int .u64 0, .int .u64 1, .int .u64 0] 28)) := (Below.refl _ _).alloc (Nat.le_refl _) _
  have hx := h.below hb
  have hz : AtV (w.alloc (.cells #[.int .u64 1, .int .u64 0, .int .u64 1, .int .u64 0] 28)) (some ⟨w.heap.size, 0, none⟩) (2 * 2) (lv fun _ => (1, 0)) := fun i hi => ⟨_, rfl, by
    rw [Addr.add_mid, Nat.zero_add]
    refine (Blk.new w 28 _).cell i ?_
    rcases (show i = 0 ∨ i = 1 ∨ i = 2 ∨ i = 3 by omega) with rfl | rfl | rfl | rfl <;> rfl⟩
  have htw := Garb.tabs_wd hH.wd wd1 (Garb.tw_lt 0) (Garb.tw1_lt 0) (N := 2) (zin := fun _ => (0, 0)) (y := yA) (fun _ => Garb.Wd.zero) 1
  have key := geval_ok H hH _ 2 (some ⟨w0.heap.size, 0, none⟩) 1 1 yA (some ⟨w0.heap.size + 1, 0, none⟩) 1 1 oA (some ⟨w.heap.size, 0, none⟩) 2 (some ⟨gt, 0, none⟩) 2 kt 0 (fun _ => (1, 0)) (tabH H (1, 0) 0 2 (fun _ => (0, 0)) yA 1) hx.h hx.g hx.o hz (fun h => by cases h) (ht.below hb) goodA rfl (fun _ => wd1) htw
  refine Calls.mono key ?_
  rintro e w' ⟨go, rfl, hR, hb2⟩
  refine ⟨go, rfl, hR.atv.congr (lv_congr fun i _ => ?_), hb.trans (hb2.mono hb.size)⟩
  exact right_eq H (1, 0) rfl 0 2 1 (fun _ => (0, 0)) (fun _ => (1, 0)) yA 1 oA (fun _ => true) goodA (fun _ _ => rfl) 2 (by omega)
set_option maxHeartbeats 8000000 in
set_option maxRecDepth 100000 in
theorem awake_any (w : World) (hh : Handle w) : Calls Tryd.prog 8 #[] w fun e w' => e = .returned (.bool true) ∧ Below w.heap.size w w' := by
  obtain ⟨H, hH⟩ := hs_ex
  have HM := Lib.hid (AwM.start w hh)
  have HH := Lib.hid hH
  have hmk : ∀ wx : World, (Instr.makeSlice 29 (.int .i64 2) (.int .i64 2)).run Tryd.prog wx = .ok (.slice (some ⟨wx.heap.size, 0, none⟩) 2 2) (wx.alloc (.cells (madeCells #[Value.int .u64 0, Value.int .u64 0] (2 * 2)) 28)) := fun wx => run_makeL wx 2 2 (Nat.le_refl _) (by omega)
  clear hh hH
  go_enter Tryd.func8, Tryd.ntmps8
  go_wp2
  generalize ((((w.alloc (.cells #[.int .i64 2, .int .i64 0, .int .i64 1] 84)).alloc (.cells #[.int .i64 2] 3)).alloc (.cells #[.int .i64 2, .slice (some ⟨w.heap.size, 0, none⟩) 1 1, .slice (some ⟨w.heap.size + 1, 0, none⟩) 1 1] 25)).alloc (.cells #[.int .u64 1, .int .u64 0] 28)) = w1 at *
  refine wp_region_held_drew (S := AwM w) (by kernel_rfl) (HM.out.below (drew_below _)) (fun hS => ?_)
  clear HM
  generalize w1.drew = w2 at *
  refine htg (i := 0) rfl (.agg #[.int .i64 2, .slice (some ⟨w.heap.size, 0, none⟩) 1 1, .slice (some ⟨w.heap.size + 1, 0, none⟩) 1 1]) (by kernel_rfl) (by kernel_rfl) (by kernel_rfl) (fun _ _ _ h => h) (by rfl) hS (fun w' hw' => by have q0 := hw'.c.cell 0 (v := .int .i64 2) rfl; have q1 := hw'.c.cell 1 (v := .slice (some ⟨w.heap.size, 0, none⟩) 1 1) rfl; have q2 := hw'.c.cell 2 (v := .slice (some ⟨w.heap.size + 1, 0, none⟩) 1 1) rfl; go_simp) ?_
  try simp only [Act.put, List.setIfInBounds_toArray, List.set_cons_zero, List.set_cons_succ]
  refine htg (i := 1) rfl (.agg #[.int .u64 1, .int .u64 0]) (by kernel_rfl) (by kernel_rfl) (by kernel_rfl) (fun _ _ _ h => h) (by rfl) hS (fun w' hw' => by have q0 := Blk.cell hw'.d 0 (v := .int .u64 1) rfl; have q1 := Blk.cell hw'.d 1 (v := .int .u64 0) rfl; go_simp) ?_
  try simp only [Act.put, List.setIfInBounds_toArray, List.set_cons_zero, List.set_cons_succ]
  refine h1g (i := 2) (by kernel_rfl) rfl (by rfl) (fun K' hK => ?_)
  go_simp
  refine hK.out _ _ (hS.below ((Below.refl _ _).alloc (Nat.le_refl _) _)) ?_
  clear hK K'
  try simp only [Act.put, List.setIfInBounds_toArray, List.set_cons_zero, List.set_cons_succ]
  refine h1g (i := 3) (by kernel_rfl) rfl (by rfl) (fun K' hK => ?_)
  go_simp
  refine (gar_ex H HH.out w w2 hS).mono ?_
  rintro e w3 ⟨gt, kt, go, rfl, hT, hO, hb⟩
  have hS := hS.below hb
  refine hK.out _ _ hS ?_
  have H3 := Lib.hid (And.intro hT hO)
  clear hK K' hT hO hb
  try simp only [Act.put, List.setIfInBounds_toArray, List.set_cons_zero, List.set_cons_succ]
  refine htg (i := 4) rfl (.tuple #[.slice (some ⟨gt, 0, none⟩) 2 kt, .slice (some ⟨go, 0, none⟩) 1 1, .nilIface]) (by kernel_rfl) (by kernel_rfl) (by kernel_rfl) (fun _ _ _ h => h) (by rfl) hS (fun w' hw' => by go_simp) ?_
  try simp only [Act.put, List.setIfInBounds_toArray, List.set_cons_zero, List.set_cons_succ]
  refine htg (i := 5) rfl (.slice (some ⟨gt, 0, none⟩) 2 kt) (by kernel_rfl) (by kernel_rfl) (by kernel_rfl) (fun _ _ _ h => h) (by rfl) hS (fun w' hw' => by go_simp) ?_
  try simp only [Act.put, List.setIfInBounds_toArray, List.set_cons_zero, List.set_cons_succ]
  refine htg (i := 6) rfl (.slice (some ⟨go, 0, none⟩) 1 1) (by kernel_rfl) (by kernel_rfl) (by kernel_rfl) (fun _ _ _ h => h) (by rfl) hS (fun w' hw' => by go_simp) ?_
  try simp only [Act.put, List.setIfInBounds_toArray, List.set_cons_zero, List.set_cons_succ]
  refine htg (i := 7) rfl (.nilIface) (by kernel_rfl) (by kernel_rfl) (by kernel_rfl) (fun _ _ _ h => h) (by rfl) hS (fun w' hw' => by go_simp) ?_
  try simp only [Act.put, List.setIfInBounds_toArray, List.set_cons_zero, List.set_cons_succ]
  refine htg (i := 8) rfl (.slice (some ⟨gt, 0, none⟩) 2 kt) (by kernel_rfl) (by kernel_rfl) (by kernel_rfl) (fun _ _ _ h => h) (by rfl) hS (fun w' hw' => by go_simp) ?_
  try simp only [Act.put, List.setIfInBounds_toArray, List.set_cons_zero, List.set_cons_succ]
  refine htg (i := 9) rfl (.slice (some ⟨go, 0, none⟩) 1 1) (by kernel_rfl) (by kernel_rfl) (by kernel_rfl) (fun _ _ _ h => h) (by rfl) hS (fun w' hw' => by go_simp) ?_
  try simp only [Act.put, List.setIfInBounds_toArray, List.set_cons_zero, List.set_cons_succ]
  refine htg (i := 10) rfl (.nilIface) (by kernel_rfl) (by kernel_rfl) (by kernel_rfl) (fun _ _ _ h => h) (by rfl) hS (fun w' hw' => by go_simp) ?_
  try simp only [Act.put, List.setIfInBounds_toArray, List.set_cons_zero, List.set_cons_succ]
  refine wpAnyH_done (by kernel_rfl) ?_ _
  have q0 := hS.c.cell 0 (v := .int .i64 2) rfl
  have q1 := hS.c.cell 1 (v := .slice (some ⟨w.heap.size, 0, none⟩) 1 1) rfl
  have q2 := hS.c.cell 2 (v := .slice (some ⟨w.heap.size + 1, 0, none⟩) 1 1) rfl
  have q3 := Blk.cell hS.d 0 (v := .int .u64 1) rfl
  have q4 := Blk.cell hS.d 1 (v := .int .u64 0) rfl
  have HE := Lib.hid (ev_ex H HH.out w w3 gt kt hS H3.out.1)
  have HS := Lib.hid hS
  clear hS
  go_wp2_with fail
  refine HE.out.mono ?_
  rintro e w4 ⟨gl, rfl, hL, hb⟩
  have H4 := Lib.hid (And.intro hL (H3.out.2.below hb))
  have HS4 := Lib.hid (HS.out.below hb)
  clear HE HS H3 hL hb q0 q1 q2 q3 q4
  go_wp2
  refine wp_region_held_drew (S := AwM w) (by kernel_rfl) (HS4.out.below (drew_below _)) (fun hS => ?_)
  have H5 := Lib.hid (And.intro (H4.out.1.below (drew_below w4)) (H4.out.2.below (drew_below w4)))
  clear HS4 H4
  generalize w4.drew = w5 at *
  refine htg (i := 0) rfl (.agg #[.int .i64 2, .slice (some ⟨w.heap.size, 0, none⟩) 1 1, .slice (some ⟨w.heap.size + 1, 0, none⟩) 1 1]) (by kernel_rfl) (by kernel_rfl) (by kernel_rfl) (fun _ _ _ h => h) (by rfl) hS (fun w' hw' => by have q0 := hw'.c.cell 0 (v := .int .i64 2) rfl; have q1 := hw'.c.cell 1 (v := .slice (some ⟨w.heap.size, 0, none⟩) 1 1) rfl; have q2 := hw'.c.cell 2 (v := .slice (some ⟨w.heap.size + 1, 0, none⟩) 1 1) rfl; go_simp) ?_
  try simp only [Act.put, List.setIfInBounds_toArray, List.set_cons_zero, List.set_cons_succ]
  refine htg (i := 1) rfl (.agg #[.int .u64 2, .int .u64 0]) (by kernel_rfl) (by kernel_rfl) (by kernel_rfl) (fun _ _ _ h => h) (by rfl) hS (fun w' hw' => by go_simp) ?_
  try simp only [Act.put, List.setIfInBounds_toArray, List.set_cons_zero, List.set_cons_succ]
  refine h1g (i := 2) (by kernel_rfl) rfl (by rfl) (fun K' hK => ?_)
  go_simp
  refine hK.out _ _ (hS.below ((Below.refl _ _).alloc (Nat.le_refl _) _)) ?_
  clear hK K'
  try simp only [Act.put, List.setIfInBounds_toArray, List.set_cons_zero, List.set_cons_succ]
  refine h1g (i := 3) (by kernel_rfl) rfl (by rfl) (fun K' hK => ?_)
  go_simp
  refine (gar_bad w w5 hS).mono ?_
  rintro e w6 ⟨⟨p, a, rfl⟩, hb⟩
  obtain ⟨T, x, hT⟩ := chain_iface [(p, a)] 100
  have HIs := Lib.hid (fun wx => fis_chain [(p, a)] 100 100 wx)
  rw [hT] at HIs ⊢
  have hS := hS.below hb
  refine hK.out _ _ hS ?_
  have H6 := Lib.hid (And.intro (H5.out.1.below hb) (H5.out.2.below hb))
  clear hK K' hb hT H5
  try simp only [Act.put, List.setIfInBounds_toArray, List.set_cons_zero, List.set_cons_succ]
  refine htg (i := 4) rfl (.tuple #[.slice none 0 0, .slice none 0 0, .iface T x]) (by kernel_rfl) (by kernel_rfl) (by kernel_rfl) (fun _ _ _ h => h) (by rfl) hS (fun w' hw' => by go_simp) ?_
  try simp only [Act.put, List.setIfInBounds_toArray, List.set_cons_zero, List.set_cons_succ]
  refine htg (i := 5) rfl (.slice none 0 0) (by kernel_rfl) (by kernel_rfl) (by kernel_rfl) (fun _ _ _ h => h) (by rfl) hS (fun w' hw' => by go_simp) ?_
  try simp only [Act.put, List.setIfInBounds_toArray, List.set_cons_zero, List.set_cons_succ]
  refine htg (i := 6) rfl (.slice none 0 0) (by kernel_rfl) (by kernel_rfl) (by kernel_rfl) (fun _ _ _ h => h) (by rfl) hS (fun w' hw' => by go_simp) ?_
  try simp only [Act.put, List.setIfInBounds_toArray, List.set_cons_zero, List.set_cons_succ]
  refine htg (i := 7) rfl (.iface T x) (by kernel_rfl) (by kernel_rfl) (by kernel_rfl) (fun _ _ _ h => h) (by rfl) hS (fun w' hw' => by go_simp) ?_
  try simp only [Act.put, List.setIfInBounds_toArray, List.set_cons_zero, List.set_cons_succ]
  refine htg (i := 8) rfl (.slice none 0 0) (by kernel_rfl) (by kernel_rfl) (by kernel_rfl) (fun _ _ _ h => h) (by rfl) hS (fun w' hw' => by go_simp) ?_
  try simp only [Act.put, List.setIfInBounds_toArray, List.set_cons_zero, List.set_cons_succ]
  refine htg (i := 9) rfl (.slice none 0 0) (by kernel_rfl) (by kernel_rfl) (by kernel_rfl) (fun _ _ _ h => h) (by rfl) hS (fun w' hw' => by go_simp) ?_
  try simp only [Act.put, List.setIfInBounds_toArray, List.set_cons_zero, List.set_cons_succ]
  refine htg (i := 10) rfl (.iface T x) (by kernel_rfl) (by kernel_rfl) (by kernel_rfl) (fun _ _ _ h => h) (by rfl) hS (fun w' hw' => by go_simp) ?_
  try simp only [Act.put, List.setIfInBounds_toArray, List.set_cons_zero, List.set_cons_succ]
  refine wpAnyH_done (by kernel_rfl) ?_ _
  have HS := Lib.hid hS
  clear hS hmk
  go_wp2
  obtain ⟨Z, hZ⟩ : ∃ Z, zerH H (1, 0) 0 2 (fun _ => (0, 0)) yA 1 2 = Z := ⟨_, rfl⟩
  have hZw : Garb.Wd Z := hZ ▸ Garb.zer_wd HH.out.wd wd1 (Garb.tw_lt 0) (Garb.tw1_lt 0) 2 (fun _ => (0, 0)) yA (fun _ => Garb.Wd.zero) 1 2
  obtain ⟨X, hX⟩ : ∃ X, Garb.lab Garb.nadd Z (1, 0) true = X := ⟨_, rfl⟩
  obtain ⟨hL, hO⟩ := H6.out
  rw [hZ] at hL hO
  rw [hX] at hL
  obtain ⟨_, e9, ae, hae, l0, l1, -⟩ := hL.lab 0 (by omega)
  cases e9
  subst hae
  obtain ⟨_, e9, ae, hae, o0, o1, -⟩ := hO.lab 0 (by omega)
  cases e9
  subst hae
  have HX := Lib.hid (show (w6.cell? ⟨gl, 0, none⟩ = some (.int .u64 (X.1 : Int)) ∧ w6.cell? ⟨gl, 1, none⟩ = some (.int .u64 (X.2 : Int))) ∧ (w6.cell? ⟨go, 0, none⟩ = some (.int .u64 (Z.1 : Int)) ∧ w6.cell? ⟨go, 1, none⟩ = some (.int .u64 (Z.2 : Int))) from ⟨⟨l0, l1⟩, o0, o1⟩)
  have HZ := Lib.hid (And.intro hZw hX)
  clear hL hO l0 l1 o0 o1 hZ hX hZw H6
  refine Rely.region (G := Nat) (vs := [fun _ => .nilIface, fun _ => .bool true, fun _ => .bool true, fun _ => .slice (some ⟨gl, 0, none⟩) 1 1, fun _ => .int .i64 1, fun _ => .bool true, fun _ => .bool true, fun _ => .bool true, fun _ => .slice (some ⟨gl, 0, none⟩) 1 1, fun _ => .pointer (some ⟨gl, 0, none⟩), fun _ => labL X, fun _ => .slice (some ⟨go, 0, none⟩) 1 1, fun _ => .pointer (some ⟨go, 0, none⟩), fun _ => labL Z, fun _ => .agg #[.int .u64 1, .int .u64 0], fun _ => labL X, fun _ => .bool true, fun _ => .bool true, fun _ => .bool true, fun _ => .iface T x, fun _ => .bool true, fun _ => .bool true, fun _ => .bool true]) (F := fun _ _ w' => Below w6.heap.size w6 w') (by kernel_rfl) (by kernel_rfl) rfl (fun _ => 0) (drew_below w6) ?hsteps ?hend
  case hsteps =>
    refine Rely.Steps.cons (fun L γ ev wv hL hE hF hC hCf hO hV => ?_) ?_
    · clear hL
      have v7 : ev (.tmp 7) = .nilIface := (hO 7 (by kernel_rfl)).trans rfl
      clear hE hO hV
      exact Rely.Good.value 0 (u := .nilIface) (by go_simp) (fun _ _ => rfl) hF
    refine Rely.Steps.cons (fun L γ ev wv hL hE hF hC hCf hO hV => ?_) ?_
    · clear hL
      have hL0 : L 0 = true := hE _ (Array.mem_of_getElem? (i := 0) rfl) rfl
      have v53 : ev (.tmp 53) = .nilIface := hV 0 53 hL0 rfl
      clear hE hO hV
      exact Rely.Good.value 0 (u := .bool true) (by go_simp) (fun _ _ => rfl) hF
    refine Rely.Steps.cons (fun L γ ev wv hL hE hF hC hCf hO hV => ?_) ?_
    · clear hL
      have hL1 : L 1 = true := hE _ (Array.mem_of_getElem? (i := 0) rfl) rfl
      have v54 : ev (.tmp 54) = .bool true := hV 1 54 hL1 rfl
      clear hE hO hV
      exact Rely.Good.value 0 (u := .bool true) (by go_simp) (fun _ _ => rfl) hF
    refine Rely.Steps.yes 2 true (fun _ => rfl) (fun L γ ev wv hL hE hF hC hCf hO hV => ?_) ?_
    · clear hL
      have v6 : ev (.tmp 6) = .slice (some ⟨gl, 0, none⟩) 1 1 := (hO 6 (by kernel_rfl)).trans rfl
      clear hE hO hV
      exact Rely.Good.value 0 (u := .slice (some ⟨gl, 0, none⟩) 1 1) (by go_simp) (fun _ _ => rfl) hF
    refine Rely.Steps.yes 2 true (fun _ => rfl) (fun L γ ev wv hL hE hF hC hCf hO hV => ?_) ?_
    · clear hL
      have hL3 : L 3 = true := hE _ (Array.mem_of_getElem? (i := 0) rfl) rfl
      have v56 : ev (.tmp 56) = .slice (some ⟨gl, 0, none⟩) 1 1 := hV 3 56 hL3 rfl
      clear hE hO hV
      exact Rely.Good.value 0 (u := .int .i64 1) (by go_simp) (fun _ _ => rfl) hF
    refine Rely.Steps.yes 2 true (fun _ => rfl) (fun L γ ev wv hL hE hF hC hCf hO hV => ?_) ?_
    · clear hL
      have hL4 : L 4 = true := hE _ (Array.mem_of_getElem? (i := 0) rfl) rfl
      have v57 : ev (.tmp 57) = .int .i64 1 := hV 4 57 hL4 rfl
      clear hE hO hV
      exact Rely.Good.value 0 (u := .bool true) (by go_simp) (fun _ _ => rfl) hF
    refine Rely.Steps.cons (fun L γ ev wv hL hE hF hC hCf hO hV => ?_) ?_
    · clear hL
      have hL2 : L 2 = true := hE _ (Array.mem_of_getElem? (i := 0) rfl) rfl
      have v55 : ev (.tmp 55) = .bool true := hV 2 55 hL2 rfl
      have hL5 : L 5 = true := hE _ (Array.mem_of_getElem? (i := 1) rfl) rfl
      have v58 : ev (.tmp 58) = .bool true := hV 5 58 hL5 rfl
      clear hE hO hV
      exact Rely.Good.value 0 (u := .bool true) (by go_simp) (fun _ _ => rfl) hF
    refine Rely.Steps.cons (fun L γ ev wv hL hE hF hC hCf hO hV => ?_) ?_
    · clear hL
      have hL6 : L 6 = true := hE _ (Array.mem_of_getElem? (i := 0) rfl) rfl
      have v59 : ev (.tmp 59) = .bool true := hV 6 59 hL6 rfl
      clear hE hO hV
      exact Rely.Good.value 0 (u := .bool true) (by go_simp) (fun _ _ => rfl) hF
    refine Rely.Steps.yes 7 true (fun _ => rfl) (fun L γ ev wv hL hE hF hC hCf hO hV => ?_) ?_
    · clear hL
      have v6 : ev (.tmp 6) = .slice (some ⟨gl, 0, none⟩) 1 1 := (hO 6 (by kernel_rfl)).trans rfl
      clear hE hO hV
      exact Rely.Good.value 0 (u := .slice (some ⟨gl, 0, none⟩) 1 1) (by go_simp) (fun _ _ => rfl) hF
    refine Rely.Steps.yes 7 true (fun _ => rfl) (fun L γ ev wv hL hE hF hC hCf hO hV => ?_) ?_
    · clear hL
      have hL8 : L 8 = true := hE _ (Array.mem_of_getElem? (i := 0) rfl) rfl
      have v61 : ev (.tmp 61) = .slice (some ⟨gl, 0, none⟩) 1 1 := hV 8 61 hL8 rfl
      clear hE hO hV
      exact Rely.Good.value 0 (u := .pointer (some ⟨gl, 0, none⟩)) (by go_simp) (fun _ _ => rfl) hF
    refine Rely.Steps.yes 7 true (fun _ => rfl) (fun L γ ev wv hL hE hF hC hCf hO hV => ?_) ?_
    · clear hL
      have hL9 : L 9 = true := hE _ (Array.mem_of_getElem? (i := 0) rfl) rfl
      have v62 : ev (.tmp 62) = .pointer (some ⟨gl, 0, none⟩) := hV 9 62 hL9 rfl
      clear hE hO hV
      have q0 := (hF.cell (World.block_lt_of_cell? _ _ HX.out.1.1)).trans HX.out.1.1
      have q1 := (hF.cell (World.block_lt_of_cell? _ _ HX.out.1.2)).trans HX.out.1.2
      have HF := Lib.hid hF
      clear hF
      exact Rely.Good.value 0 (u := labL X) (by go_simp) (fun _ _ => rfl) HF.out
    refine Rely.Steps.yes 7 true (fun _ => rfl) (fun L γ ev wv hL hE hF hC hCf hO hV => ?_) ?_
    · clear hL
      have v4 : ev (.tmp 4) = .slice (some ⟨go, 0, none⟩) 1 1 := (hO 4 (by kernel_rfl)).trans rfl
      clear hE hO hV
      exact Rely.Good.value 0 (u := .slice (some ⟨go, 0, none⟩) 1 1) (by go_simp) (fun _ _ => rfl) hF
    refine Rely.Steps.yes 7 true (fun _ => rfl) (fun L γ ev wv hL hE hF hC hCf hO hV => ?_) ?_
    · clear hL
      have hL11 : L 11 = true := hE _ (Array.mem_of_getElem? (i := 0) rfl) rfl
      have v64 : ev (.tmp 64) = .slice (some ⟨go, 0, none⟩) 1 1 := hV 11 64 hL11 rfl
      clear hE hO hV
      exact Rely.Good.value 0 (u := .pointer (some ⟨go, 0, none⟩)) (by go_simp) (fun _ _ => rfl) hF
    refine Rely.Steps.yes 7 true (fun _ => rfl) (fun L γ ev wv hL hE hF hC hCf hO hV => ?_) ?_
    · clear hL
      have hL12 : L 12 = true := hE _ (Array.mem_of_getElem? (i := 0) rfl) rfl
      have v65 : ev (.tmp 65) = .pointer (some ⟨go, 0, none⟩) := hV 12 65 hL12 rfl
      clear hE hO hV
      have q0 := (hF.cell (World.block_lt_of_cell? _ _ HX.out.2.1)).trans HX.out.2.1
      have q1 := (hF.cell (World.block_lt_of_cell? _ _ HX.out.2.2)).trans HX.out.2.2
      have HF := Lib.hid hF
      clear hF
      exact Rely.Good.value 0 (u := labL Z) (by go_simp) (fun _ _ => rfl) HF.out
    refine Rely.Steps.yes 7 true (fun _ => rfl) (fun L γ ev wv hL hE hF hC hCf hO hV => ?_) ?_
    · clear hL
      have v2 : ev (.tmp 2) = .pointer (some ⟨w.heap.size + 1 + 1 + 1, 0, none⟩) := (hO 2 (by kernel_rfl)).trans rfl
      clear hE hO hV
      have hD := (HS.out.below hF).d
      have q0 := Blk.cell hD 0 (v := .int .u64 1) rfl
      have q1 := Blk.cell hD 1 (v := .int .u64 0) rfl
      have HF := Lib.hid hF
      clear hF hD
      exact Rely.Good.value 0 (u := .agg #[.int .u64 1, .int .u64 0]) (by go_simp) (fun _ _ => rfl) HF.out
    refine Rely.Steps.yes 7 true (fun _ => rfl) (fun L γ ev wv hL hE hF hC hCf hO hV => ?_) ?_
    · clear hL
      have hL13 : L 13 = true := hE _ (Array.mem_of_getElem? (i := 0) rfl) rfl
      have v66 : ev (.tmp 66) = labL Z := hV 13 66 hL13 rfl
      have hL14 : L 14 = true := hE _ (Array.mem_of_getElem? (i := 1) rfl) rfl
      have v67 : ev (.tmp 67) = .agg #[.int .u64 1, .int .u64 0] := hV 14 67 hL14 rfl
      clear hE hO hV
      have HF := Lib.hid hF
      clear hF
      exact Rely.Good.enter (f := 20) (args := #[labL Z, .agg #[.int .u64 1, .int .u64 0], .bool true]) (by go_simp) ((label_any Z (1, 0) true wv HZ.out.1 wd1).mono fun e w2 hc => ⟨0, _, hc.1, fun _ _ => by rw [show Garb.lab Garb.nadd Z (1, 0) true = X from HZ.out.2]; rfl, HF.out.trans (hc.2.mono HF.out.size)⟩)
    refine Rely.Steps.yes 7 true (fun _ => rfl) (fun L γ ev wv hL hE hF hC hCf hO hV => ?_) ?_
    · clear hL
      have hL10 : L 10 = true := hE _ (Array.mem_of_getElem? (i := 0) rfl) rfl
      have v63 : ev (.tmp 63) = labL X := hV 10 63 hL10 rfl
      have hL15 : L 15 = true := hE _ (Array.mem_of_getElem? (i := 1) rfl) rfl
      have v68 : ev (.tmp 68) = labL X := hV 15 68 hL15 rfl
      clear hE hO hV
      have hq := Ae.run_eql_lab
      exact Rely.Good.value 0 (u := .bool true) (by go_simp) (fun _ _ => rfl) hF
    refine Rely.Steps.cons (fun L γ ev wv hL hE hF hC hCf hO hV => ?_) ?_
    · clear hL
      have hL7 : L 7 = true := hE _ (Array.mem_of_getElem? (i := 0) rfl) rfl
      have v60 : ev (.tmp 60) = .bool true := hV 7 60 hL7 rfl
      have hL16 : L 16 = true := hE _ (Array.mem_of_getElem? (i := 1) rfl) rfl
      have v69 : ev (.tmp 69) = .bool true := hV 16 69 hL16 rfl
      clear hE hO hV
      exact Rely.Good.value 0 (u := .bool true) (by go_simp) (fun _ _ => rfl) hF
    refine Rely.Steps.cons (fun L γ ev wv hL hE hF hC hCf hO hV => ?_) ?_
    · clear hL
      have hL17 : L 17 = true := hE _ (Array.mem_of_getElem? (i := 0) rfl) rfl
      have v70 : ev (.tmp 70) = .bool true := hV 17 70 hL17 rfl
      clear hE hO hV
      exact Rely.Good.value 0 (u := .bool true) (by go_simp) (fun _ _ => rfl) hF
    refine Rely.Steps.yes 18 true (fun _ => rfl) (fun L γ ev wv hL hE hF hC hCf hO hV => ?_) ?_
    · clear hL
      have v10 : ev (.tmp 10) = .iface T x := (hO 10 (by kernel_rfl)).trans rfl
      clear hE hO hV
      exact Rely.Good.value 0 (u := .iface T x) (by go_simp) (fun _ _ => rfl) hF
    refine Rely.Steps.yes 18 true (fun _ => rfl) (fun L γ ev wv hL hE hF hC hCf hO hV => ?_) ?_
    · clear hL
      have hL19 : L 19 = true := hE _ (Array.mem_of_getElem? (i := 0) rfl) rfl
      have v72 : ev (.tmp 72) = .iface T x := hV 19 72 hL19 rfl
      clear hE hO hV
      have HF := Lib.hid hF
      clear hF
      exact Rely.Good.enter (f := 35) (args := #[.iface T x, .int .i64 100]) (by go_simp) ((HIs.out wv).mono fun e w2 hc => ⟨0, _, hc.1, fun _ _ => rfl, HF.out.trans (hc.2.mono HF.out.size)⟩)
    refine Rely.Steps.cons (fun L γ ev wv hL hE hF hC hCf hO hV => ?_) ?_
    · clear hL
      have hL18 : L 18 = true := hE _ (Array.mem_of_getElem? (i := 0) rfl) rfl
      have v71 : ev (.tmp 71) = .bool true := hV 18 71 hL18 rfl
      have hL20 : L 20 = true := hE _ (Array.mem_of_getElem? (i := 1) rfl) rfl
      have v73 : ev (.tmp 73) = .bool true := hV 20 73 hL20 rfl
      clear hE hO hV
      exact Rely.Good.value 0 (u := .bool true) (by go_simp) (fun _ _ => rfl) hF
    refine Rely.Steps.cons (fun L γ ev wv hL hE hF hC hCf hO hV => ?_) ?_
    · clear hL
      have hL21 : L 21 = true := hE _ (Array.mem_of_getElem? (i := 0) rfl) rfl
      have v74 : ev (.tmp 74) = .bool true := hV 21 74 hL21 rfl
      clear hE hO hV
      exact Rely.Good.value 0 (u := .bool true) (by go_simp) (fun _ _ => rfl) hF
    exact Rely.Steps.nil
  case hend =>
    intro γ w7 hF
    have HB := Lib.hid (HS.out.b.trans (hF.mono HS.out.b.size))
    clear hF HS HX HZ HIs HH
    simp only [Rely.fin, Act.put, List.setIfInBounds_toArray, List.set_cons_zero, List.set_cons_succ]
    go_wp2
    go_ret
    exact ⟨rfl, HB.out⟩

end Go.Proofs.YtamejhhjfnfalaaDoor
