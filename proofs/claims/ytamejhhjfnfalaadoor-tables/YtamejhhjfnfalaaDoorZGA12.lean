/- Contract of the document's Garble: the tables and the zero labels of all wires. -/
import Derived.Test.YtamejhhjfnfalaaDoorZGA7
import Derived.Test.YtamejhhjfnfalaaDoorMH
import Derived.Test.YtamejhhjfnfalaaDoorMG
namespace Go.Proofs.YtamejhhjfnfalaaDoor
open Go.RowKit
open Rely (upd)

/-- What holds behind k gates. -/
def Rg (w2 : World) (B N : Nat) (Z T : Nat → Nat → Lab) (y : Nat → Nat → Int) (k : Nat) (v vt : Value) (wr : World) : Prop :=
  Row wr B 28 2 v (N + k) (lv (Z k)) ∧ Row wr B 28 2 vt (2 * Circ.ands y k) (lv (T k)) ∧ Below B w2 wr ∧ B ≤ wr.heap.size ∧ ∀ q, v.ownBlock = some q → vt.ownBlock ≠ some q
/-- The next wire's label is appended. -/
theorem rg_step {w2 w3 : World} {B N : Nat} {Z T : Nat → Nat → Lab} {y : Nat → Nat → Int} {k : Nat} {v vt : Value} (hR : Row w3 B 28 2 v (N + k) (lv (Z k))) (hT : Row w3 B 28 2 vt (2 * Circ.ands y (k + 1)) (lv (T (k + 1)))) (hb : Below B w2 w3) (hB : B ≤ w3.heap.size) (hd : ∀ q, v.ownBlock = some q → vt.ownBlock ≠ some q) (r : Lab)
    (hZ : ∀ q, q < N + k → Z k q = Z (k + 1) q) (hZn : Z (k + 1) (N + k) = r) (hn : N + k + 1 ≤ 100000) :
    ∃ g kk w4, (∀ ty, (Builtin.append_ #[29, 29] ty #[v, .slice (some ⟨w3.heap.size, 0, none⟩) 1 1]).run Tryd.prog (w3.alloc (.cells #[.int .u64 (r.1 : Int), .int .u64 (r.2 : Int)] 28)) = .ok (.slice (some ⟨g, 0, none⟩) (N + k + 1) kk) w4) ∧ Rg w2 B N Z T y (k + 1) (.slice (some ⟨g, 0, none⟩) (N + k + 1) kk) vt w4 := by
  obtain ⟨g, kk, w4, hr, hgB, hR4, hgr, hor⟩ := append_one eltL w3 B v (N + k) (lv (Z k)) (lv fun _ => r) #[.int .u64 (r.1 : Int), .int .u64 (r.2 : Int)] hR (fun j hj => by
    rcases (show j = 0 ∨ j = 1 by omega) with rfl | rfl <;> rfl) (lv_one _) (by omega) (by unfold maxLen; omega) hB
  have hc4 : Chg (fun q => v.ownBlock = some q) w3 w4 := ((Chg.refl _ w3).alloc (.cells #[.int .u64 (r.1 : Int), .int .u64 (r.2 : Int)] 28)).grown hgr (fun q hq => .inr hq)
  have hown := hR.own
  have hot := hT.own
  refine ⟨g, kk, w4, hr, hR4.congr (fun q hq => lv_next hZ hZn q hq), hT.chg hc4 (fun q hq h => hd q h hq), hb.trans (hc4.below hB fun q hq => (hown q hq).1), Nat.le_trans hB hc4.size, fun q hq h => ?_⟩
  obtain rfl : g = q := Option.some.inj hq
  rcases hor with e | e
  · exact hd g e h
  · have := (hot g h).2.1; omega
def RgAns (H : Lab → Nat → Lab) (d : Lab) (first N n : Nat) (zin : Nat → Lab) (y : Nat → Nat → Int) (w : World) (e : Ending) (w' : World) : Prop :=
  ∃ vt vw, e = .returned (.tuple #[vt, vw]) ∧ Row w' w.heap.size 28 2 vt (2 * Circ.ands y n) (lv (tabH H d first N zin y n)) ∧ Row w' w.heap.size 28 2 vw (N + n) (lv (zerH H d first N zin y n)) ∧ Below w.heap.size w w'
set_option maxHeartbeats 16000000 in
set_option maxRecDepth 100000 in
theorem rgarble_any (H : Lab → Nat → Lab) (hH : Hs H) (w : World) (Ag : Option Addr) (n cg : Nat) (y : Nat → Nat → Int) (N m : Nat) (o : Nat → Int) (d : Lab) (A : Option Addr) (c first : Nat) (zin : Nat → Lab) (hg : AtV w Ag (n * 3) (gv y)) (hg0 : ∀ ad, Ag = some ad → ad = ⟨ad.block, 0, none⟩) (hz : AtV w A (N * 2) (lv zin)) (hz0 : A = none → N = 0 ∧ c = 0) (hG : Circ.Good N n y m o) (hd : Garb.Wd d) (hzw : ∀ q, Garb.Wd (zin q)) :
    Calls Tryd.prog 16 #[.slice Ag n cg, labL d, .slice A N c, .int .u64 (first : Int)] w (RgAns H d first N n zin y w) := by
  have hN := hG.n1
  have hn := hG.g
  have HG := Lib.hid hG
  have HN := Lib.hid (show N ≤ 4096 ∧ n ≤ 4096 by omega)
  have X0 := Blk.new w 28 #[.int .u64 (d.1 : Int), .int .u64 (d.2 : Int)]
  have b0 := (Below.refl w.heap.size w).alloc (Nat.le_refl _) (.cells #[.int .u64 (d.1 : Int), .int .u64 (d.2 : Int)] 28)
  have HFx := Lib.hid (fixed_rx (w.alloc (.cells #[.int .u64 (d.1 : Int), .int .u64 (d.2 : Int)] 28)))
  have H0 := Lib.hid (And.intro (show LbB _ w.heap.size d from X0) b0)
  have HA := Lib.hid (And.intro hg (And.intro hg0 (And.intro hz hz0)))
  have HD := Lib.hid (And.intro hH (And.intro hd hzw))
  obtain ⟨Z, hZ⟩ : ∃ Z, zerH H d first N zin y = Z := ⟨_, rfl⟩
  obtain ⟨Tb, hT⟩ : ∃ T, tabH H d first N zin y = T := ⟨_, rfl⟩
  have HZ := Lib.hid (show (∀ q, Z 0 q = zin q) ∧ (∀ k q, Z (k + 1) q = if q = N + k then (if y k 0 = 1 then Garb.nadd (Z k (y k 1).toNat) (Z k (y k 2).toNat) else if y k 0 = 2 then Garb.andZ Garb.nadd Garb.ncol H d (Z k (y k 1).toNat) (Z k (y k 2).toNat) (Garb.tw first (Circ.ands y k)) (Garb.tw1 first (Circ.ands y k)) else Garb.nadd (Z k (y k 1).toNat) d) else Z k q) ∧ (∀ k q, Tb (k + 1) q = if y k 0 = 2 then (if q = 2 * Circ.ands y k then Garb.tG Garb.nadd Garb.ncol H d (Z k (y k 1).toNat) (Z k (y k 2).toNat) (Garb.tw first (Circ.ands y k)) else if q = 2 * Circ.ands y k + 1 then Garb.tE Garb.nadd H d (Z k (y k 1).toNat) (Z k (y k 2).toNat) (Garb.tw1 first (Circ.ands y k)) else Tb k q) else Tb k q) ∧ ∀ k q, Garb.Wd (Z k q) by
    rw [← hZ, ← hT]
    exact ⟨fun _ => rfl, fun _ _ => rfl, fun _ _ => rfl, Garb.zer_wd hH.wd hd (Garb.tw_lt first) (Garb.tw1_lt first) N zin y hzw⟩)
  have HZT := Lib.hid (And.intro hZ hT)
  clear hg hg0 hz hz0 hG hd hzw hH hN hn X0 b0 hZ hT
  go_enter Tryd.func16, Tryd.ntmps16
  go_wp2_with fail
  refine HFx.out.mono ?_
  rintro e w1 ⟨gc, cc, gb, cb, rfl, hx, hb1⟩
  obtain ⟨w2, hw2⟩ : ∃ x, w1.alloc (.cells #[.slice (some ⟨gc, 0, none⟩) 176 cc, .slice (some ⟨gb, 0, none⟩) 256 cb] 101) = x := ⟨_, rfl⟩
  have hba := (Below.refl w1.heap.size w1).alloc (Nat.le_refl _) (.cells #[.slice (some ⟨gc, 0, none⟩) 176 cc, .slice (some ⟨gb, 0, none⟩) 256 cb] 101)
  rw [hw2] at hba
  have hb12 := hb1.trans (hba.mono hb1.size)
  have hs2 : w2.heap.size = w1.heap.size + 1 := by rw [← hw2]; simp
  have XC := Blk.new w1 101 #[.slice (some ⟨gc, 0, none⟩) 176 cc, .slice (some ⟨gb, 0, none⟩) 256 cb]
  rw [hw2] at XC
  have hbw2 := H0.out.2.trans (hb12.mono H0.out.2.size)
  have hX2 := Blk.below H0.out.1 hb12 (Blk.lt H0.out.1)
  have hx2 := hx.below hba
  obtain ⟨g0, k0, w3, hr1, hg0', hg3, hk0, hR1, hb3⟩ := append_empty eltL w2 A N c (lv zin) (HA.out.2.2.1.below hbw2) HA.out.2.2.2 (lv_one zin) (by have := HN.out; unfold maxLen; omega) (by have := HN.out; omega)
  obtain ⟨B, hB⟩ : ∃ B, w2.heap.size = B := ⟨_, rfl⟩
  have H2 := Lib.hid (show LbB w2 w.heap.size d ∧ Blk w2 w1.heap.size 101 #[.slice (some ⟨gc, 0, none⟩) 176 cc, .slice (some ⟨gb, 0, none⟩) 256 cb] ∧ Rx w2 gc cc gb cb ∧ AtV w2 Ag (n * 3) (gv y) ∧ Below w.heap.size w w2 ∧ w2.heap.size = B ∧ w.heap.size < B ∧ w1.heap.size < B from ⟨hX2, XC, hx2, HA.out.1.below hbw2, hbw2, hB, by rw [← hB]; exact Blk.lt hX2, by omega⟩)
  have hs3 := hb3.size
  rw [hB] at hR1 hb3 hs3
  have HRg := Lib.hid (show Rg w2 B N Z Tb y 0 (.slice (some ⟨g0, 0, none⟩) N k0) (.slice none 0 0) w3 from ⟨hR1.congr (lv_congr fun i _ => (HZ.out.1 i).symm), Row.nil _ _ _ _ _, hb3, hs3, fun q _ h => by cases h⟩)
  rw [hs2, ← hw2] at hr1
  have HR1 := Lib.hid hr1
  have HWw := Lib.hid hw2
  clear hx hb1 hba hb12 hs2 XC hbw2 hX2 hx2 hr1 hg0' hg3 hk0 hR1 hb3 hB H0 HFx hw2 hs3
  go_wp2_with (at_builtin; refine wpList_append_run rfl _ _ 29 rfl (.slice (some ⟨w1.heap.size + 1, 0, none⟩) 0 0) (.slice A N c) (.slice (some ⟨g0, 0, none⟩) N k0) w3 rfl rfl (HR1.out _) ?_)
  clear HR1
  obtain ⟨bc, hbc⟩ : ∃ x, w1.heap.size = x := ⟨_, rfl⟩
  rw [hbc] at H2 ⊢
  clear HWw hbc
  go_loopw [11, 12, 13, 14] (fun v' vt' j' i wr => ∃ k : Nat, ∃ v vt, k ≤ n ∧ v = v' ∧ vt = vt' ∧ j' = .int .u64 ((Circ.ands y k : Nat) : Int) ∧ i = .int .i64 k ∧ Hid (Rg w2 B N Z Tb y k v vt wr)) (fun _ _ _ i _ => n - (intOf i).toNat)
  case atStart => exact ⟨0, _, _, Nat.zero_le _, rfl, rfl, rfl, rfl, HRg.out⟩
  case round =>
    clear HRg
    obtain ⟨k, v, vt, hk, rfl, rfl, rfl, rfl, HI⟩ := hrel
    by_cases hlt2 : k < n
    · obtain ⟨hR, hTt, hb, hBr, hdj⟩ := HI.out
      have hbr : Below w2.heap.size w2 wr := by rw [H2.out.2.2.2.2.2.1]; exact hb
      have hgr := H2.out.2.2.2.1.below hbr
      obtain ⟨ad, rfl, -⟩ := hgr.gate k hlt2
      obtain ⟨gg, hgg⟩ : ∃ gg, ad = ⟨gg, 0, none⟩ := ⟨_, HA.out.2.1 ad rfl⟩
      subst hgg
      obtain ⟨g0c, g1c, g2c⟩ := gate_cells hgr k hlt2
      obtain ⟨a, ha, b, hb', hab⟩ : ∃ a : Nat, y k 1 = (a : Int) ∧ ∃ b : Nat, y k 2 = (b : Int) ∧ a < N + k ∧ (y k 0 = 1 ∨ y k 0 = 2 → b < N + k) ∧ (y k 0 = 1 ∨ y k 0 = 2 ∨ y k 0 = 3) := by
        rcases HG.out.fit k hlt2 with ⟨h0, h⟩ | ⟨h0, h⟩
        · exact ⟨(y k 1).toNat, by omega, (y k 2).toNat, by omega, by omega, by omega, by omega⟩
        · exact ⟨(y k 1).toNat, by omega, (y k 2).toNat, by omega, by omega, by omega, by omega⟩
      rw [ha] at g1c
      rw [hb'] at g2c
      have lt1 : (k : Int) < (n : Int) := by omega
      have lt0 : (0 : Int) ≤ (k : Int) := by omega
      have e1 : IntKind.i64.wrap ((k : Int) + 1) = (k : Int) + 1 := i64_nat _ (by omega) (by have := HN.out; omega)
      obtain ⟨Aw, cw, rfl, hnc, hcm, hnil, hAt, hbl, hal⟩ := hR.read
      obtain ⟨aw, rfl, -⟩ := hAt.lab a hab.1
      obtain ⟨gw, hgw⟩ : ∃ gw, aw = ⟨gw, 0, none⟩ := ⟨_, (hal aw rfl).choose_spec.2⟩
      subst hgw
      obtain ⟨_, e9, ae, hae, a0, a1, -⟩ := hAt.lab a hab.1
      cases e9
      rw [Addr.add_mid, Nat.zero_add] at hae
      subst hae
      obtain ⟨za, hza⟩ : ∃ x, Z k a = x := ⟨_, rfl⟩
      rw [hza] at a0 a1
      have HVz := Lib.hid (show (∀ q, q < N + k → Z k q = Z (k + 1) q) ∧ Z (k + 1) (N + k) = (if y k 0 = 1 then Garb.nadd (Z k a) (Z k b) else if y k 0 = 2 then Garb.andZ Garb.nadd Garb.ncol H d (Z k a) (Z k b) (Garb.tw first (Circ.ands y k)) (Garb.tw1 first (Circ.ands y k)) else Garb.nadd (Z k a) d) from ⟨fun q hq => by rw [HZ.out.2.1 k q, if_neg (by omega)], by rw [HZ.out.2.1 k (N + k), if_pos rfl, ha, hb', Int.toNat_natCast, Int.toNat_natCast]⟩)
      have hwza : Garb.Wd za := hza ▸ HZ.out.2.2.2 k a
      have la : (a : Int) < (N : Int) + (k : Int) := by have := hab.1; omega
      have la0 : (0 : Int) ≤ (a : Int) := by omega
      have XA := Blk.new wr 28 #[.int .u64 (za.1 : Int), .int .u64 (za.2 : Int)]
      have hbA := (Below.refl wr.heap.size wr).alloc (Nat.le_refl _) (.cells #[.int .u64 (za.1 : Int), .int .u64 (za.2 : Int)] 28)
      have cA : ∀ {p : Addr} {u : Value}, wr.cell? p = some u → (wr.alloc (.cells #[.int .u64 (za.1 : Int), .int .u64 (za.2 : Int)] 28)).cell? p = some u := fun h => (hbA.cell (World.block_lt_of_cell? _ _ h)).trans h
      have G0 := cA g0c
      have G2c := cA g2c
      have HXA := Lib.hid (show LbB _ wr.heap.size za from XA)
      have HLt := Lib.hid hlt2
      have HBA := Lib.hid (show Row _ B 28 2 _ (N + k) (lv (Z k)) ∧ Row (wr.alloc (.cells #[.int .u64 (za.1 : Int), .int .u64 (za.2 : Int)] 28)) B 28 2 vt (2 * Circ.ands y k) (lv (Tb k)) ∧ Below B w2 (wr.alloc (.cells #[.int .u64 (za.1 : Int), .int .u64 (za.2 : Int)] 28)) ∧ B ≤ (wr.alloc (.cells #[.int .u64 (za.1 : Int), .int .u64 (za.2 : Int)] 28)).heap.size from ⟨hR.below hbA, hTt.below hbA, hb.trans (hbA.mono hBr), Nat.le_trans hBr hbA.size⟩)
      have HDj := Lib.hid (show (∀ q, (Value.slice (some ⟨gw, 0, none⟩) (N + k) cw).ownBlock = some q → vt.ownBlock ≠ some q) ∧ B ≤ wr.heap.size from ⟨hdj, hBr⟩)
      have hkd := hab.2.2
      have hbn := hab.2.1
      have HAB := Lib.hid (And.intro ha (And.intro hb' hza))
      by_cases h3 : y k 0 = 3
      · have n3 : (y k 0 == 3) = true := by rw [h3]; rfl
        have x0 := XA.cell 0 (v := .int .u64 (za.1 : Int)) rfl
        have x1 := XA.cell 1 (v := .int .u64 (za.2 : Int)) rfl
        have hdA := Blk.below H2.out.1 (hbr.trans (hbA.mono hbr.size)) (Blk.lt H2.out.1)
        have d0 := Blk.cell hdA 0 (v := .int .u64 (d.1 : Int)) rfl
        have d1 := Blk.cell hdA 1 (v := .int .u64 (d.2 : Int)) rfl
        have HXr := Lib.hid (rxor_lab za d (wr.alloc (.cells #[.int .u64 (za.1 : Int), .int .u64 (za.2 : Int)] 28)) hwza HD.out.2.1)
        obtain ⟨r, hr⟩ : ∃ r, Garb.nadd za d = r := ⟨_, rfl⟩
        have HV := Lib.hid (show Z (k + 1) (N + k) = r by rw [HVz.out.2, if_neg (by omega), if_neg (by omega), HAB.out.2.2, hr])
        have HS := Lib.hid (show y k 0 ≠ 2 by omega)
        rw [hr] at HXr
        clear hr h3 hR hTt hb hBr hdj hbr hgr hab hnc hcm hnil hAt hbl hal hza hwza XA hbA cA hlt2 ha hb' hkd hbn hdA HI G2c
        go_wp2_with fail
        refine HXr.out.mono ?_
        rintro e w5 ⟨rfl, hb5⟩
        have h0 := HBA.out
        obtain ⟨gn, kk, w6, hr, hRg⟩ := rg_step (Z := Z) (T := Tb) (y := y) (k := k) (h0.1.below hb5) (by
          have := h0.2.1.below hb5
          rw [Garb.ands_succ, if_neg HS.out]
          exact this.congr (lv_congr fun i _ => by rw [HZ.out.2.2.1 k i, if_neg HS.out])) (h0.2.2.1.trans (hb5.mono h0.2.2.2)) (Nat.le_trans h0.2.2.2 hb5.size) HDj.out.1 r HVz.out.1 HV.out (by have := HN.out; have := HLt.out; omega)
        have HR := Lib.hid hr
        have HF := Lib.hid hRg
        clear h0 hr hRg hb5 HXr
        go_wp2_with (at_builtin; refine wpList_append_run rfl _ _ 29 rfl (.slice (some ⟨gw, 0, none⟩) (N + k) cw) (.slice (some ⟨w5.heap.size, 0, none⟩) 1 1) (.slice (some ⟨gn, 0, none⟩) (N + k + 1) kk) w6 rfl rfl (HR.out _) ?_)
        go_roundw
        case rel => exact ⟨k + 1, _, _, by have := HLt.out; omega, rfl, rfl, by rw [Garb.ands_succ, if_neg HS.out], by go_num, HF.out⟩
        case measure => simp [intOf]; have := HLt.out; omega
      · have n3 : (y k 0 == 3) = false := by simpa using h3
        have hlb := hbn (by omega)
        obtain ⟨_, e9, be, hbe, b0, b1, -⟩ := hAt.lab b hlb
        cases e9
        rw [Addr.add_mid, Nat.zero_add] at hbe
        subst hbe
        obtain ⟨zb, hzb⟩ : ∃ x, Z k b = x := ⟨_, rfl⟩
        rw [hzb] at b0 b1
        have hwzb : Garb.Wd zb := hzb ▸ HZ.out.2.2.2 k b
        have lb : (b : Int) < (N : Int) + (k : Int) := by omega
        have lb0 : (0 : Int) ≤ (b : Int) := by omega
        have B0 := cA b0
        have B1 := cA b1
        have XB := Blk.new (wr.alloc (.cells #[.int .u64 (za.1 : Int), .int .u64 (za.2 : Int)] 28)) 28 #[.int .u64 (zb.1 : Int), .int .u64 (zb.2 : Int)]
        simp only [World.size_alloc] at XB
        have hbB := (Below.refl (wr.alloc (.cells #[.int .u64 (za.1 : Int), .int .u64 (za.2 : Int)] 28)).heap.size (wr.alloc (.cells #[.int .u64 (za.1 : Int), .int .u64 (za.2 : Int)] 28))).alloc (Nat.le_refl _) (.cells #[.int .u64 (zb.1 : Int), .int .u64 (zb.2 : Int)] 28)
        have XA2 := Blk.below XA hbB (Blk.lt XA)
        have GB0 := (hbB.cell (World.block_lt_of_cell? _ _ G0)).trans G0
        have hBs := HBA.out.2.2.2
        have HBB := Lib.hid (show Row _ B 28 2 _ (N + k) (lv (Z k)) ∧ Row ((wr.alloc (.cells #[.int .u64 (za.1 : Int), .int .u64 (za.2 : Int)] 28)).alloc (.cells #[.int .u64 (zb.1 : Int), .int .u64 (zb.2 : Int)] 28)) B 28 2 vt (2 * Circ.ands y k) (lv (Tb k)) ∧ Below B w2 ((wr.alloc (.cells #[.int .u64 (za.1 : Int), .int .u64 (za.2 : Int)] 28)).alloc (.cells #[.int .u64 (zb.1 : Int), .int .u64 (zb.2 : Int)] 28)) ∧ B ≤ ((wr.alloc (.cells #[.int .u64 (za.1 : Int), .int .u64 (za.2 : Int)] 28)).alloc (.cells #[.int .u64 (zb.1 : Int), .int .u64 (zb.2 : Int)] 28)).heap.size from ⟨HBA.out.1.below hbB, HBA.out.2.1.below hbB, HBA.out.2.2.1.trans (hbB.mono hBs), Nat.le_trans hBs hbB.size⟩)
        have hbr2 := hbr.trans ((hbA.trans (hbB.mono hbA.size)).mono hbr.size)
        by_cases h1 : y k 0 = 1
        · have n1 : (y k 0 == 1) = true := by rw [h1]; rfl
          have x0 := XA2.cell 0 (v := .int .u64 (za.1 : Int)) rfl
          have x1 := XA2.cell 1 (v := .int .u64 (za.2 : Int)) rfl
          have y0 := XB.cell 0 (v := .int .u64 (zb.1 : Int)) rfl
          have y1 := XB.cell 1 (v := .int .u64 (zb.2 : Int)) rfl
          have HXr := Lib.hid (rxor_lab za zb ((wr.alloc (.cells #[.int .u64 (za.1 : Int), .int .u64 (za.2 : Int)] 28)).alloc (.cells #[.int .u64 (zb.1 : Int), .int .u64 (zb.2 : Int)] 28)) hwza hwzb)
          obtain ⟨r, hr⟩ : ∃ r, Garb.nadd za zb = r := ⟨_, rfl⟩
          have HV := Lib.hid (show Z (k + 1) (N + k) = r by rw [HVz.out.2, if_pos h1, HAB.out.2.2, hzb, hr])
          have HS := Lib.hid (show y k 0 ≠ 2 by omega)
          rw [hr] at HXr
          clear hr h3 h1 hR hTt hb hBr hdj hbr hgr hab hnc hcm hnil hAt hbl hal hza hwza XA hbA cA hlt2 ha hb' hkd hbn HI hlb hzb hwzb b0 b1 XB hbB XA2 hBs hbr2
          go_wp2_with fail
          refine HXr.out.mono ?_
          rintro e w5 ⟨rfl, hb5⟩
          have h0 := HBB.out
          obtain ⟨gn, kk, w6, hr, hRg⟩ := rg_step (Z := Z) (T := Tb) (y := y) (k := k) (h0.1.below hb5) (by
            have := h0.2.1.below hb5
            rw [Garb.ands_succ, if_neg HS.out]
            exact this.congr (lv_congr fun i _ => by rw [HZ.out.2.2.1 k i, if_neg HS.out])) (h0.2.2.1.trans (hb5.mono h0.2.2.2)) (Nat.le_trans h0.2.2.2 hb5.size) HDj.out.1 r HVz.out.1 HV.out (by have := HN.out; have := HLt.out; omega)
          have HR := Lib.hid hr
          have HF := Lib.hid hRg
          clear h0 hr hRg hb5 HXr
          go_wp2_with (at_builtin; refine wpList_append_run rfl _ _ 29 rfl (.slice (some ⟨gw, 0, none⟩) (N + k) cw) (.slice (some ⟨w5.heap.size, 0, none⟩) 1 1) (.slice (some ⟨gn, 0, none⟩) (N + k + 1) kk) w6 rfl rfl (HR.out _) ?_)
          go_roundw
          case rel => exact ⟨k + 1, _, _, by have := HLt.out; omega, rfl, rfl, by rw [Garb.ands_succ, if_neg HS.out], by go_num, HF.out⟩
          case measure => simp [intOf]; have := HLt.out; omega
        · have n1 : (y k 0 == 1) = false := by simpa using h1
          have h2 : y k 0 = 2 := by omega
          have h2e : y k 0 = 2 := h2
          have hjk := Circ.ands_le y k
          obtain ⟨j, hj⟩ : ∃ j, Circ.ands y k = j := ⟨_, rfl⟩
          have hjn : j ≤ 4096 := by have := HN.out; omega
          obtain ⟨s, hs⟩ : ∃ s, Garb.tw first j = s := ⟨_, rfl⟩
          obtain ⟨t, ht⟩ : ∃ t, Garb.tw1 first j = t := ⟨_, rfl⟩
          have hsl := hs ▸ Garb.tw_lt first j
          have htl := ht ▸ Garb.tw1_lt first j
          have hH := HD.out.1
          have hd := HD.out.2.1
          obtain ⟨hA, hAe⟩ : ∃ x, H za s = x := ⟨_, rfl⟩
          obtain ⟨hB, hBe⟩ : ∃ x, H zb t = x := ⟨_, rfl⟩
          obtain ⟨xa, xae⟩ : ∃ x, Garb.nadd za d = x := ⟨_, rfl⟩
          obtain ⟨xb, xbe⟩ : ∃ x, Garb.nadd zb d = x := ⟨_, rfl⟩
          obtain ⟨oA, oAe⟩ : ∃ x, H xa s = x := ⟨_, rfl⟩
          obtain ⟨oB, oBe⟩ : ∃ x, H xb t = x := ⟨_, rfl⟩
          obtain ⟨yy, ye⟩ : ∃ x, Garb.nadd hA oA = x := ⟨_, rfl⟩
          obtain ⟨zz, ze⟩ : ∃ x, Garb.nadd hB oB = x := ⟨_, rfl⟩
          obtain ⟨G, Ge⟩ : ∃ x, Garb.plus Garb.nadd yy (Garb.ncol zb) d = x := ⟨_, rfl⟩
          obtain ⟨E, Ee⟩ : ∃ x, Garb.nadd zz za = x := ⟨_, rfl⟩
          obtain ⟨u, ue⟩ : ∃ x, Garb.nadd E za = x := ⟨_, rfl⟩
          obtain ⟨p1, p1e⟩ : ∃ x, Garb.plus Garb.nadd hA (Garb.ncol za) G = x := ⟨_, rfl⟩
          obtain ⟨p2, p2e⟩ : ∃ x, Garb.plus Garb.nadd hB (Garb.ncol zb) u = x := ⟨_, rfl⟩
          obtain ⟨r, re⟩ : ∃ x, Garb.nadd p1 p2 = x := ⟨_, rfl⟩
          have whA := hAe ▸ hH.wd za s hwza hsl
          have whB := hBe ▸ hH.wd zb t hwzb htl
          have wxa := xae ▸ hwza.add hd
          have wxb := xbe ▸ hwzb.add hd
          have woA := oAe ▸ hH.wd xa s wxa hsl
          have woB := oBe ▸ hH.wd xb t wxb htl
          have wy := ye ▸ whA.add woA
          have wz := ze ▸ whB.add woB
          have wG := Ge ▸ wy.plus (Garb.ncol zb) hd
          have wE := Ee ▸ wz.add hwza
          have wu := ue ▸ wE.add hwza
          have wp1 := p1e ▸ whA.plus (Garb.ncol za) wG
          have wp2 := p2e ▸ whB.plus (Garb.ncol zb) wu
          have HZr := Lib.hid (show Z (k + 1) (N + k) = r by
            rw [HVz.out.2, if_neg h1, if_pos h2, HAB.out.2.2, hzb, hj, hs, ht, ← re, ← p1e, ← p2e, ← ue, ← Ee, ← Ge, ← ze, ← ye, ← oBe, ← oAe, ← xbe, ← xae, ← hBe, ← hAe]
            rfl)
          have hM0 : Tb (k + 1) (2 * j) = G := by
            rw [HZ.out.2.2.1 k, if_pos h2, hj, if_pos rfl, HAB.out.1, HAB.out.2.1, Int.toNat_natCast, Int.toNat_natCast, HAB.out.2.2, hzb, hs, ← Ge, ← ye, ← oAe, ← xae, ← hAe]
            rfl
          have hM1 : Tb (k + 1) (2 * j + 1) = E := by
            rw [HZ.out.2.2.1 k, if_pos h2, hj, if_neg (by omega), if_pos rfl, HAB.out.1, HAB.out.2.1, Int.toNat_natCast, Int.toNat_natCast, HAB.out.2.2, hzb, ht, ← Ee, ← ze, ← oBe, ← xbe, ← hBe]
            rfl
          have HM := Lib.hid (show (∀ i, i < 2 * j → Tb k i = Tb (k + 1) i) ∧ Tb (k + 1) (2 * j) = G ∧ Tb (k + 1) (2 * j + 1) = E ∧ j ≤ 4096 ∧ Circ.ands y (k + 1) = j + 1 from ⟨fun i hi => by rw [HZ.out.2.2.1 k, if_pos h2, hj, if_neg (by omega), if_neg (by omega)], hM0, hM1, hjn, by rw [Garb.ands_succ, if_pos h2, hj]⟩)
          have e4 : IntKind.u64.wrap (2 * (j : Int)) = 2 * (j : Int) := by rw [u64w]; omega
          have e5 : IntKind.u64.wrap ((first : Int) + 2 * (j : Int)) = (s : Int) := by rw [u64w, ← hs]; unfold Garb.tw; omega
          have e3 : IntKind.u64.wrap ((s : Int) + 1) = (t : Int) := by rw [u64w, ← ht, ← hs]; unfold Garb.tw1; omega
          have e6 : IntKind.u64.wrap ((j : Int) + 1) = (j : Int) + 1 := by rw [u64w]; omega
          have HQ := Lib.hid (And.intro hH (And.intro (And.intro hAe (And.intro hBe (And.intro oAe oBe))) (And.intro (And.intro xae (And.intro xbe (And.intro ye (And.intro ze (And.intro Ge (And.intro Ee (And.intro ue (And.intro p1e (And.intro p2e re))))))))) (And.intro hsl htl))))
          have HW := Lib.hid (And.intro hd (And.intro hwza (And.intro hwzb (And.intro whA (And.intro whB (And.intro wxa (And.intro wxb (And.intro woA (And.intro woB (And.intro wy (And.intro wz (And.intro wG (And.intro wE (And.intro wu (And.intro wp1 wp2)))))))))))))))
          rw [hj] at HBB ⊢
          have hot := HBB.out.2.1.own
          have hot0 := hTt.own
          have HN2 := Lib.hid (show ∀ q, vt.ownBlock = some q → B ≤ q ∧ q < wr.heap.size from fun q hq => ⟨(hot0 q hq).1, (hot0 q hq).2.1⟩)
          have hsz : wr.heap.size + 1 < ((wr.alloc (.cells #[.int .u64 (za.1 : Int), .int .u64 (za.2 : Int)] 28)).alloc (.cells #[.int .u64 (zb.1 : Int), .int .u64 (zb.2 : Int)] 28)).heap.size := by simp
          have hdB := Blk.below H2.out.1 hbr2 (Blk.lt H2.out.1)
          have hCB := H2.out.2.1.below hbr2 H2.out.2.1.lt
          have hxB := H2.out.2.2.1.below hbr2
          have H3 := Lib.hid (And.intro HBB.out.2.2.1 (And.intro HBB.out.2.2.2 (And.intro HBB.out.1 (And.intro HBB.out.2.1 (And.intro (show LbB _ wr.heap.size za from XA2) (And.intro (show LbB _ (wr.heap.size + 1) zb from XB) (And.intro hdB (And.intro hCB (And.intro hxB hsz)))))))))
          rw [hj] at hTt
          obtain ⟨At, ct, hte, _, _, _, _, _, _⟩ := hTt.read
          clear h2 h2e hs ht hAe hBe xae xbe oAe oBe ye ze Ge Ee ue p1e p2e re whA whB wxa wxb woA woB wy wz wG wE wu wp1 wp2 hH hd hsl htl hjn hM0 hM1 hot hot0 hsz hdB hCB hxB h3 h1 hR hTt hb hBr hdj hbr hgr hab hnc hcm hnil hAt hbl hal hza hwza XA hbA cA hlt2 ha hb' hkd hbn HI hlb hzb hwzb b0 b1 XB hbB XA2 hBs hbr2 HBB HBA hjk hj
          rw [hte] at H3 HDj HN2
          subst hte
          go_wp2
          clear e4 e5 e6 g0c g1c g2c G0 G2c B0 B1 GB0 a0 a1 n3 n1
          generalize ((wr.alloc (.cells #[.int .u64 (za.1 : Int), .int .u64 (za.2 : Int)] 28)).alloc (.cells #[.int .u64 (zb.1 : Int), .int .u64 (zb.2 : Int)] 28)) = w3 at *
          refine Rely.region (G := Nat) (vs := [fun _ => .agg #[.slice (some ⟨gc, 0, none⟩) 176 cc, .slice (some ⟨gb, 0, none⟩) 256 cb], fun _ => labL za, fun _ => .int .u64 (s : Int), fun _ => labL hA, fun _ => .agg #[.slice (some ⟨gc, 0, none⟩) 176 cc, .slice (some ⟨gb, 0, none⟩) 256 cb], fun _ => labL zb, fun _ => .int .u64 (s : Int), fun _ => .int .u64 (t : Int), fun _ => labL hB, fun g => .pointer (some ⟨g, 0, none⟩), fun g => .pointer (some ⟨g, 0, none⟩), fun _ => undef, fun _ => undef]) (F := fun L γ w' => FN w3 [(9, 11), (10, 12)] (fun i => if i = 9 then hA else hB) L γ w') (by kernel_rfl) (by kernel_rfl) rfl (fun _ => 0) (FN.start w3 _ (drew_below w3) _) ?hsteps ?hend
          case hsteps =>
            refine Rely.Steps.cons (fun Lf γ ev wv hL hE hF hC hCf hO hV => ?_) ?_
            · clear hL
              have v10 : ev (.tmp 10) = .pointer (some ⟨bc, 0, none⟩) := (hO 10 (by kernel_rfl)).trans rfl
              clear hE hO hV
              have hX := Blk.below H3.out.2.2.2.2.2.2.2.1 hF.b (Blk.lt H3.out.2.2.2.2.2.2.2.1)
              have q0 := Blk.cell hX 0 rfl
              have q1 := Blk.cell hX 1 rfl
              have HF := Lib.hid hF
              clear hX hF
              exact Rely.Good.value 0 (u := .agg #[.slice (some ⟨gc, 0, none⟩) 176 cc, .slice (some ⟨gb, 0, none⟩) 256 cb]) (by go_simp) (fun _ _ => rfl) (HF.out.same 0 0 (by decide))
            refine Rely.Steps.cons (fun Lf γ ev wv hL hE hF hC hCf hO hV => ?_) ?_
            · clear hL
              have v15 : ev (.tmp 15) = .pointer (some ⟨wr.heap.size, 0, none⟩) := (hO 15 (by kernel_rfl)).trans rfl
              clear hE hO hV
              have hX := Blk.below H3.out.2.2.2.2.1 hF.b (Blk.lt H3.out.2.2.2.2.1)
              have q0 := Blk.cell hX 0 rfl
              have q1 := Blk.cell hX 1 rfl
              have HF := Lib.hid hF
              clear hX hF
              exact Rely.Good.value 0 (u := labL za) (by go_simp) (fun _ _ => rfl) (HF.out.same 1 0 (by decide))
            refine Rely.Steps.cons (fun Lf γ ev wv hL hE hF hC hCf hO hV => ?_) ?_
            · clear hL
              have v17 : ev (.tmp 17) = .int .u64 (s : Int) := (hO 17 (by kernel_rfl)).trans rfl
              clear hE hO hV
              exact Rely.Good.value 0 (u := .int .u64 (s : Int)) (by go_simp) (fun _ _ => rfl) (hF.same 2 0 (by decide))
            refine Rely.Steps.cons (fun Lf γ ev wv hL hE hF hC hCf hO hV => ?_) ?_
            · clear hL
              have hL0 : Lf 0 = true := hE _ (Array.mem_of_getElem? (i := 0) rfl) rfl
              have v78 : ev (.tmp 78) = .agg #[.slice (some ⟨gc, 0, none⟩) 176 cc, .slice (some ⟨gb, 0, none⟩) 256 cb] := hV 0 78 hL0 rfl
              have hL1 : Lf 1 = true := hE _ (Array.mem_of_getElem? (i := 1) rfl) rfl
              have v79 : ev (.tmp 79) = labL za := hV 1 79 hL1 rfl
              have hL2 : Lf 2 = true := hE _ (Array.mem_of_getElem? (i := 2) rfl) rfl
              have v80 : ev (.tmp 80) = .int .u64 (s : Int) := hV 2 80 hL2 rfl
              clear hE hO hV
              have hF0 := hF.b
              have HF := Lib.hid hF
              clear hF
              exact Rely.Good.enter (f := 47) (args := #[.agg #[.slice (some ⟨gc, 0, none⟩) 176 cc, .slice (some ⟨gb, 0, none⟩) 256 cb], labL za, .int .u64 (s : Int)]) (by go_simp) ((HQ.out.1.doc wv gc cc gb cb za s (H3.out.2.2.2.2.2.2.2.2.1.below hF0) HW.out.2.1 HQ.out.2.2.2.1).mono fun e w2 hc => ⟨0, _, hc.1, fun _ _ => by rw [show H za s = hA from HQ.out.2.1.1]; rfl, HF.out.val 3 0 (by decide) hc.2⟩)
            refine Rely.Steps.cons (fun Lf γ ev wv hL hE hF hC hCf hO hV => ?_) ?_
            · clear hL
              have v10 : ev (.tmp 10) = .pointer (some ⟨bc, 0, none⟩) := (hO 10 (by kernel_rfl)).trans rfl
              clear hE hO hV
              have hX := Blk.below H3.out.2.2.2.2.2.2.2.1 hF.b (Blk.lt H3.out.2.2.2.2.2.2.2.1)
              have q0 := Blk.cell hX 0 rfl
              have q1 := Blk.cell hX 1 rfl
              have HF := Lib.hid hF
              clear hX hF
              exact Rely.Good.value 0 (u := .agg #[.slice (some ⟨gc, 0, none⟩) 176 cc, .slice (some ⟨gb, 0, none⟩) 256 cb]) (by go_simp) (fun _ _ => rfl) (HF.out.same 4 0 (by decide))
            refine Rely.Steps.cons (fun Lf γ ev wv hL hE hF hC hCf hO hV => ?_) ?_
            · clear hL
              have v16 : ev (.tmp 16) = .pointer (some ⟨wr.heap.size + 1, 0, none⟩) := (hO 16 (by kernel_rfl)).trans rfl
              clear hE hO hV
              have hX := Blk.below H3.out.2.2.2.2.2.1 hF.b (Blk.lt H3.out.2.2.2.2.2.1)
              have q0 := Blk.cell hX 0 rfl
              have q1 := Blk.cell hX 1 rfl
              have HF := Lib.hid hF
              clear hX hF
              exact Rely.Good.value 0 (u := labL zb) (by go_simp) (fun _ _ => rfl) (HF.out.same 5 0 (by decide))
            refine Rely.Steps.cons (fun Lf γ ev wv hL hE hF hC hCf hO hV => ?_) ?_
            · clear hL
              have v17 : ev (.tmp 17) = .int .u64 (s : Int) := (hO 17 (by kernel_rfl)).trans rfl
              clear hE hO hV
              exact Rely.Good.value 0 (u := .int .u64 (s : Int)) (by go_simp) (fun _ _ => rfl) (hF.same 6 0 (by decide))
            refine Rely.Steps.cons (fun Lf γ ev wv hL hE hF hC hCf hO hV => ?_) ?_
            · clear hL
              have hL6 : Lf 6 = true := hE _ (Array.mem_of_getElem? (i := 0) rfl) rfl
              have v84 : ev (.tmp 84) = .int .u64 (s : Int) := hV 6 84 hL6 rfl
              clear hE hO hV
              exact Rely.Good.value 0 (u := .int .u64 (t : Int)) (by go_simp) (fun _ _ => rfl) (hF.same 7 0 (by decide))
            refine Rely.Steps.cons (fun Lf γ ev wv hL hE hF hC hCf hO hV => ?_) ?_
            · clear hL
              have hL4 : Lf 4 = true := hE _ (Array.mem_of_getElem? (i := 0) rfl) rfl
              have v82 : ev (.tmp 82) = .agg #[.slice (some ⟨gc, 0, none⟩) 176 cc, .slice (some ⟨gb, 0, none⟩) 256 cb] := hV 4 82 hL4 rfl
              have hL5 : Lf 5 = true := hE _ (Array.mem_of_getElem? (i := 1) rfl) rfl
              have v83 : ev (.tmp 83) = labL zb := hV 5 83 hL5 rfl
              have hL7 : Lf 7 = true := hE _ (Array.mem_of_getElem? (i := 2) rfl) rfl
              have v85 : ev (.tmp 85) = .int .u64 (t : Int) := hV 7 85 hL7 rfl
              clear hE hO hV
              have hF0 := hF.b
              have HF := Lib.hid hF
              clear hF
              exact Rely.Good.enter (f := 47) (args := #[.agg #[.slice (some ⟨gc, 0, none⟩) 176 cc, .slice (some ⟨gb, 0, none⟩) 256 cb], labL zb, .int .u64 (t : Int)]) (by go_simp) ((HQ.out.1.doc wv gc cc gb cb zb t (H3.out.2.2.2.2.2.2.2.2.1.below hF0) HW.out.2.2.1 HQ.out.2.2.2.2).mono fun e w2 hc => ⟨0, _, hc.1, fun _ _ => by rw [show H zb t = hB from HQ.out.2.1.2.1]; rfl, HF.out.val 8 0 (by decide) hc.2⟩)
            refine Rely.Steps.cons (fun Lf γ ev wv hL hE hF hC hCf hO hV => ?_) ?_
            · skip
              clear hE hO hV
              exact Rely.Good.value wv.heap.size (u := .pointer (some ⟨wv.heap.size, 0, none⟩)) (by go_simp) (fun _ _ => rfl) (hF.alloc rfl (i := 9) (s := 11) (by simp) hL)
            refine Rely.Steps.cons (fun Lf γ ev wv hL hE hF hC hCf hO hV => ?_) ?_
            · skip
              clear hE hO hV
              exact Rely.Good.value wv.heap.size (u := .pointer (some ⟨wv.heap.size, 0, none⟩)) (by go_simp) (fun _ _ => rfl) (hF.alloc rfl (i := 10) (s := 12) (by simp) hL)
            refine Rely.Steps.cons (fun Lf γ ev wv hL hE hF hC hCf hO hV => ?_) ?_
            · clear hL
              have hL9 : Lf 9 = true := hE _ (Array.mem_of_getElem? (i := 0) rfl) rfl
              have v18 : ev (.tmp 18) = .pointer (some ⟨(γ 9), 0, none⟩) := hV 9 18 hL9 rfl
              have hL3 : Lf 3 = true := hE _ (Array.mem_of_getElem? (i := 1) rfl) rfl
              have v81 : ev (.tmp 81) = labL hA := hV 3 81 hL3 rfl
              clear hE hO hV
              obtain ⟨y0, hX⟩ := hF.ready (i := 9) (s := 11) (by simp) hL9
              have HF := Lib.hid hF
              clear hF
              have q0 := Blk.cell hX 0 rfl
              have q1 := Blk.cell hX 1 rfl
              have qf := Blk.frozen hX
              clear hX
              exact Rely.Good.skip 0 (w' := stL wv (γ 9) hA) (by go_simp) rfl (HF.out.put rfl 0 (i := 9) (by simp) hL9)
            refine Rely.Steps.cons (fun Lf γ ev wv hL hE hF hC hCf hO hV => ?_) ?_
            · clear hL
              have hL10 : Lf 10 = true := hE _ (Array.mem_of_getElem? (i := 0) rfl) rfl
              have v19 : ev (.tmp 19) = .pointer (some ⟨(γ 10), 0, none⟩) := hV 10 19 hL10 rfl
              have hL8 : Lf 8 = true := hE _ (Array.mem_of_getElem? (i := 1) rfl) rfl
              have v86 : ev (.tmp 86) = labL hB := hV 8 86 hL8 rfl
              clear hE hO hV
              obtain ⟨y0, hX⟩ := hF.ready (i := 10) (s := 12) (by simp) hL10
              have HF := Lib.hid hF
              clear hF
              have q0 := Blk.cell hX 0 rfl
              have q1 := Blk.cell hX 1 rfl
              have qf := Blk.frozen hX
              clear hX
              exact Rely.Good.skip 0 (w' := stL wv (γ 10) hB) (by go_simp) rfl (HF.out.put rfl 0 (i := 10) (by simp) hL10)
            exact Rely.Steps.nil
          case hend =>
            intro γ w4 hF
            have n9 := hF.new (9, 11) (by simp) rfl
            have m9 : LbB w4 (γ 9) hA := n9.2
            have n10 := hF.new (10, 12) (by simp) rfl
            have m10 : LbB w4 (γ 10) hB := n10.2
            have hb := hF.b
            have H4 := Lib.hid (And.intro (H3.out.1.trans (hb.mono H3.out.2.1)) (And.intro (Nat.le_trans H3.out.2.1 hb.size) (And.intro (Row.below H3.out.2.2.1 hb) (And.intro (Row.below H3.out.2.2.2.1 hb) (And.intro (Blk.below H3.out.2.2.2.2.1 hb (Blk.lt H3.out.2.2.2.2.1)) (And.intro (Blk.below H3.out.2.2.2.2.2.1 hb (Blk.lt H3.out.2.2.2.2.2.1)) (And.intro (Blk.below H3.out.2.2.2.2.2.2.1 hb (Blk.lt H3.out.2.2.2.2.2.2.1)) (And.intro (Blk.below H3.out.2.2.2.2.2.2.2.1 hb (Blk.lt H3.out.2.2.2.2.2.2.2.1)) (And.intro (H3.out.2.2.2.2.2.2.2.2.1.below hb) (And.intro (Nat.lt_of_lt_of_le H3.out.2.2.2.2.2.2.2.2.2 hb.size) (And.intro m9 (And.intro (show wr.heap.size + 1 < γ 9 from Nat.lt_of_lt_of_le H3.out.2.2.2.2.2.2.2.2.2 n9.1) (And.intro m10 (show wr.heap.size + 1 < γ 10 from Nat.lt_of_lt_of_le H3.out.2.2.2.2.2.2.2.2.2 n10.1))))))))))))))
            clear hF hb n9 m9 n10 m10 H3
            simp only [Rely.fin, Act.put, List.setIfInBounds_toArray, List.set_cons_zero, List.set_cons_succ]
            generalize γ 9 = gA at *
            generalize γ 10 = gB at *
            go_wp2_with fail
            refine Rely.region (G := Nat) (vs := [fun _ => labL hA, fun _ => .agg #[.slice (some ⟨gc, 0, none⟩) 176 cc, .slice (some ⟨gb, 0, none⟩) 256 cb], fun _ => labL za, fun _ => labL d, fun _ => labL xa, fun _ => .int .u64 (s : Int), fun _ => labL oA, fun _ => labL yy, fun _ => labL zb, fun _ => .int .u64 (colN zb : Int), fun _ => labL d, fun _ => labL G, fun g => .pointer (some ⟨g, 0, none⟩), fun _ => undef]) (F := fun L γ w' => FN w4 [(12, 13)] (fun i => G) L γ w') (by kernel_rfl) (by kernel_rfl) rfl (fun _ => 0) (FN.start w4 _ (drew_below w4) _) ?hsteps ?hend
            case hsteps =>
              refine Rely.Steps.cons (fun Lf γ ev wv hL hE hF hC hCf hO hV => ?_) ?_
              · clear hL
                have v18 : ev (.tmp 18) = .pointer (some ⟨gA, 0, none⟩) := (hO 18 (by kernel_rfl)).trans rfl
                clear hE hO hV
                have hX := Blk.below H4.out.2.2.2.2.2.2.2.2.2.2.1 hF.b (Blk.lt H4.out.2.2.2.2.2.2.2.2.2.2.1)
                have q0 := Blk.cell hX 0 rfl
                have q1 := Blk.cell hX 1 rfl
                have HF := Lib.hid hF
                clear hX hF
                exact Rely.Good.value 0 (u := labL hA) (by go_simp) (fun _ _ => rfl) (HF.out.same 0 0 (by decide))
              refine Rely.Steps.cons (fun Lf γ ev wv hL hE hF hC hCf hO hV => ?_) ?_
              · clear hL
                have v10 : ev (.tmp 10) = .pointer (some ⟨bc, 0, none⟩) := (hO 10 (by kernel_rfl)).trans rfl
                clear hE hO hV
                have hX := Blk.below H4.out.2.2.2.2.2.2.2.1 hF.b (Blk.lt H4.out.2.2.2.2.2.2.2.1)
                have q0 := Blk.cell hX 0 rfl
                have q1 := Blk.cell hX 1 rfl
                have HF := Lib.hid hF
                clear hX hF
                exact Rely.Good.value 0 (u := .agg #[.slice (some ⟨gc, 0, none⟩) 176 cc, .slice (some ⟨gb, 0, none⟩) 256 cb]) (by go_simp) (fun _ _ => rfl) (HF.out.same 1 0 (by decide))
              refine Rely.Steps.cons (fun Lf γ ev wv hL hE hF hC hCf hO hV => ?_) ?_
              · clear hL
                have v15 : ev (.tmp 15) = .pointer (some ⟨wr.heap.size, 0, none⟩) := (hO 15 (by kernel_rfl)).trans rfl
                clear hE hO hV
                have hX := Blk.below H4.out.2.2.2.2.1 hF.b (Blk.lt H4.out.2.2.2.2.1)
                have q0 := Blk.cell hX 0 rfl
                have q1 := Blk.cell hX 1 rfl
                have HF := Lib.hid hF
                clear hX hF
                exact Rely.Good.value 0 (u := labL za) (by go_simp) (fun _ _ => rfl) (HF.out.same 2 0 (by decide))
              refine Rely.Steps.cons (fun Lf γ ev wv hL hE hF hC hCf hO hV => ?_) ?_
              · clear hL
                have v5 : ev (.tmp 5) = .pointer (some ⟨w.heap.size, 0, none⟩) := (hO 5 (by kernel_rfl)).trans rfl
                clear hE hO hV
                have hX := Blk.below H4.out.2.2.2.2.2.2.1 hF.b (Blk.lt H4.out.2.2.2.2.2.2.1)
                have q0 := Blk.cell hX 0 rfl
                have q1 := Blk.cell hX 1 rfl
                have HF := Lib.hid hF
                clear hX hF
                exact Rely.Good.value 0 (u := labL d) (by go_simp) (fun _ _ => rfl) (HF.out.same 3 0 (by decide))
              refine Rely.Steps.cons (fun Lf γ ev wv hL hE hF hC hCf hO hV => ?_) ?_
              · clear hL
                have hL2 : Lf 2 = true := hE _ (Array.mem_of_getElem? (i := 0) rfl) rfl
                have v89 : ev (.tmp 89) = labL za := hV 2 89 hL2 rfl
                have hL3 : Lf 3 = true := hE _ (Array.mem_of_getElem? (i := 1) rfl) rfl
                have v90 : ev (.tmp 90) = labL d := hV 3 90 hL3 rfl
                clear hE hO hV
                have HF := Lib.hid hF
                clear hF
                exact Rely.Good.enter (f := 23) (args := #[labL za, labL d]) (by go_simp) ((rxor_lab za d wv HW.out.2.1 HW.out.1).mono fun e w2 hc => ⟨0, _, hc.1, fun _ _ => by rw [show Garb.nadd za d = xa from HQ.out.2.2.1.1]; rfl, HF.out.val 4 0 (by decide) hc.2⟩)
              refine Rely.Steps.cons (fun Lf γ ev wv hL hE hF hC hCf hO hV => ?_) ?_
              · clear hL
                have v17 : ev (.tmp 17) = .int .u64 (s : Int) := (hO 17 (by kernel_rfl)).trans rfl
                clear hE hO hV
                exact Rely.Good.value 0 (u := .int .u64 (s : Int)) (by go_simp) (fun _ _ => rfl) (hF.same 5 0 (by decide))
              refine Rely.Steps.cons (fun Lf γ ev wv hL hE hF hC hCf hO hV => ?_) ?_
              · clear hL
                have hL1 : Lf 1 = true := hE _ (Array.mem_of_getElem? (i := 0) rfl) rfl
                have v88 : ev (.tmp 88) = .agg #[.slice (some ⟨gc, 0, none⟩) 176 cc, .slice (some ⟨gb, 0, none⟩) 256 cb] := hV 1 88 hL1 rfl
                have hL4 : Lf 4 = true := hE _ (Array.mem_of_getElem? (i := 1) rfl) rfl
                have v91 : ev (.tmp 91) = labL xa := hV 4 91 hL4 rfl
                have hL5 : Lf 5 = true := hE _ (Array.mem_of_getElem? (i := 2) rfl) rfl
                have v92 : ev (.tmp 92) = .int .u64 (s : Int) := hV 5 92 hL5 rfl
                clear hE hO hV
                have hF0 := hF.b
                have HF := Lib.hid hF
                clear hF
                exact Rely.Good.enter (f := 47) (args := #[.agg #[.slice (some ⟨gc, 0, none⟩) 176 cc, .slice (some ⟨gb, 0, none⟩) 256 cb], labL xa, .int .u64 (s : Int)]) (by go_simp) ((HQ.out.1.doc wv gc cc gb cb xa s (H4.out.2.2.2.2.2.2.2.2.1.below hF0) HW.out.2.2.2.2.2.1 HQ.out.2.2.2.1).mono fun e w2 hc => ⟨0, _, hc.1, fun _ _ => by rw [show H xa s = oA from HQ.out.2.1.2.2.1]; rfl, HF.out.val 6 0 (by decide) hc.2⟩)
              refine Rely.Steps.cons (fun Lf γ ev wv hL hE hF hC hCf hO hV => ?_) ?_
              · clear hL
                have hL0 : Lf 0 = true := hE _ (Array.mem_of_getElem? (i := 0) rfl) rfl
                have v87 : ev (.tmp 87) = labL hA := hV 0 87 hL0 rfl
                have hL6 : Lf 6 = true := hE _ (Array.mem_of_getElem? (i := 1) rfl) rfl
                have v93 : ev (.tmp 93) = labL oA := hV 6 93 hL6 rfl
                clear hE hO hV
                have HF := Lib.hid hF
                clear hF
                exact Rely.Good.enter (f := 23) (args := #[labL hA, labL oA]) (by go_simp) ((rxor_lab hA oA wv HW.out.2.2.2.1 HW.out.2.2.2.2.2.2.2.1).mono fun e w2 hc => ⟨0, _, hc.1, fun _ _ => by rw [show Garb.nadd hA oA = yy from HQ.out.2.2.1.2.2.1]; rfl, HF.out.val 7 0 (by decide) hc.2⟩)
              refine Rely.Steps.cons (fun Lf γ ev wv hL hE hF hC hCf hO hV => ?_) ?_
              · clear hL
                have v16 : ev (.tmp 16) = .pointer (some ⟨wr.heap.size + 1, 0, none⟩) := (hO 16 (by kernel_rfl)).trans rfl
                clear hE hO hV
                have hX := Blk.below H4.out.2.2.2.2.2.1 hF.b (Blk.lt H4.out.2.2.2.2.2.1)
                have q0 := Blk.cell hX 0 rfl
                have q1 := Blk.cell hX 1 rfl
                have HF := Lib.hid hF
                clear hX hF
                exact Rely.Good.value 0 (u := labL zb) (by go_simp) (fun _ _ => rfl) (HF.out.same 8 0 (by decide))
              refine Rely.Steps.cons (fun Lf γ ev wv hL hE hF hC hCf hO hV => ?_) ?_
              · clear hL
                have hL8 : Lf 8 = true := hE _ (Array.mem_of_getElem? (i := 0) rfl) rfl
                have v95 : ev (.tmp 95) = labL zb := hV 8 95 hL8 rfl
                clear hE hO hV
                have HF := Lib.hid hF
                clear hF
                exact Rely.Good.enter (f := 49) (args := #[labL zb]) (by go_simp) ((rcolour_any zb wv).mono fun e w2 hc => ⟨0, _, hc.1, fun _ _ => rfl, HF.out.val 9 0 (by decide) hc.2⟩)
              refine Rely.Steps.cons (fun Lf γ ev wv hL hE hF hC hCf hO hV => ?_) ?_
              · clear hL
                have v5 : ev (.tmp 5) = .pointer (some ⟨w.heap.size, 0, none⟩) := (hO 5 (by kernel_rfl)).trans rfl
                clear hE hO hV
                have hX := Blk.below H4.out.2.2.2.2.2.2.1 hF.b (Blk.lt H4.out.2.2.2.2.2.2.1)
                have q0 := Blk.cell hX 0 rfl
                have q1 := Blk.cell hX 1 rfl
                have HF := Lib.hid hF
                clear hX hF
                exact Rely.Good.value 0 (u := labL d) (by go_simp) (fun _ _ => rfl) (HF.out.same 10 0 (by decide))
              refine Rely.Steps.cons (fun Lf γ ev wv hL hE hF hC hCf hO hV => ?_) ?_
              · clear hL
                have hL7 : Lf 7 = true := hE _ (Array.mem_of_getElem? (i := 0) rfl) rfl
                have v94 : ev (.tmp 94) = labL yy := hV 7 94 hL7 rfl
                have hL9 : Lf 9 = true := hE _ (Array.mem_of_getElem? (i := 1) rfl) rfl
                have v96 : ev (.tmp 96) = .int .u64 (colN zb : Int) := hV 9 96 hL9 rfl
                have hL10 : Lf 10 = true := hE _ (Array.mem_of_getElem? (i := 2) rfl) rfl
                have v97 : ev (.tmp 97) = labL d := hV 10 97 hL10 rfl
                clear hE hO hV
                have HF := Lib.hid hF
                clear hF
                exact Rely.Good.enter (f := 48) (args := #[labL yy, .int .u64 (colN zb : Int), labL d]) (by go_simp) ((rplus_any yy d zb wv HW.out.2.2.2.2.2.2.2.2.2.1 HW.out.1).mono fun e w2 hc => ⟨0, _, hc.1, fun _ _ => by rw [show Garb.plus Garb.nadd yy (Garb.ncol zb) d = G from HQ.out.2.2.1.2.2.2.2.1]; rfl, HF.out.val 11 0 (by decide) hc.2⟩)
              refine Rely.Steps.cons (fun Lf γ ev wv hL hE hF hC hCf hO hV => ?_) ?_
              · skip
                clear hE hO hV
                exact Rely.Good.value wv.heap.size (u := .pointer (some ⟨wv.heap.size, 0, none⟩)) (by go_simp) (fun _ _ => rfl) (hF.alloc rfl (i := 12) (s := 13) (by simp) hL)
              refine Rely.Steps.cons (fun Lf γ ev wv hL hE hF hC hCf hO hV => ?_) ?_
              · clear hL
                have hL12 : Lf 12 = true := hE _ (Array.mem_of_getElem? (i := 0) rfl) rfl
                have v20 : ev (.tmp 20) = .pointer (some ⟨(γ 12), 0, none⟩) := hV 12 20 hL12 rfl
                have hL11 : Lf 11 = true := hE _ (Array.mem_of_getElem? (i := 1) rfl) rfl
                have v98 : ev (.tmp 98) = labL G := hV 11 98 hL11 rfl
                clear hE hO hV
                obtain ⟨y0, hX⟩ := hF.ready (i := 12) (s := 13) (by simp) hL12
                have HF := Lib.hid hF
                clear hF
                have q0 := Blk.cell hX 0 rfl
                have q1 := Blk.cell hX 1 rfl
                have qf := Blk.frozen hX
                clear hX
                exact Rely.Good.skip 0 (w' := stL wv (γ 12) G) (by go_simp) rfl (HF.out.put rfl 0 (i := 12) (by simp) hL12)
              exact Rely.Steps.nil
            case hend =>
              intro γ w5 hF
              have n12 := hF.new (12, 13) (by simp) rfl
              have m12 : LbB w5 (γ 12) G := n12.2
              have hb := hF.b
              have H5 := Lib.hid (And.intro (H4.out.1.trans (hb.mono H4.out.2.1)) (And.intro (Nat.le_trans H4.out.2.1 hb.size) (And.intro (Row.below H4.out.2.2.1 hb) (And.intro (Row.below H4.out.2.2.2.1 hb) (And.intro (Blk.below H4.out.2.2.2.2.1 hb (Blk.lt H4.out.2.2.2.2.1)) (And.intro (Blk.below H4.out.2.2.2.2.2.1 hb (Blk.lt H4.out.2.2.2.2.2.1)) (And.intro (Blk.below H4.out.2.2.2.2.2.2.1 hb (Blk.lt H4.out.2.2.2.2.2.2.1)) (And.intro (Blk.below H4.out.2.2.2.2.2.2.2.1 hb (Blk.lt H4.out.2.2.2.2.2.2.2.1)) (And.intro (H4.out.2.2.2.2.2.2.2.2.1.below hb) (And.intro (Nat.lt_of_lt_of_le H4.out.2.2.2.2.2.2.2.2.2.1 hb.size) (And.intro (Blk.below H4.out.2.2.2.2.2.2.2.2.2.2.1 hb (Blk.lt H4.out.2.2.2.2.2.2.2.2.2.2.1)) (And.intro H4.out.2.2.2.2.2.2.2.2.2.2.2.1 (And.intro (Blk.below H4.out.2.2.2.2.2.2.2.2.2.2.2.2.1 hb (Blk.lt H4.out.2.2.2.2.2.2.2.2.2.2.2.2.1)) (And.intro H4.out.2.2.2.2.2.2.2.2.2.2.2.2.2 (And.intro m12 (show wr.heap.size + 1 < γ 12 from Nat.lt_of_lt_of_le H4.out.2.2.2.2.2.2.2.2.2.1 n12.1))))))))))))))))
              clear hF hb n12 m12 H4
              simp only [Rely.fin, Act.put, List.setIfInBounds_toArray, List.set_cons_zero, List.set_cons_succ]
              generalize γ 12 = gG at *
              go_wp2_with fail
              refine Rely.region (G := Nat) (vs := [fun _ => labL hB, fun _ => .agg #[.slice (some ⟨gc, 0, none⟩) 176 cc, .slice (some ⟨gb, 0, none⟩) 256 cb], fun _ => labL zb, fun _ => labL d, fun _ => labL xb, fun _ => .int .u64 (s : Int), fun _ => .int .u64 (t : Int), fun _ => labL oB, fun _ => labL zz, fun _ => labL za, fun _ => labL E, fun g => .pointer (some ⟨g, 0, none⟩), fun _ => undef]) (F := fun L γ w' => FN w5 [(11, 12)] (fun i => E) L γ w') (by kernel_rfl) (by kernel_rfl) rfl (fun _ => 0) (FN.start w5 _ (drew_below w5) _) ?hsteps ?hend
              case hsteps =>
                refine Rely.Steps.cons (fun Lf γ ev wv hL hE hF hC hCf hO hV => ?_) ?_
                · clear hL
                  have v19 : ev (.tmp 19) = .pointer (some ⟨gB, 0, none⟩) := (hO 19 (by kernel_rfl)).trans rfl
                  clear hE hO hV
                  have hX := Blk.below H5.out.2.2.2.2.2.2.2.2.2.2.2.2.1 hF.b (Blk.lt H5.out.2.2.2.2.2.2.2.2.2.2.2.2.1)
                  have q0 := Blk.cell hX 0 rfl
                  have q1 := Blk.cell hX 1 rfl
                  have HF := Lib.hid hF
                  clear hX hF
                  exact Rely.Good.value 0 (u := labL hB) (by go_simp) (fun _ _ => rfl) (HF.out.same 0 0 (by decide))
                refine Rely.Steps.cons (fun Lf γ ev wv hL hE hF hC hCf hO hV => ?_) ?_
                · clear hL
                  have v10 : ev (.tmp 10) = .pointer (some ⟨bc, 0, none⟩) := (hO 10 (by kernel_rfl)).trans rfl
                  clear hE hO hV
                  have hX := Blk.below H5.out.2.2.2.2.2.2.2.1 hF.b (Blk.lt H5.out.2.2.2.2.2.2.2.1)
                  have q0 := Blk.cell hX 0 rfl
                  have q1 := Blk.cell hX 1 rfl
                  have HF := Lib.hid hF
                  clear hX hF
                  exact Rely.Good.value 0 (u := .agg #[.slice (some ⟨gc, 0, none⟩) 176 cc, .slice (some ⟨gb, 0, none⟩) 256 cb]) (by go_simp) (fun _ _ => rfl) (HF.out.same 1 0 (by decide))
                refine Rely.Steps.cons (fun Lf γ ev wv hL hE hF hC hCf hO hV => ?_) ?_
                · clear hL
                  have v16 : ev (.tmp 16) = .pointer (some ⟨wr.heap.size + 1, 0, none⟩) := (hO 16 (by kernel_rfl)).trans rfl
                  clear hE hO hV
                  have hX := Blk.below H5.out.2.2.2.2.2.1 hF.b (Blk.lt H5.out.2.2.2.2.2.1)
                  have q0 := Blk.cell hX 0 rfl
                  have q1 := Blk.cell hX 1 rfl
                  have HF := Lib.hid hF
                  clear hX hF
                  exact Rely.Good.value 0 (u := labL zb) (by go_simp) (fun _ _ => rfl) (HF.out.same 2 0 (by decide))
                refine Rely.Steps.cons (fun Lf γ ev wv hL hE hF hC hCf hO hV => ?_) ?_
                · clear hL
                  have v5 : ev (.tmp 5) = .pointer (some ⟨w.heap.size, 0, none⟩) := (hO 5 (by kernel_rfl)).trans rfl
                  clear hE hO hV
                  have hX := Blk.below H5.out.2.2.2.2.2.2.1 hF.b (Blk.lt H5.out.2.2.2.2.2.2.1)
                  have q0 := Blk.cell hX 0 rfl
                  have q1 := Blk.cell hX 1 rfl
                  have HF := Lib.hid hF
                  clear hX hF
                  exact Rely.Good.value 0 (u := labL d) (by go_simp) (fun _ _ => rfl) (HF.out.same 3 0 (by decide))
                refine Rely.Steps.cons (fun Lf γ ev wv hL hE hF hC hCf hO hV => ?_) ?_
                · clear hL
                  have hL2 : Lf 2 = true := hE _ (Array.mem_of_getElem? (i := 0) rfl) rfl
                  have v101 : ev (.tmp 101) = labL zb := hV 2 101 hL2 rfl
                  have hL3 : Lf 3 = true := hE _ (Array.mem_of_getElem? (i := 1) rfl) rfl
                  have v102 : ev (.tmp 102) = labL d := hV 3 102 hL3 rfl
                  clear hE hO hV
                  have HF := Lib.hid hF
                  clear hF
                  exact Rely.Good.enter (f := 23) (args := #[labL zb, labL d]) (by go_simp) ((rxor_lab zb d wv HW.out.2.2.1 HW.out.1).mono fun e w2 hc => ⟨0, _, hc.1, fun _ _ => by rw [show Garb.nadd zb d = xb from HQ.out.2.2.1.2.1]; rfl, HF.out.val 4 0 (by decide) hc.2⟩)
                refine Rely.Steps.cons (fun Lf γ ev wv hL hE hF hC hCf hO hV => ?_) ?_
                · clear hL
                  have v17 : ev (.tmp 17) = .int .u64 (s : Int) := (hO 17 (by kernel_rfl)).trans rfl
                  clear hE hO hV
                  exact Rely.Good.value 0 (u := .int .u64 (s : Int)) (by go_simp) (fun _ _ => rfl) (hF.same 5 0 (by decide))
                refine Rely.Steps.cons (fun Lf γ ev wv hL hE hF hC hCf hO hV => ?_) ?_
                · clear hL
                  have hL5 : Lf 5 = true := hE _ (Array.mem_of_getElem? (i := 0) rfl) rfl
                  have v104 : ev (.tmp 104) = .int .u64 (s : Int) := hV 5 104 hL5 rfl
                  clear hE hO hV
                  exact Rely.Good.value 0 (u := .int .u64 (t : Int)) (by go_simp) (fun _ _ => rfl) (hF.same 6 0 (by decide))
                refine Rely.Steps.cons (fun Lf γ ev wv hL hE hF hC hCf hO hV => ?_) ?_
                · clear hL
                  have hL1 : Lf 1 = true := hE _ (Array.mem_of_getElem? (i := 0) rfl) rfl
                  have v100 : ev (.tmp 100) = .agg #[.slice (some ⟨gc, 0, none⟩) 176 cc, .slice (some ⟨gb, 0, none⟩) 256 cb] := hV 1 100 hL1 rfl
                  have hL4 : Lf 4 = true := hE _ (Array.mem_of_getElem? (i := 1) rfl) rfl
                  have v103 : ev (.tmp 103) = labL xb := hV 4 103 hL4 rfl
                  have hL6 : Lf 6 = true := hE _ (Array.mem_of_getElem? (i := 2) rfl) rfl
                  have v105 : ev (.tmp 105) = .int .u64 (t : Int) := hV 6 105 hL6 rfl
                  clear hE hO hV
                  have hF0 := hF.b
                  have HF := Lib.hid hF
                  clear hF
                  exact Rely.Good.enter (f := 47) (args := #[.agg #[.slice (some ⟨gc, 0, none⟩) 176 cc, .slice (some ⟨gb, 0, none⟩) 256 cb], labL xb, .int .u64 (t : Int)]) (by go_simp) ((HQ.out.1.doc wv gc cc gb cb xb t (H5.out.2.2.2.2.2.2.2.2.1.below hF0) HW.out.2.2.2.2.2.2.1 HQ.out.2.2.2.2).mono fun e w2 hc => ⟨0, _, hc.1, fun _ _ => by rw [show H xb t = oB from HQ.out.2.1.2.2.2]; rfl, HF.out.val 7 0 (by decide) hc.2⟩)
                refine Rely.Steps.cons (fun Lf γ ev wv hL hE hF hC hCf hO hV => ?_) ?_
                · clear hL
                  have hL0 : Lf 0 = true := hE _ (Array.mem_of_getElem? (i := 0) rfl) rfl
                  have v99 : ev (.tmp 99) = labL hB := hV 0 99 hL0 rfl
                  have hL7 : Lf 7 = true := hE _ (Array.mem_of_getElem? (i := 1) rfl) rfl
                  have v106 : ev (.tmp 106) = labL oB := hV 7 106 hL7 rfl
                  clear hE hO hV
                  have HF := Lib.hid hF
                  clear hF
                  exact Rely.Good.enter (f := 23) (args := #[labL hB, labL oB]) (by go_simp) ((rxor_lab hB oB wv HW.out.2.2.2.2.1 HW.out.2.2.2.2.2.2.2.2.1).mono fun e w2 hc => ⟨0, _, hc.1, fun _ _ => by rw [show Garb.nadd hB oB = zz from HQ.out.2.2.1.2.2.2.1]; rfl, HF.out.val 8 0 (by decide) hc.2⟩)
                refine Rely.Steps.cons (fun Lf γ ev wv hL hE hF hC hCf hO hV => ?_) ?_
                · clear hL
                  have v15 : ev (.tmp 15) = .pointer (some ⟨wr.heap.size, 0, none⟩) := (hO 15 (by kernel_rfl)).trans rfl
                  clear hE hO hV
                  have hX := Blk.below H5.out.2.2.2.2.1 hF.b (Blk.lt H5.out.2.2.2.2.1)
                  have q0 := Blk.cell hX 0 rfl
                  have q1 := Blk.cell hX 1 rfl
                  have HF := Lib.hid hF
                  clear hX hF
                  exact Rely.Good.value 0 (u := labL za) (by go_simp) (fun _ _ => rfl) (HF.out.same 9 0 (by decide))
                refine Rely.Steps.cons (fun Lf γ ev wv hL hE hF hC hCf hO hV => ?_) ?_
                · clear hL
                  have hL8 : Lf 8 = true := hE _ (Array.mem_of_getElem? (i := 0) rfl) rfl
                  have v107 : ev (.tmp 107) = labL zz := hV 8 107 hL8 rfl
                  have hL9 : Lf 9 = true := hE _ (Array.mem_of_getElem? (i := 1) rfl) rfl
                  have v108 : ev (.tmp 108) = labL za := hV 9 108 hL9 rfl
                  clear hE hO hV
                  have HF := Lib.hid hF
                  clear hF
                  exact Rely.Good.enter (f := 23) (args := #[labL zz, labL za]) (by go_simp) ((rxor_lab zz za wv HW.out.2.2.2.2.2.2.2.2.2.2.1 HW.out.2.1).mono fun e w2 hc => ⟨0, _, hc.1, fun _ _ => by rw [show Garb.nadd zz za = E from HQ.out.2.2.1.2.2.2.2.2.1]; rfl, HF.out.val 10 0 (by decide) hc.2⟩)
                refine Rely.Steps.cons (fun Lf γ ev wv hL hE hF hC hCf hO hV => ?_) ?_
                · skip
                  clear hE hO hV
                  exact Rely.Good.value wv.heap.size (u := .pointer (some ⟨wv.heap.size, 0, none⟩)) (by go_simp) (fun _ _ => rfl) (hF.alloc rfl (i := 11) (s := 12) (by simp) hL)
                refine Rely.Steps.cons (fun Lf γ ev wv hL hE hF hC hCf hO hV => ?_) ?_
                · clear hL
                  have hL11 : Lf 11 = true := hE _ (Array.mem_of_getElem? (i := 0) rfl) rfl
                  have v21 : ev (.tmp 21) = .pointer (some ⟨(γ 11), 0, none⟩) := hV 11 21 hL11 rfl
                  have hL10 : Lf 10 = true := hE _ (Array.mem_of_getElem? (i := 1) rfl) rfl
                  have v109 : ev (.tmp 109) = labL E := hV 10 109 hL10 rfl
                  clear hE hO hV
                  obtain ⟨y0, hX⟩ := hF.ready (i := 11) (s := 12) (by simp) hL11
                  have HF := Lib.hid hF
                  clear hF
                  have q0 := Blk.cell hX 0 rfl
                  have q1 := Blk.cell hX 1 rfl
                  have qf := Blk.frozen hX
                  clear hX
                  exact Rely.Good.skip 0 (w' := stL wv (γ 11) E) (by go_simp) rfl (HF.out.put rfl 0 (i := 11) (by simp) hL11)
                exact Rely.Steps.nil
              case hend =>
                intro γ w6 hF
                have n11 := hF.new (11, 12) (by simp) rfl
                have m11 : LbB w6 (γ 11) E := n11.2
                have hb := hF.b
                have H6 := Lib.hid (And.intro (H5.out.1.trans (hb.mono H5.out.2.1)) (And.intro (Nat.le_trans H5.out.2.1 hb.size) (And.intro (Row.below H5.out.2.2.1 hb) (And.intro (Row.below H5.out.2.2.2.1 hb) (And.intro (Blk.below H5.out.2.2.2.2.1 hb (Blk.lt H5.out.2.2.2.2.1)) (And.intro (Blk.below H5.out.2.2.2.2.2.1 hb (Blk.lt H5.out.2.2.2.2.2.1)) (And.intro (Blk.below H5.out.2.2.2.2.2.2.1 hb (Blk.lt H5.out.2.2.2.2.2.2.1)) (And.intro (Blk.below H5.out.2.2.2.2.2.2.2.1 hb (Blk.lt H5.out.2.2.2.2.2.2.2.1)) (And.intro (H5.out.2.2.2.2.2.2.2.2.1.below hb) (And.intro (Nat.lt_of_lt_of_le H5.out.2.2.2.2.2.2.2.2.2.1 hb.size) (And.intro (Blk.below H5.out.2.2.2.2.2.2.2.2.2.2.1 hb (Blk.lt H5.out.2.2.2.2.2.2.2.2.2.2.1)) (And.intro H5.out.2.2.2.2.2.2.2.2.2.2.2.1 (And.intro (Blk.below H5.out.2.2.2.2.2.2.2.2.2.2.2.2.1 hb (Blk.lt H5.out.2.2.2.2.2.2.2.2.2.2.2.2.1)) (And.intro H5.out.2.2.2.2.2.2.2.2.2.2.2.2.2.1 (And.intro (Blk.below H5.out.2.2.2.2.2.2.2.2.2.2.2.2.2.2.1 hb (Blk.lt H5.out.2.2.2.2.2.2.2.2.2.2.2.2.2.2.1)) (And.intro H5.out.2.2.2.2.2.2.2.2.2.2.2.2.2.2.2 (And.intro m11 (show wr.heap.size + 1 < γ 11 from Nat.lt_of_lt_of_le H5.out.2.2.2.2.2.2.2.2.2.1 n11.1))))))))))))))))))
                clear hF hb n11 m11 H5
                simp only [Rely.fin, Act.put, List.setIfInBounds_toArray, List.set_cons_zero, List.set_cons_succ]
                generalize γ 11 = gE at *
                have hBw : B ≤ w6.heap.size := H6.out.2.1
                obtain ⟨gt, kt, w7, hr, hgB, hR7, hgr, hor⟩ := append_two w6 B (.slice At (2 * j) ct) (2 * j) (Tb k) (Tb (k + 1)) G E H6.out.2.2.2.1 HM.out.1 HM.out.2.1 HM.out.2.2.1 (by have := HM.out.2.2.2; omega) hBw
                have hc7 : Chg (fun q => (Value.slice At (2 * j) ct).ownBlock = some q) w6 w7 := ((Chg.refl _ w6).alloc (.cells #[.int .u64 (G.1 : Int), .int .u64 (G.2 : Int), .int .u64 (E.1 : Int), .int .u64 (E.2 : Int)] 28)).grown hgr (fun q hq => .inr hq)
                have nb : ∀ q, wr.heap.size ≤ q → ¬ ((Value.slice At (2 * j) ct).ownBlock = some q) := fun q hq h => by
                  have := (HN2.out q h).2; omega
                have hb7 := H6.out.1.trans (hc7.below hBw fun q hq => (HN2.out q hq).1)
                have hR7x := H6.out.2.2.1.chg hc7 (fun q hq h => HDj.out.1 q hq h)
                have hdj7 : ∀ q, (Value.slice (some ⟨gw, 0, none⟩) (N + k) cw).ownBlock = some q → (Value.slice (some ⟨gt, 0, none⟩) (2 * j + 2) kt).ownBlock ≠ some q := fun q hq h => by
                  obtain rfl : gt = q := Option.some.inj h
                  rcases hor with e | e
                  · exact HDj.out.1 gt hq e
                  · have := (H6.out.2.2.1.own gt hq).2.1; omega
                have qg0 := Blk.cell H6.out.2.2.2.2.2.2.2.2.2.2.2.2.2.2.1 0 rfl
                have qg1 := Blk.cell H6.out.2.2.2.2.2.2.2.2.2.2.2.2.2.2.1 1 rfl
                have qe0 := Blk.cell H6.out.2.2.2.2.2.2.2.2.2.2.2.2.2.2.2.2.1 0 rfl
                have qe1 := Blk.cell H6.out.2.2.2.2.2.2.2.2.2.2.2.2.2.2.2.2.1 1 rfl
                have H7 := Lib.hid (And.intro hb7 (And.intro (Nat.le_trans hBw hc7.size) (And.intro hR7x (And.intro hR7 (And.intro hdj7 (And.intro (Nat.lt_of_lt_of_le H6.out.2.2.2.2.2.2.2.2.2.1 hc7.size) (And.intro (Blk.chg H6.out.2.2.2.2.1 hc7 (nb _ (by omega))) (And.intro (Blk.chg H6.out.2.2.2.2.2.1 hc7 (nb _ (by omega))) (And.intro (Blk.chg H6.out.2.2.2.2.2.2.2.2.2.2.1 hc7 (nb _ (by have := H6.out.2.2.2.2.2.2.2.2.2.2.2.1; omega))) (And.intro (Blk.chg H6.out.2.2.2.2.2.2.2.2.2.2.2.2.1 hc7 (nb _ (by have := H6.out.2.2.2.2.2.2.2.2.2.2.2.2.2.1; omega))) (And.intro (Blk.chg H6.out.2.2.2.2.2.2.2.2.2.2.2.2.2.2.1 hc7 (nb _ (by have := H6.out.2.2.2.2.2.2.2.2.2.2.2.2.2.2.2.1; omega))) (Blk.chg H6.out.2.2.2.2.2.2.2.2.2.2.2.2.2.2.2.2.1 hc7 (nb _ (by have := H6.out.2.2.2.2.2.2.2.2.2.2.2.2.2.2.2.2.2; omega))))))))))))))
                have HR := Lib.hid hr
                clear hBw hr hgB hR7 hgr hor hc7 nb hb7 hR7x hdj7 H6 e3
                go_wp2_with (at_builtin; refine wpList_append_run rfl _ _ 29 rfl (.slice At (2 * j) ct) (.slice (some ⟨w6.heap.size, 0, none⟩) 2 2) (.slice (some ⟨gt, 0, none⟩) (2 * j + 2) kt) w7 rfl rfl (HR.out _) ?_)
                clear HR qg0 qg1 qe0 qe1
                refine region_y [15, 16] (fun w' => Below w7.heap.size w7 w') (by kernel_rfl) ?_
                have hS : Below w7.heap.size w7 w7.drew := drew_below w7
                refine yu (i := 0) rfl (.slice (some ⟨gw, 0, none⟩) (N + k) cw) (by kernel_rfl) (by kernel_rfl) (by kernel_rfl) (fun _ _ _ h => h) (fun w' => by go_simp) ?_
                try simp only [Act.put, List.setIfInBounds_toArray, List.set_cons_zero, List.set_cons_succ]
                refine yt [15, 16, 14, 13, 5] (i := 1) rfl (labL hA) (by kernel_rfl) (by kernel_rfl) (by kernel_rfl) (by kernel_rfl) (fun _ _ _ h => h) hS (fun w' hw' => by have hX := Blk.below H7.out.2.2.2.2.2.2.2.2.1 hw' (Blk.lt H7.out.2.2.2.2.2.2.2.2.1); have q0 := Blk.cell hX 0 rfl; have q1 := Blk.cell hX 1 rfl; clear hX; go_simp) ?_
                try simp only [Act.put, List.setIfInBounds_toArray, List.set_cons_zero, List.set_cons_succ]
                refine yt [15, 16, 14, 13, 5, 3] (i := 2) rfl (labL za) (by kernel_rfl) (by kernel_rfl) (by kernel_rfl) (by kernel_rfl) (fun _ _ _ h => h) hS (fun w' hw' => by have hX := Blk.below H7.out.2.2.2.2.2.2.1 hw' (Blk.lt H7.out.2.2.2.2.2.2.1); have q0 := Blk.cell hX 0 rfl; have q1 := Blk.cell hX 1 rfl; clear hX; go_simp) ?_
                try simp only [Act.put, List.setIfInBounds_toArray, List.set_cons_zero, List.set_cons_succ]
                refine yt [15, 16, 14, 13, 5] (i := 4) rfl (labL G) (by kernel_rfl) (by kernel_rfl) (by kernel_rfl) (by kernel_rfl) (fun _ _ _ h => h) hS (fun w' hw' => by have hX := Blk.below H7.out.2.2.2.2.2.2.2.2.2.2.1 hw' (Blk.lt H7.out.2.2.2.2.2.2.2.2.2.2.1); have q0 := Blk.cell hX 0 rfl; have q1 := Blk.cell hX 1 rfl; clear hX; go_simp) ?_
                try simp only [Act.put, List.setIfInBounds_toArray, List.set_cons_zero, List.set_cons_succ]
                refine yt [15, 16, 14, 13, 12] (i := 6) rfl (labL hB) (by kernel_rfl) (by kernel_rfl) (by kernel_rfl) (by kernel_rfl) (fun _ _ _ h => h) hS (fun w' hw' => by have hX := Blk.below H7.out.2.2.2.2.2.2.2.2.2.1 hw' (Blk.lt H7.out.2.2.2.2.2.2.2.2.2.1); have q0 := Blk.cell hX 0 rfl; have q1 := Blk.cell hX 1 rfl; clear hX; go_simp) ?_
                try simp only [Act.put, List.setIfInBounds_toArray, List.set_cons_zero, List.set_cons_succ]
                refine yt [15, 16, 14, 13, 12, 8] (i := 7) rfl (labL zb) (by kernel_rfl) (by kernel_rfl) (by kernel_rfl) (by kernel_rfl) (fun _ _ _ h => h) hS (fun w' hw' => by have hX := Blk.below H7.out.2.2.2.2.2.2.2.1 hw' (Blk.lt H7.out.2.2.2.2.2.2.2.1); have q0 := Blk.cell hX 0 rfl; have q1 := Blk.cell hX 1 rfl; clear hX; go_simp) ?_
                try simp only [Act.put, List.setIfInBounds_toArray, List.set_cons_zero, List.set_cons_succ]
                refine yt [15, 16, 14, 13, 12, 11] (i := 9) rfl (labL E) (by kernel_rfl) (by kernel_rfl) (by kernel_rfl) (by kernel_rfl) (fun _ _ _ h => h) hS (fun w' hw' => by have hX := Blk.below H7.out.2.2.2.2.2.2.2.2.2.2.2 hw' (Blk.lt H7.out.2.2.2.2.2.2.2.2.2.2.2); have q0 := Blk.cell hX 0 rfl; have q1 := Blk.cell hX 1 rfl; clear hX; go_simp) ?_
                try simp only [Act.put, List.setIfInBounds_toArray, List.set_cons_zero, List.set_cons_succ]
                refine yt [15, 16, 14, 13, 12, 11] (i := 10) rfl (labL za) (by kernel_rfl) (by kernel_rfl) (by kernel_rfl) (by kernel_rfl) (fun _ _ _ h => h) hS (fun w' hw' => by have hX := Blk.below H7.out.2.2.2.2.2.2.1 hw' (Blk.lt H7.out.2.2.2.2.2.2.1); have q0 := Blk.cell hX 0 rfl; have q1 := Blk.cell hX 1 rfl; clear hX; go_simp) ?_
                try simp only [Act.put, List.setIfInBounds_toArray, List.set_cons_zero, List.set_cons_succ]
                refine y1 (i := 3) (by kernel_rfl) rfl (fun K' hK => ?_)
                go_simp
                refine (rcolour_any za w7.drew).mono ?_
                rintro e w8 ⟨rfl, hbw8⟩
                have hS := hS.trans (hbw8.mono hS.size)
                refine hK.out _ _ (.inr fun _ => hS) ?_
                clear hK K' hbw8
                try simp only [Act.put, List.setIfInBounds_toArray, List.set_cons_zero, List.set_cons_succ]
                refine y1 (i := 5) (by kernel_rfl) rfl (fun K' hK => ?_)
                go_simp
                refine (rplus_any hA G za w8 HW.out.2.2.2.1 HW.out.2.2.2.2.2.2.2.2.2.2.2.1).mono ?_
                rw [show Garb.plus Garb.nadd hA (Garb.ncol za) G = p1 from HQ.out.2.2.1.2.2.2.2.2.2.2.1]
                rintro e w9 ⟨rfl, hbw9⟩
                have hS := hS.trans (hbw9.mono hS.size)
                refine hK.out _ _ (.inr fun _ => hS) ?_
                clear hK K' hbw9
                try simp only [Act.put, List.setIfInBounds_toArray, List.set_cons_zero, List.set_cons_succ]
                refine y1 (i := 8) (by kernel_rfl) rfl (fun K' hK => ?_)
                go_simp
                refine (rcolour_any zb w9).mono ?_
                rintro e w10 ⟨rfl, hbw10⟩
                have hS := hS.trans (hbw10.mono hS.size)
                refine hK.out _ _ (.inr fun _ => hS) ?_
                clear hK K' hbw10
                try simp only [Act.put, List.setIfInBounds_toArray, List.set_cons_zero, List.set_cons_succ]
                refine y1 (i := 11) (by kernel_rfl) rfl (fun K' hK => ?_)
                go_simp
                refine (rxor_lab E za w10 HW.out.2.2.2.2.2.2.2.2.2.2.2.2.1 HW.out.2.1).mono ?_
                rw [show Garb.nadd E za = u from HQ.out.2.2.1.2.2.2.2.2.2.1]
                rintro e w11 ⟨rfl, hbw11⟩
                have hS := hS.trans (hbw11.mono hS.size)
                refine hK.out _ _ (.inr fun _ => hS) ?_
                clear hK K' hbw11
                try simp only [Act.put, List.setIfInBounds_toArray, List.set_cons_zero, List.set_cons_succ]
                refine y1 (i := 12) (by kernel_rfl) rfl (fun K' hK => ?_)
                go_simp
                refine (rplus_any hB u zb w11 HW.out.2.2.2.2.1 HW.out.2.2.2.2.2.2.2.2.2.2.2.2.2.1).mono ?_
                rw [show Garb.plus Garb.nadd hB (Garb.ncol zb) u = p2 from HQ.out.2.2.1.2.2.2.2.2.2.2.2.1]
                rintro e w12 ⟨rfl, hbw12⟩
                have hS := hS.trans (hbw12.mono hS.size)
                refine hK.out _ _ (.inr fun _ => hS) ?_
                clear hK K' hbw12
                try simp only [Act.put, List.setIfInBounds_toArray, List.set_cons_zero, List.set_cons_succ]
                refine y1 (i := 13) (by kernel_rfl) rfl (fun K' hK => ?_)
                go_simp
                refine (rxor_lab p1 p2 w12 HW.out.2.2.2.2.2.2.2.2.2.2.2.2.2.2.1 HW.out.2.2.2.2.2.2.2.2.2.2.2.2.2.2.2).mono ?_
                rw [show Garb.nadd p1 p2 = r from HQ.out.2.2.1.2.2.2.2.2.2.2.2.2]
                rintro e w13 ⟨rfl, hbw13⟩
                have hS := hS.trans (hbw13.mono hS.size)
                refine hK.out _ _ (.inr fun _ => hS) ?_
                clear hK K' hbw13
                try simp only [Act.put, List.setIfInBounds_toArray, List.set_cons_zero, List.set_cons_succ]
                obtain ⟨gn, kk, wz, hr, hRg⟩ := rg_step (Z := Z) (T := Tb) (y := y) (k := k) (H7.out.2.2.1.below hS) (by
                  rw [HM.out.2.2.2.2, show 2 * (j + 1) = 2 * j + 2 by omega]
                  exact H7.out.2.2.2.1.below hS) (H7.out.1.trans (hS.mono H7.out.2.1)) (Nat.le_trans H7.out.2.1 hS.size) H7.out.2.2.2.2.1 r HVz.out.1 HZr.out (by have := HN.out; have := HLt.out; omega)
                have HR := Lib.hid hr
                have HF := Lib.hid hRg
                have hS3 := hS.alloc hS.size (.cells #[.int .u64 (r.1 : Int), .int .u64 (r.2 : Int)] 28)
                clear hr hRg
                refine y1 (i := 14) (by kernel_rfl) rfl (fun K' hK => ?_)
                go_simp
                refine hK.out _ _ (.inr fun _ => hS3) ?_
                clear hK K' hS hS3
                try simp only [Act.put, List.setIfInBounds_toArray, List.set_cons_zero, List.set_cons_succ]
                refine y1 (i := 15) (by kernel_rfl) rfl (fun K' hK => ?_)
                refine wp_append_run _ _ 29 rfl (.slice (some ⟨gw, 0, none⟩) (N + k) cw) (.slice (some ⟨w13.heap.size, 0, none⟩) 1 1) (.slice (some ⟨gn, 0, none⟩) (N + k + 1) kk) wz rfl rfl (HR.out _) ?_
                refine hK.out _ _ (.inl (by decide)) ?_
                clear hK K' HR
                try simp only [Act.put, List.setIfInBounds_toArray, List.set_cons_zero, List.set_cons_succ]
                refine y1 (i := 16) (by kernel_rfl) rfl (fun K' hK => ?_)
                go_simp
                refine hK.out _ _ (.inl (by decide)) ?_
                clear hK K'
                try simp only [Act.put, List.setIfInBounds_toArray, List.set_cons_zero, List.set_cons_succ]
                refine wpAnyY_done (by kernel_rfl) ?_ _
                go_wp2
                go_roundw
                case rel => exact ⟨k + 1, _, _, by have := HLt.out; omega, rfl, rfl, by rw [HM.out.2.2.2.2]; go_num, by go_num, by have := HF.out; exact this⟩
                case measure => simp [intOf]; have := HLt.out; omega
    · obtain rfl : k = n := by omega
      have lt1 : ¬ (k : Int) < (k : Int) := by omega
      obtain ⟨wB, hwB⟩ : ∃ x, x = wr := ⟨_, rfl⟩
      subst hwB
      obtain ⟨hR, hTt, hb, hBr, hdj⟩ := HI.out
      have hwB2 := H2.out
      have HF := Lib.hid (show Row wB w.heap.size 28 2 vt (2 * Circ.ands y k) (lv (Tb k)) ∧ Row wB w.heap.size 28 2 v (N + k) (lv (Z k)) ∧ Below w.heap.size w wB from ⟨hTt.mono (fun q hq => by have := (hTt.own q hq).1; omega), hR.mono (fun q hq => by have := (hR.own q hq).1; omega), hwB2.2.2.2.2.1.trans (hb.mono (by omega))⟩)
      clear hR hTt hb hBr hdj hlt2 hk HI hwB2
      go_wp2
      go_ret2
      refine ⟨_, _, rfl, ?_⟩
      rw [HZT.out.1, HZT.out.2]
      exact HF.out
end Go.Proofs.YtamejhhjfnfalaaDoor
