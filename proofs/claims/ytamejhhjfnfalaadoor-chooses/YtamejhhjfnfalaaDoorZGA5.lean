/- Contract of garble's through: labels go from gate to gate. -/
import Derived.Test.YtamejhhjfnfalaaDoorMH
import Derived.Test.YtamejhhjfnfalaaDoorMG
namespace Go.Proofs.YtamejhhjfnfalaaDoor
open Go.RowKit
open Rely (upd)

/-- What holds behind k gates. -/
def Th (w : World) (ws N : Nat) (Ag : Option Addr) (n cg : Nat) (Ao : Option Addr) (m co : Nat) (turn : Lab) (V : Nat → Nat → Lab) (T : Nat → Prop) (Inv : World → Nat → Nat → Prop) (g0 k : Nat) (v : Value) (wr : World) : Prop :=
  ∃ g, Row wr ws 28 2 v (N + k) (lv (V k)) ∧ Inv wr k g ∧ (g = g0 ∨ ws ≤ g) ∧ (∀ q, v.ownBlock = some q → q ≠ g) ∧ Chg (fun q => q = g0 ∨ T q) w wr ∧ circB wr w.heap.size N Ag n cg Ao m co ∧ LbB wr (w.heap.size + 1) turn ∧ ws ≤ wr.heap.size
section
variable {w w3 : World} {ws N : Nat} {Ag : Option Addr} {n cg : Nat} {Ao : Option Addr} {m co : Nat} {turn : Lab} {V : Nat → Nat → Lab} {T : Nat → Prop} {Inv : World → Nat → Nat → Prop} {g0 k g' : Nat} {v : Value} {y : Nat → Nat → Int} {R : Nat → Lab} {K : Nat} {cap : Array Value}
/-- The next wire's label is appended. -/
theorem th_step (hC : Clo K cap n y V R w.heap.size T Inv) (hR : Row w3 ws 28 2 v (N + k) (lv (V k))) (hI : Inv w3 (k + 1) g') (hg' : g' = g0 ∨ ws ≤ g') (hne : ∀ q, v.ownBlock = some q → q ≠ g') (hc : Chg (fun q => q = g0 ∨ T q) w w3) (X0 : circB w3 w.heap.size N Ag n cg Ao m co) (X1 : LbB w3 (w.heap.size + 1) turn) (r : Lab)
    (hV : ∀ q, q < N + k → V k q = V (k + 1) q) (hVn : V (k + 1) (N + k) = r) (hb : N + k + 1 ≤ 100000) (hws : w.heap.size + 1 < ws) (hw3 : ws ≤ w3.heap.size) :
    ∃ g kk w4, (∀ ty, (Builtin.append_ #[29, 29] ty #[v, .slice (some ⟨w3.heap.size, 0, none⟩) 1 1]).run Tryd.prog (w3.alloc (.cells #[.int .u64 (r.1 : Int), .int .u64 (r.2 : Int)] 28)) = .ok (.slice (some ⟨g, 0, none⟩) (N + k + 1) kk) w4) ∧ Th w ws N Ag n cg Ao m co turn V T Inv g0 (k + 1) (.slice (some ⟨g, 0, none⟩) (N + k + 1) kk) w4 := by
  obtain ⟨g, kk, w4, hr, hgB, hR4, hgr, hor⟩ := append_one eltL w3 ws v (N + k) (lv (V k)) (lv fun _ => r) #[.int .u64 (r.1 : Int), .int .u64 (r.2 : Int)] hR (fun j hj => by
    rcases (show j = 0 ∨ j = 1 by omega) with rfl | rfl <;> rfl) (lv_one _) (by omega) (by unfold maxLen; omega) hw3
  have hc4 : Chg (fun q => v.ownBlock = some q) w3 w4 := ((Chg.refl _ w3).alloc (.cells #[.int .u64 (r.1 : Int), .int .u64 (r.2 : Int)] 28)).grown hgr (fun q hq => .inr hq)
  have hown := hR.own
  refine ⟨g, kk, w4, hr, g', hR4.congr (fun q hq => lv_next hV hVn q hq), hC.keep (k + 1) w3 w4 g' _ hI hc4 (fun q hq => ⟨by have := (hown q hq).1; omega, hne q hq⟩), hg', fun q hq => ?_, hc.trans2 hc4 (fun q h1 h2 => by have := (hown q h2).1; omega), X0.chg hc4 (fun h => by have := (hown _ h).1; omega), Blk.chg X1 hc4 (fun h => by have := (hown _ h).1; omega), Nat.le_trans hw3 hc4.size⟩
  obtain rfl : g = q := Option.some.inj hq
  rcases hor with h | h
  · exact hne g h
  · have := hC.lt (k + 1) w3 g' hI
    omega
end
/-- An And's label asked for in a statement whose order is open: b the block that it is stored to, c the call, s the store. -/
structure FC (w1 : World) (b ci s g : Nat) (T : Nat → Prop) (Inv : World → Nat → Nat → Prop) (k : Nat) (r : Lab) (L : Nat → Bool) (w : World) : Prop where
  c : Chg (fun q => q = g ∨ T q ∨ q = b) w1 w
  pre : L ci = false → Inv w k g
  post : L ci = true → ∃ g', Inv w (k + 1) g' ∧ (g' = g ∨ w1.heap.size ≤ g')
  l : LbB w b (if L s then r else (0, 0))
  lt : b < w1.heap.size
theorem FC.same {w1 w : World} {b ci s g : Nat} {T : Nat → Prop} {Inv : World → Nat → Nat → Prop} {k : Nat} {r : Lab} {L : Nat → Bool} (h : FC w1 b ci s g T Inv k r L w) (i : Nat) (h1 : ci ≠ i) (h2 : s ≠ i) : FC w1 b ci s g T Inv k r (upd L i true) w := by
  refine ⟨h.c, ?_, ?_, ?_, h.lt⟩
  · rw [Rely.upd_ne _ _ _ h1]; exact h.pre
  · rw [Rely.upd_ne _ _ _ h1]; exact h.post
  · rw [Rely.upd_ne _ _ _ h2]; exact h.l
theorem FC.call {w1 w w' : World} {b ci s g g' : Nat} {T : Nat → Prop} {Inv : World → Nat → Nat → Prop} {k : Nat} {r : Lab} {L : Nat → Bool} (h : FC w1 b ci s g T Inv k r L w) (hcs : ci ≠ s) (hI : Inv w' (k + 1) g') (hg : g' = g ∨ w.heap.size ≤ g') (hc : Chg (fun q => q = g ∨ T q) w w') (h1 : b ≠ g) (h2 : ¬ T b) : FC w1 b ci s g T Inv k r (upd L ci true) w' := by
  refine ⟨h.c.trans2 hc fun q _ hq => hq.elim .inl fun e => .inr (.inl e), fun e => ?_, fun _ => ⟨g', hI, hg.imp id fun e => Nat.le_trans h.c.size e⟩, ?_, h.lt⟩
  · rw [Rely.upd_at] at e; cases e
  · rw [Rely.upd_ne _ _ _ (fun e => hcs e.symm)]
    exact Blk.chg h.l hc fun e => e.elim h1 h2
theorem FC.put {w1 w : World} {b ci s g : Nat} {T : Nat → Prop} {Inv : World → Nat → Nat → Prop} {k : Nat} {r : Lab} {L : Nat → Bool} (h : FC w1 b ci s g T Inv k r L w) (hcs : ci ≠ s) (hL : L ci = true) (hk : ∀ w g' x, g' ≠ b → Inv w (k + 1) g' → Inv (stL w b x) (k + 1) g') (h1 : b ≠ g) : FC w1 b ci s g T Inv k r (upd L s true) (stL w b r) := by
  obtain ⟨g', hI, hg⟩ := h.post hL
  refine ⟨(h.c.set (p := ⟨b, 0, none⟩) (.inr (.inr (.inr rfl))) _).set (p := ⟨b, 1, none⟩) (.inr (.inr (.inr rfl))) _, fun e => ?_, fun _ => ⟨g', hk w g' r (fun e => ?_) hI, hg⟩, ?_, h.lt⟩
  · rw [Rely.upd_ne _ _ _ hcs, hL] at e; cases e
  · rcases hg with h2 | h2
    · exact h1 (e ▸ h2)
    · have := h.lt; omega
  · rw [Rely.upd_at, if_pos rfl]
    exact LbB.st h.l r
/-- What through leaves: the outs' labels. -/
def ThAns (m : Nat) (L : Nat → Lab) (n g0 : Nat) (T : Nat → Prop) (Inv : World → Nat → Nat → Prop) (w : World) (e : Ending) (w' : World) : Prop :=
  ∃ go g', e = .returned (.slice (some ⟨go, 0, none⟩) m m) ∧ w.heap.size ≤ go ∧ Row w' w.heap.size 28 2 (.slice (some ⟨go, 0, none⟩) m m) m (lv L) ∧ Inv w' n g' ∧ (g' = g0 ∨ w.heap.size ≤ g') ∧ Chg (fun q => q = g0 ∨ T q) w w'
set_option maxHeartbeats 16000000 in
set_option maxRecDepth 100000 in
theorem through_any (w : World) (N : Nat) (Ag : Option Addr) (n cg : Nat) (y : Nat → Nat → Int) (Ao : Option Addr) (m co : Nat) (o : Nat → Int) (Az : Option Addr) (cz : Nat) (zin : Nat → Lab) (turn : Lab) (K : Nat) (cap : Array Value) (V : Nat → Nat → Lab) (R : Nat → Lab) (T : Nat → Prop) (Inv : World → Nat → Nat → Prop) (g0 : Nat)
    (hg : AtV w Ag (n * 3) (gv y)) (ho : AtV w Ao m (iv o)) (hz : AtV w Az (N * 2) (lv zin)) (hz0 : Az = none → N = 0 ∧ cz = 0) (hG : Circ.Good N n y m o) (hC : Clo K cap n y V R w.heap.size T Inv) (hI : Inv w 0 g0)
    (hV0 : ∀ q, q < N → zin q = V 0 q) (hVs : ∀ k, k < n → ∀ q, V (k + 1) q = if q = N + k then (if y k 0 = 1 then Garb.nadd (V k (y k 1).toNat) (V k (y k 2).toNat) else if y k 0 = 2 then R k else Garb.nadd (V k (y k 1).toNat) turn) else V k q) (hW : ∀ k q, Garb.Wd (V k q)) (ht : Garb.Wd turn)
    (sg : ∀ ad, Ag = some ad → 0 < n * 3 → ¬ (ad.block = g0 ∨ T ad.block)) (so : ∀ ad, Ao = some ad → 0 < m → ¬ (ad.block = g0 ∨ T ad.block)) :
    Calls Tryd.prog 40 #[circV N Ag n cg Ao m co, .slice Az N cz, labL turn, .func (.func K) #[] cap] w (ThAns m (fun i => V n (o i).toNat) n g0 T Inv w) := by
  have hN := hG.n1
  have hn := hG.g
  have hm := hG.u
  have HG := Lib.hid hG
  have HN := Lib.hid (show N ≤ 4096 ∧ n ≤ 4096 ∧ m ≤ 64 by omega)
  obtain ⟨C, hCn⟩ : ∃ C, N + n = C := ⟨_, rfl⟩
  have e0 : IntKind.i64.wrap ((N : Int) + (n : Int)) = (C : Int) := by rw [i64_nat _ (by omega) (by omega)]; omega
  have X0 := Blk.new w 25 #[.int .i64 (N : Int), .slice Ag n cg, .slice Ao m co]
  have b0 := (Below.refl w.heap.size w).alloc (Nat.le_refl _) (.cells #[.int .i64 (N : Int), .slice Ag n cg, .slice Ao m co] 25)
  have X1 := Blk.new (w.alloc (.cells #[.int .i64 (N : Int), .slice Ag n cg, .slice Ao m co] 25)) 28 #[.int .u64 (turn.1 : Int), .int .u64 (turn.2 : Int)]
  have b1 := b0.alloc b0.size (.cells #[.int .u64 (turn.1 : Int), .int .u64 (turn.2 : Int)] 28)
  simp only [World.size_alloc] at X1
  have Y0 := X0.alloc (.cells #[.int .u64 (turn.1 : Int), .int .u64 (turn.2 : Int)] 28)
  have hs1 : ((w.alloc (.cells #[.int .i64 (N : Int), .slice Ag n cg, .slice Ao m co] 25)).alloc (.cells #[.int .u64 (turn.1 : Int), .int .u64 (turn.2 : Int)] 28)).heap.size = w.heap.size + 1 + 1 := by simp
  obtain ⟨w1, hw1⟩ : ∃ x, ((w.alloc (.cells #[.int .i64 (N : Int), .slice Ag n cg, .slice Ao m co] 25)).alloc (.cells #[.int .u64 (turn.1 : Int), .int .u64 (turn.2 : Int)] 28)) = x := ⟨_, rfl⟩
  rw [hw1] at b1 X1 Y0 hs1
  have c1 := Y0.cell 1 (v := .slice Ag n cg) rfl
  have hmk := run_makeL w1 N C (by omega) (by omega)
  have hR2 := made_labs w1 N C (by omega) (by unfold maxLen; omega)
  have hb2 : Below w1.heap.size w1 (w1.alloc (.cells (madeCells #[Value.int .u64 0, Value.int .u64 0] (C * 2)) 28)) := (Below.refl _ _).alloc (Nat.le_refl _) _
  obtain ⟨kc, w3, hcp, hR3, hc3⟩ := copy_labs _ w1.heap.size w1.heap.size N C _ Az cz zin hR2 ((hz.below b1).below hb2) hz0
  have hb3 : Below w1.heap.size w1 w3 := hb2.trans (hc3.below (by simp) fun k e => by omega)
  have Z0 := Y0.below hb3 Y0.lt
  have Z1 := Blk.below X1 hb3 (Blk.lt X1)
  have d1 := Z0.cell 1 (v := .slice Ag n cg) rfl
  have hb03 := b1.trans (hb3.mono b1.size)
  have hI3 := hC.keep 0 w w3 g0 (fun _ => False) hI (Chg.ofBelow hb03) (fun q h => h.elim)
  rw [hs1] at hmk hR3 hcp hb3
  obtain ⟨ws, hws⟩ : ∃ x, w.heap.size + 1 + 1 = x := ⟨_, rfl⟩
  rw [hws] at hmk hcp
  have hg0 := hC.lt 0 w g0 hI
  have HTh := Lib.hid (show Th w ws N Ag n cg Ao m co turn V T Inv g0 0 (.slice (some ⟨ws, 0, none⟩) N C) w3 from ⟨g0, by rw [← hws]; exact hR3.congr (lv_congr hV0), hI3, .inl rfl, fun q hq => by
    obtain rfl : ws = q := Option.some.inj hq
    omega, Chg.ofBelow hb03, Z0, Z1, by have := hb3.size; omega⟩)
  have HWs := Lib.hid (show w.heap.size + 1 < ws ∧ ws ≤ w3.heap.size ∧ g0 < w.heap.size by have := hb3.size; omega)
  have HA := Lib.hid (And.intro hg (And.intro ho (And.intro sg so)))
  have HC := Lib.hid (And.intro hC (And.intro hVs (And.intro hW ht)))
  clear hg ho hz hz0 hG hI hV0 hVs hW ht sg so hN hn hm X0 X1 b0 b1 Y0 hR2 hb2 hR3 hc3 hb3 Z0 Z1 hb03 hI3 hg0 hCn
  subst hw1
  go_enter Tryd.func40, Tryd.ntmps40
  go_wp2
  clear c1 d1 hmk hcp e0 hs1 hws
  go_loopw [9, 31] (fun v' i wr => ∃ k : Nat, ∃ v, k ≤ n ∧ v = v' ∧ i = .int .i64 k ∧ Hid (Th w ws N Ag n cg Ao m co turn V T Inv g0 k v wr)) (fun _ i _ => n - (intOf i).toNat)
  case atStart => exact ⟨0, _, Nat.zero_le _, rfl, rfl, HTh.out⟩
  case round =>
    clear HTh
    obtain ⟨k, v, hk, rfl, rfl, HI⟩ := hrel
    by_cases hlt2 : k < n
    · obtain ⟨g, hR, hI, hgg, hne, hc, Z0, Z1, hwr⟩ := HI.out
      obtain ⟨ad, rfl, ae, hae, g0c, g1c, g2c, hbk⟩ := (HA.out.1.chg hc HA.out.2.2.1).gate k hlt2
      obtain ⟨a, ha, b, hb, hab⟩ : ∃ a : Nat, y k 1 = (a : Int) ∧ ∃ b : Nat, y k 2 = (b : Int) ∧ a < N + k ∧ (y k 0 = 1 ∨ y k 0 = 2 → b < N + k) ∧ (y k 0 = 1 ∨ y k 0 = 2 ∨ y k 0 = 3) := by
        rcases HG.out.fit k hlt2 with ⟨h0, h⟩ | ⟨h0, h⟩
        · exact ⟨(y k 1).toNat, by omega, (y k 2).toNat, by omega, by omega, by omega, by omega⟩
        · exact ⟨(y k 1).toNat, by omega, (y k 2).toNat, by omega, by omega, by omega, by omega⟩
      rw [ha] at g1c
      rw [hb] at g2c
      have lt1 : (k : Int) < (n : Int) := by omega
      have lt0 : (0 : Int) ≤ (k : Int) := by omega
      have e1 : IntKind.i64.wrap ((k : Int) + 1) = (k : Int) + 1 := i64_nat _ (by omega) (by have := HN.out; omega)
      have GA := Blk.new wr 84 #[.int .i64 (y k 0), .int .i64 (a : Int), .int .i64 (b : Int)]
      have q0 := (GA.alloc zeroL).cell 0 (v := .int .i64 (y k 0)) rfl
      have WB := Blk.new (wr.alloc (.cells #[.int .i64 (y k 0), .int .i64 (a : Int), .int .i64 (b : Int)] 84)) 28 #[.int .u64 0, .int .u64 0]
      simp only [World.size_alloc] at WB
      have hb2 := ((Below.refl wr.heap.size wr).alloc (Nat.le_refl _) (.cells #[.int .i64 (y k 0), .int .i64 (a : Int), .int .i64 (b : Int)] 84)).alloc (by simp) zeroL
      obtain ⟨Aw, cw, rfl, _, _, _, _, _, _⟩ := hR.read
      have hws0 := HWs.out
      have hown := hR.own
      have hgl := HC.out.1.lt k wr g hI
      have hcw := hc.size
      have hsz2 : wr.heap.size + 1 < ((wr.alloc (.cells #[.int .i64 (y k 0), .int .i64 (a : Int), .int .i64 (b : Int)] 84)).alloc zeroL).heap.size := by simp
      have HLt := Lib.hid hlt2
      have HWr := Lib.hid (show ws ≤ wr.heap.size from hwr)
      have H2 := Lib.hid (And.intro (GA.alloc zeroL) (And.intro (show LbB _ (wr.heap.size + 1) (0, 0) from WB) (And.intro (hR.below hb2) (And.intro (HC.out.1.keep k _ _ g (fun _ => False) hI (Chg.ofBelow hb2) (fun q h => h.elim)) (And.intro (hc.trans2 (Chg.ofBelow (S := fun _ => False) hb2) (fun q _ h => h.elim)) (And.intro (Z0.below hb2 Z0.lt) (And.intro (Blk.below Z1 hb2 (Blk.lt Z1)) hsz2)))))))
      have HO := Lib.hid (show (∀ q, (Value.slice Aw (N + k) cw).ownBlock = some q → ws ≤ q ∧ q < wr.heap.size ∧ q ≠ g) ∧ (g = g0 ∨ ws ≤ g) ∧ g < wr.heap.size ∧ w.heap.size + 1 < wr.heap.size from ⟨fun q hq => ⟨(hown q hq).1, (hown q hq).2.1, hne q hq⟩, hgg, hgl, by have := Blk.lt Z1; omega⟩)
      have HAB := Lib.hid (And.intro ha (And.intro hb (And.intro hab.1 hab.2.1)))
      have HV := Lib.hid (show (∀ q, q < N + k → V k q = V (k + 1) q) ∧ V (k + 1) (N + k) = (if y k 0 = 1 then Garb.nadd (V k a) (V k b) else if y k 0 = 2 then R k else Garb.nadd (V k a) turn) from ⟨fun q hq => by rw [HC.out.2.1 k hlt2 q, if_neg (by omega)], by rw [HC.out.2.1 k hlt2 (N + k), if_pos rfl, ha, hb, Int.toNat_natCast, Int.toNat_natCast]⟩)
      have hkd := hab.2.2
      clear HI hR hI hgg hne hc Z0 Z1 hwr GA WB hb2 hws0 hown hgl hcw hsz2 hlt2 ha hb hab hbk
      by_cases h1 : y k 0 = 1
      · have n1 : (y k 0 == 1) = true := by rw [h1]; rfl
        have HVn := Lib.hid (show V (k + 1) (N + k) = Garb.nadd (V k a) (V k b) by rw [HV.out.2, if_pos h1])
        have HB := Lib.hid (HAB.out.2.2.2 (.inl h1))
        have HS := Lib.hid (show y k 0 ≠ 2 by omega)
        clear h1 hkd
        go_wp2
        clear q0 g0c g1c g2c n1
        generalize ((wr.alloc (.cells #[.int .i64 (y k 0), .int .i64 (a : Int), .int .i64 (b : Int)] 84)).alloc zeroL) = w2 at *
        obtain ⟨awa, e9, aea, haea, _, _, _⟩ := (show AtV w2 Aw ((N + k) * 2) (lv (V k)) by
          obtain ⟨Az1, cz1, z0, _, _, _, hAt, _, _⟩ := H2.out.2.2.1.read
          injection z0 with z1 _ _
          rw [z1]; exact hAt).lab a HAB.out.2.2.1
        subst e9
        obtain ⟨awb, e9, aeb, haeb, _, _, _⟩ := (show AtV w2 (some awa) ((N + k) * 2) (lv (V k)) by
          obtain ⟨Az1, cz1, z0, _, _, _, hAt, _, _⟩ := H2.out.2.2.1.read
          injection z0 with z1 _ _
          rw [z1]; exact hAt).lab b HB.out
        obtain rfl := Option.some.inj e9
        obtain ⟨r, hre⟩ : ∃ r, Garb.nadd (V k a) (V k b) = r := ⟨_, rfl⟩
        have HVr := Lib.hid (show V (k + 1) (N + k) = r by rw [HVn.out, hre])
        have HE := Lib.hid hre
        have HL2 := Lib.hid (show ws ≤ w2.heap.size by have := H2.out.2.2.2.2.2.2.2; have := HWr.out; omega)
        clear hre
        refine Rely.region (G := Nat) (vs := [fun _ => .slice (some awa) (N + k) cw, fun _ => .pointer (some ⟨wr.heap.size, 1, none⟩), fun _ => .int .i64 (a : Int), fun _ => .pointer (some aea), fun _ => labL (V k a), fun _ => .slice (some awa) (N + k) cw, fun _ => .pointer (some ⟨wr.heap.size, 2, none⟩), fun _ => .int .i64 (b : Int), fun _ => .pointer (some aeb), fun _ => labL (V k b), fun _ => labL r, fun _ => undef]) (F := fun L _ w' => FO w2 (wr.heap.size + 1) 11 r (0, 0) L w') (by kernel_rfl) (by kernel_rfl) rfl (fun _ => 0) (FO.start w2 _ (drew_below w2) H2.out.2.1) ?hsteps ?hend
        case hsteps =>
          refine Rely.Steps.cons (fun L γ ev wv hL hE hF hC hCf hO hV => ?_) ?_
          · clear hL
            have v9 : ev (.tmp 9) = .slice (some awa) (N + k) cw := (hO 9 (by kernel_rfl)).trans rfl
            clear hE hO hV
            exact Rely.Good.value 0 (u := .slice (some awa) (N + k) cw) (by go_simp) (fun _ _ => rfl) (hF.same 0 (by decide))
          refine Rely.Steps.cons (fun L γ ev wv hL hE hF hC hCf hO hV => ?_) ?_
          · clear hL
            have v11 : ev (.tmp 11) = .pointer (some ⟨wr.heap.size, 0, none⟩) := (hO 11 (by kernel_rfl)).trans rfl
            clear hE hO hV
            exact Rely.Good.value 0 (u := .pointer (some ⟨wr.heap.size, 1, none⟩)) (by go_simp) (fun _ _ => rfl) (hF.same 1 (by decide))
          refine Rely.Steps.cons (fun L γ ev wv hL hE hF hC hCf hO hV => ?_) ?_
          · clear hL
            have hL1 : L 1 = true := hE _ (Array.mem_of_getElem? (i := 0) rfl) rfl
            have v40 : ev (.tmp 40) = .pointer (some ⟨wr.heap.size, 1, none⟩) := hV 1 40 hL1 rfl
            clear hE hO hV
            have hX := H2.out.1.chg hF.c (by omega)
            have q0 := hX.cell 1 rfl
            have HF := Lib.hid hF
            clear hX hF
            exact Rely.Good.value 0 (u := .int .i64 (a : Int)) (by go_simp) (fun _ _ => rfl) (HF.out.same 2 (by decide))
          refine Rely.Steps.cons (fun L γ ev wv hL hE hF hC hCf hO hV => ?_) ?_
          · clear hL
            have hL0 : L 0 = true := hE _ (Array.mem_of_getElem? (i := 0) rfl) rfl
            have v39 : ev (.tmp 39) = .slice (some awa) (N + k) cw := hV 0 39 hL0 rfl
            have hL2 : L 2 = true := hE _ (Array.mem_of_getElem? (i := 1) rfl) rfl
            have v41 : ev (.tmp 41) = .int .i64 (a : Int) := hV 2 41 hL2 rfl
            clear hE hO hV
            have HF := Lib.hid hF
            clear hF
            have la1 : (a : Int) < (N : Int) + (k : Int) := by have := HAB.out.2.2.1; omega
            have la0 : (0 : Int) ≤ (a : Int) := by omega
            exact Rely.Good.value 0 (u := .pointer (some aea)) (by go_simp) (fun _ _ => rfl) (HF.out.same 3 (by decide))
          refine Rely.Steps.cons (fun L γ ev wv hL hE hF hC hCf hO hV => ?_) ?_
          · clear hL
            have hL3 : L 3 = true := hE _ (Array.mem_of_getElem? (i := 0) rfl) rfl
            have v42 : ev (.tmp 42) = .pointer (some aea) := hV 3 42 hL3 rfl
            clear hE hO hV
            have hA := H2.out.2.2.1.chg hF.c (fun q hq e => by have := (HO.out.1 q hq).2.1; omega)
            obtain ⟨Az1, cz1, z0, _, _, _, hAt, _, _⟩ := hA.read
            injection z0 with z1 _ _
            subst z1
            obtain ⟨ad1, z1, ae1, z2, q0, q1, z3⟩ := hAt.lab a HAB.out.2.2.1
            cases z1
            rw [haea] at z2
            subst z2
            have HF := Lib.hid hF
            clear hF hA hAt z3
            exact Rely.Good.value 0 (u := labL (V k a)) (by go_simp) (fun _ _ => rfl) (HF.out.same 4 (by decide))
          refine Rely.Steps.cons (fun L γ ev wv hL hE hF hC hCf hO hV => ?_) ?_
          · clear hL
            have v9 : ev (.tmp 9) = .slice (some awa) (N + k) cw := (hO 9 (by kernel_rfl)).trans rfl
            clear hE hO hV
            exact Rely.Good.value 0 (u := .slice (some awa) (N + k) cw) (by go_simp) (fun _ _ => rfl) (hF.same 5 (by decide))
          refine Rely.Steps.cons (fun L γ ev wv hL hE hF hC hCf hO hV => ?_) ?_
          · clear hL
            have v11 : ev (.tmp 11) = .pointer (some ⟨wr.heap.size, 0, none⟩) := (hO 11 (by kernel_rfl)).trans rfl
            clear hE hO hV
            exact Rely.Good.value 0 (u := .pointer (some ⟨wr.heap.size, 2, none⟩)) (by go_simp) (fun _ _ => rfl) (hF.same 6 (by decide))
          refine Rely.Steps.cons (fun L γ ev wv hL hE hF hC hCf hO hV => ?_) ?_
          · clear hL
            have hL6 : L 6 = true := hE _ (Array.mem_of_getElem? (i := 0) rfl) rfl
            have v45 : ev (.tmp 45) = .pointer (some ⟨wr.heap.size, 2, none⟩) := hV 6 45 hL6 rfl
            clear hE hO hV
            have hX := H2.out.1.chg hF.c (by omega)
            have q0 := hX.cell 2 rfl
            have HF := Lib.hid hF
            clear hX hF
            exact Rely.Good.value 0 (u := .int .i64 (b : Int)) (by go_simp) (fun _ _ => rfl) (HF.out.same 7 (by decide))
          refine Rely.Steps.cons (fun L γ ev wv hL hE hF hC hCf hO hV => ?_) ?_
          · clear hL
            have hL5 : L 5 = true := hE _ (Array.mem_of_getElem? (i := 0) rfl) rfl
            have v44 : ev (.tmp 44) = .slice (some awa) (N + k) cw := hV 5 44 hL5 rfl
            have hL7 : L 7 = true := hE _ (Array.mem_of_getElem? (i := 1) rfl) rfl
            have v46 : ev (.tmp 46) = .int .i64 (b : Int) := hV 7 46 hL7 rfl
            clear hE hO hV
            have HF := Lib.hid hF
            clear hF
            have la1 : (b : Int) < (N : Int) + (k : Int) := by have := HB.out; omega
            have la0 : (0 : Int) ≤ (b : Int) := by omega
            exact Rely.Good.value 0 (u := .pointer (some aeb)) (by go_simp) (fun _ _ => rfl) (HF.out.same 8 (by decide))
          refine Rely.Steps.cons (fun L γ ev wv hL hE hF hC hCf hO hV => ?_) ?_
          · clear hL
            have hL8 : L 8 = true := hE _ (Array.mem_of_getElem? (i := 0) rfl) rfl
            have v47 : ev (.tmp 47) = .pointer (some aeb) := hV 8 47 hL8 rfl
            clear hE hO hV
            have hA := H2.out.2.2.1.chg hF.c (fun q hq e => by have := (HO.out.1 q hq).2.1; omega)
            obtain ⟨Az1, cz1, z0, _, _, _, hAt, _, _⟩ := hA.read
            injection z0 with z1 _ _
            subst z1
            obtain ⟨ad1, z1, ae1, z2, q0, q1, z3⟩ := hAt.lab b HB.out
            cases z1
            rw [haeb] at z2
            subst z2
            have HF := Lib.hid hF
            clear hF hA hAt z3
            exact Rely.Good.value 0 (u := labL (V k b)) (by go_simp) (fun _ _ => rfl) (HF.out.same 9 (by decide))
          refine Rely.Steps.cons (fun L γ ev wv hL hE hF hC hCf hO hV => ?_) ?_
          · clear hL
            have hL4 : L 4 = true := hE _ (Array.mem_of_getElem? (i := 0) rfl) rfl
            have v43 : ev (.tmp 43) = labL (V k a) := hV 4 43 hL4 rfl
            have hL9 : L 9 = true := hE _ (Array.mem_of_getElem? (i := 1) rfl) rfl
            have v48 : ev (.tmp 48) = labL (V k b) := hV 9 48 hL9 rfl
            clear hE hO hV
            have HF := Lib.hid hF
            clear hF
            exact Rely.Good.enter (f := 43) (args := #[labL (V k a), labL (V k b)]) (by go_simp) ((xor_lab (V k a) (V k b) wv (HC.out.2.2.1 k a) (HC.out.2.2.1 k b)).mono fun e w2 hc => ⟨0, _, hc.1, fun _ _ => by rw [show Garb.nadd (V k a) (V k b) = r from HE.out]; rfl, HF.out.val 10 (by decide) hc.2⟩)
          refine Rely.Steps.cons (fun L γ ev wv hL hE hF hC hCf hO hV => ?_) ?_
          · clear hL
            have v12 : ev (.tmp 12) = .pointer (some ⟨wr.heap.size + 1, 0, none⟩) := (hO 12 (by kernel_rfl)).trans rfl
            have hL10 : L 10 = true := hE _ (Array.mem_of_getElem? (i := 0) rfl) rfl
            have v49 : ev (.tmp 49) = labL r := hV 10 49 hL10 rfl
            clear hE hO hV
            have hX := hF.l
            have HF := Lib.hid hF
            obtain ⟨y0, hy⟩ : ∃ y, (if L 11 = true then r else ((0, 0) : Lab)) = y := ⟨_, rfl⟩
            rw [hy] at hX
            clear hy hF
            have q0 := Blk.cell hX 0 rfl
            have q1 := Blk.cell hX 1 rfl
            have qf := Blk.frozen hX
            clear hX
            exact Rely.Good.skip 0 (w' := stL wv (wr.heap.size + 1) r) (by go_simp) rfl HF.out.put
          exact Rely.Steps.nil
        case hend =>
          intro γ w5 hF
          have hl : LbB w5 (wr.heap.size + 1) r := hF.l
          have hX := H2.out
          have hR5 := hX.2.2.1.chg hF.c (fun q hq e => by have := (HO.out.1 q hq).2.1; omega)
          have hI5 := HC.out.1.skip k _ g HLt.out HS.out (HC.out.1.keep k _ _ g (fun q => q = wr.heap.size + 1) hX.2.2.2.1 hF.c (fun q e => by have := HO.out; omega))
          have hg5 : g = g0 ∨ ws ≤ g := HO.out.2.1
          have hne5 : ∀ q, (Value.slice (some awa) (N + k) cw).ownBlock = some q → q ≠ g := fun q hq => (HO.out.1 q hq).2.2
          have hc5 := hX.2.2.2.2.1.trans2 hF.c (fun q h1 h2 => by have := HO.out.2.2.2; omega)
          have hZ0 := hX.2.2.2.2.2.1.chg hF.c (by have := HO.out.2.2.2; omega)
          have hZ1 := Blk.chg hX.2.2.2.2.2.2.1 hF.c (by have := HO.out.2.2.2; omega)
          have hs5 : ws ≤ w5.heap.size := by have := Blk.lt hl; have := HO.out; have := HWs.out; have := hF.c.size; have := hX.2.2.1; have := HL2.out; omega
          obtain ⟨gn, kk, w6, hr, hTh⟩ := th_step (w := w) (v := .slice (some awa) (N + k) cw) HC.out.1 hR5 hI5 hg5 hne5 hc5 hZ0 hZ1 r HV.out.1 HVr.out (by have := HN.out; have := HLt.out; omega) HWs.out.1 (by have := hs5; omega)
          have HR := Lib.hid hr
          have HF := Lib.hid hTh
          have q0 := Blk.cell hl 0 rfl
          have q1 := Blk.cell hl 1 rfl
          clear hF hl hX hR5 hI5 hg5 hne5 hc5 hZ0 hZ1 hr hTh hs5 H2
          simp only [Rely.fin, Act.put, List.setIfInBounds_toArray, List.set_cons_zero, List.set_cons_succ]
          go_wp2_with (at_builtin; refine wpList_append_run rfl _ _ 29 rfl (.slice (some awa) (N + k) cw) (.slice (some ⟨w5.heap.size, 0, none⟩) 1 1) (.slice (some ⟨gn, 0, none⟩) (N + k + 1) kk) w6 rfl rfl (HR.out _) ?_)
          go_roundw
          case rel => exact ⟨k + 1, _, by have := HLt.out; omega, rfl, by go_num, HF.out⟩
          case measure => simp [intOf]; have := HLt.out; omega
      · have n1 : (y k 0 == 1) = false := by simpa using h1
        by_cases h2 : y k 0 = 2
        · have n2 : (y k 0 == 2) = true := by rw [h2]; rfl
          have HVn := Lib.hid (show V (k + 1) (N + k) = R k by rw [HV.out.2, if_neg h1, if_pos h2])
          have HB := Lib.hid (HAB.out.2.2.2 (.inr h2))
          have HS := Lib.hid h2
          clear h1 h2 hkd
          go_wp2
          clear q0 g0c g1c g2c n1 n2
          generalize ((wr.alloc (.cells #[.int .i64 (y k 0), .int .i64 (a : Int), .int .i64 (b : Int)] 84)).alloc zeroL) = w2 at *
          obtain ⟨awa, e9, aea, haea, _, _, _⟩ := (show AtV w2 Aw ((N + k) * 2) (lv (V k)) by
            obtain ⟨Az1, cz1, z0, _, _, _, hAt, _, _⟩ := H2.out.2.2.1.read
            injection z0 with z1 _ _
            rw [z1]; exact hAt).lab a HAB.out.2.2.1
          subst e9
          obtain ⟨awb, e9, aeb, haeb, _, _, _⟩ := (show AtV w2 (some awa) ((N + k) * 2) (lv (V k)) by
            obtain ⟨Az1, cz1, z0, _, _, _, hAt, _, _⟩ := H2.out.2.2.1.read
            injection z0 with z1 _ _
            rw [z1]; exact hAt).lab b HB.out
          obtain rfl := Option.some.inj e9
          obtain ⟨r, hre⟩ : ∃ r, R k = r := ⟨_, rfl⟩
          have HVr := Lib.hid (show V (k + 1) (N + k) = r by rw [HVn.out, hre])
          have HE := Lib.hid hre
          have HL2 := Lib.hid (show ws ≤ w2.heap.size by have := H2.out.2.2.2.2.2.2.2; have := HWr.out; omega)
          clear hre
          refine Rely.region (G := Nat) (vs := [fun _ => .func (.func K) #[] cap, fun _ => .slice (some awa) (N + k) cw, fun _ => .pointer (some ⟨wr.heap.size, 1, none⟩), fun _ => .int .i64 (a : Int), fun _ => .pointer (some aea), fun _ => labL (V k a), fun _ => .slice (some awa) (N + k) cw, fun _ => .pointer (some ⟨wr.heap.size, 2, none⟩), fun _ => .int .i64 (b : Int), fun _ => .pointer (some aeb), fun _ => labL (V k b), fun _ => labL r, fun _ => undef]) (F := fun L _ w' => FC w2 (wr.heap.size + 1) 11 12 g T Inv k r L w') (by kernel_rfl) (by kernel_rfl) rfl (fun _ => 0) (⟨Chg.ofBelow (drew_below w2), fun _ => HC.out.1.keep k _ _ g (fun _ => False) H2.out.2.2.2.1 (Chg.ofBelow (drew_below w2)) (fun q h => h.elim), fun h => by simp at h, Blk.below H2.out.2.1 (drew_below w2) (Blk.lt H2.out.2.1), Blk.lt H2.out.2.1⟩) ?hsteps ?hend
          case hsteps =>
            refine Rely.Steps.cons (fun L γ ev wv hL hE hF hC hCf hO hV => ?_) ?_
            · clear hL
              have v3 : ev (.tmp 3) = .func (.func K) #[] cap := (hO 3 (by kernel_rfl)).trans rfl
              clear hE hO hV
              exact Rely.Good.value 0 (u := .func (.func K) #[] cap) (by go_simp) (fun _ _ => rfl) (hF.same 0 (by decide) (by decide))
            refine Rely.Steps.cons (fun L γ ev wv hL hE hF hC hCf hO hV => ?_) ?_
            · clear hL
              have v9 : ev (.tmp 9) = .slice (some awa) (N + k) cw := (hO 9 (by kernel_rfl)).trans rfl
              clear hE hO hV
              exact Rely.Good.value 0 (u := .slice (some awa) (N + k) cw) (by go_simp) (fun _ _ => rfl) (hF.same 1 (by decide) (by decide))
            refine Rely.Steps.cons (fun L γ ev wv hL hE hF hC hCf hO hV => ?_) ?_
            · clear hL
              have v11 : ev (.tmp 11) = .pointer (some ⟨wr.heap.size, 0, none⟩) := (hO 11 (by kernel_rfl)).trans rfl
              clear hE hO hV
              exact Rely.Good.value 0 (u := .pointer (some ⟨wr.heap.size, 1, none⟩)) (by go_simp) (fun _ _ => rfl) (hF.same 2 (by decide) (by decide))
            refine Rely.Steps.cons (fun L γ ev wv hL hE hF hC hCf hO hV => ?_) ?_
            · clear hL
              have hL2 : L 2 = true := hE _ (Array.mem_of_getElem? (i := 0) rfl) rfl
              have v54 : ev (.tmp 54) = .pointer (some ⟨wr.heap.size, 1, none⟩) := hV 2 54 hL2 rfl
              clear hE hO hV
              have hX := H2.out.1.chg hF.c (fun h => by have := HO.out; rcases h with h | h | h; omega; have := HC.out.1.low _ h; omega; omega)
              have q0 := hX.cell 1 rfl
              have HF := Lib.hid hF
              clear hX hF
              exact Rely.Good.value 0 (u := .int .i64 (a : Int)) (by go_simp) (fun _ _ => rfl) (HF.out.same 3 (by decide) (by decide))
            refine Rely.Steps.cons (fun L γ ev wv hL hE hF hC hCf hO hV => ?_) ?_
            · clear hL
              have hL1 : L 1 = true := hE _ (Array.mem_of_getElem? (i := 0) rfl) rfl
              have v53 : ev (.tmp 53) = .slice (some awa) (N + k) cw := hV 1 53 hL1 rfl
              have hL3 : L 3 = true := hE _ (Array.mem_of_getElem? (i := 1) rfl) rfl
              have v55 : ev (.tmp 55) = .int .i64 (a : Int) := hV 3 55 hL3 rfl
              clear hE hO hV
              have HF := Lib.hid hF
              clear hF
              have la1 : (a : Int) < (N : Int) + (k : Int) := by have := HAB.out.2.2.1; omega
              have la0 : (0 : Int) ≤ (a : Int) := by omega
              exact Rely.Good.value 0 (u := .pointer (some aea)) (by go_simp) (fun _ _ => rfl) (HF.out.same 4 (by decide) (by decide))
            refine Rely.Steps.cons (fun L γ ev wv hL hE hF hC hCf hO hV => ?_) ?_
            · clear hL
              have hL4 : L 4 = true := hE _ (Array.mem_of_getElem? (i := 0) rfl) rfl
              have v56 : ev (.tmp 56) = .pointer (some aea) := hV 4 56 hL4 rfl
              clear hE hO hV
              have hA := H2.out.2.2.1.chg hF.c (fun q hq h => by have h1 := HO.out.1 q hq; rcases h with h | h | h; exact h1.2.2 h; have := HC.out.1.low _ h; have := HWs.out; omega; omega)
              obtain ⟨Az1, cz1, z0, _, _, _, hAt, _, _⟩ := hA.read
              injection z0 with z1 _ _
              subst z1
              obtain ⟨ad1, z1, ae1, z2, q0, q1, z3⟩ := hAt.lab a HAB.out.2.2.1
              cases z1
              rw [haea] at z2
              subst z2
              have HF := Lib.hid hF
              clear hF hA hAt z3
              exact Rely.Good.value 0 (u := labL (V k a)) (by go_simp) (fun _ _ => rfl) (HF.out.same 5 (by decide) (by decide))
            refine Rely.Steps.cons (fun L γ ev wv hL hE hF hC hCf hO hV => ?_) ?_
            · clear hL
              have v9 : ev (.tmp 9) = .slice (some awa) (N + k) cw := (hO 9 (by kernel_rfl)).trans rfl
              clear hE hO hV
              exact Rely.Good.value 0 (u := .slice (some awa) (N + k) cw) (by go_simp) (fun _ _ => rfl) (hF.same 6 (by decide) (by decide))
            refine Rely.Steps.cons (fun L γ ev wv hL hE hF hC hCf hO hV => ?_) ?_
            · clear hL
              have v11 : ev (.tmp 11) = .pointer (some ⟨wr.heap.size, 0, none⟩) := (hO 11 (by kernel_rfl)).trans rfl
              clear hE hO hV
              exact Rely.Good.value 0 (u := .pointer (some ⟨wr.heap.size, 2, none⟩)) (by go_simp) (fun _ _ => rfl) (hF.same 7 (by decide) (by decide))
            refine Rely.Steps.cons (fun L γ ev wv hL hE hF hC hCf hO hV => ?_) ?_
            · clear hL
              have hL7 : L 7 = true := hE _ (Array.mem_of_getElem? (i := 0) rfl) rfl
              have v59 : ev (.tmp 59) = .pointer (some ⟨wr.heap.size, 2, none⟩) := hV 7 59 hL7 rfl
              clear hE hO hV
              have hX := H2.out.1.chg hF.c (fun h => by have := HO.out; rcases h with h | h | h; omega; have := HC.out.1.low _ h; omega; omega)
              have q0 := hX.cell 2 rfl
              have HF := Lib.hid hF
              clear hX hF
              exact Rely.Good.value 0 (u := .int .i64 (b : Int)) (by go_simp) (fun _ _ => rfl) (HF.out.same 8 (by decide) (by decide))
            refine Rely.Steps.cons (fun L γ ev wv hL hE hF hC hCf hO hV => ?_) ?_
            · clear hL
              have hL6 : L 6 = true := hE _ (Array.mem_of_getElem? (i := 0) rfl) rfl
              have v58 : ev (.tmp 58) = .slice (some awa) (N + k) cw := hV 6 58 hL6 rfl
              have hL8 : L 8 = true := hE _ (Array.mem_of_getElem? (i := 1) rfl) rfl
              have v60 : ev (.tmp 60) = .int .i64 (b : Int) := hV 8 60 hL8 rfl
              clear hE hO hV
              have HF := Lib.hid hF
              clear hF
              have la1 : (b : Int) < (N : Int) + (k : Int) := by have := HB.out; omega
              have la0 : (0 : Int) ≤ (b : Int) := by omega
              exact Rely.Good.value 0 (u := .pointer (some aeb)) (by go_simp) (fun _ _ => rfl) (HF.out.same 9 (by decide) (by decide))
            refine Rely.Steps.cons (fun L γ ev wv hL hE hF hC hCf hO hV => ?_) ?_
            · clear hL
              have hL9 : L 9 = true := hE _ (Array.mem_of_getElem? (i := 0) rfl) rfl
              have v61 : ev (.tmp 61) = .pointer (some aeb) := hV 9 61 hL9 rfl
              clear hE hO hV
              have hA := H2.out.2.2.1.chg hF.c (fun q hq h => by have h1 := HO.out.1 q hq; rcases h with h | h | h; exact h1.2.2 h; have := HC.out.1.low _ h; have := HWs.out; omega; omega)
              obtain ⟨Az1, cz1, z0, _, _, _, hAt, _, _⟩ := hA.read
              injection z0 with z1 _ _
              subst z1
              obtain ⟨ad1, z1, ae1, z2, q0, q1, z3⟩ := hAt.lab b HB.out
              cases z1
              rw [haeb] at z2
              subst z2
              have HF := Lib.hid hF
              clear hF hA hAt z3
              exact Rely.Good.value 0 (u := labL (V k b)) (by go_simp) (fun _ _ => rfl) (HF.out.same 10 (by decide) (by decide))
            refine Rely.Steps.cons (fun L γ ev wv hL hE hF hC hCf hO hV => ?_) ?_
            · skip
              have hL0 : L 0 = true := hE _ (Array.mem_of_getElem? (i := 0) rfl) rfl
              have v52 : ev (.tmp 52) = .func (.func K) #[] cap := hV 0 52 hL0 rfl
              have hL5 : L 5 = true := hE _ (Array.mem_of_getElem? (i := 1) rfl) rfl
              have v57 : ev (.tmp 57) = labL (V k a) := hV 5 57 hL5 rfl
              have hL10 : L 10 = true := hE _ (Array.mem_of_getElem? (i := 2) rfl) rfl
              have v62 : ev (.tmp 62) = labL (V k b) := hV 10 62 hL10 rfl
              clear hE hO hV
              have HF := Lib.hid hF
              have hk := HC.out.1.call k wv g a b HLt.out HS.out HAB.out.1 HAB.out.2.1 (by have := hF.c.size; have := HL2.out; have := HWs.out; omega) (hF.pre hL)
              clear hF hL
              have hen := HC.out.1.enter
              exact Rely.Good.enter (f := K) (args := #[labL (V k a), labL (V k b)] ++ cap) (by go_simp) (hk.mono fun e w2 hc => by
                obtain ⟨g', rfl, hI, hg', hcc⟩ := hc
                exact ⟨0, _, rfl, fun _ _ => by rw [show R k = r from HE.out]; rfl, HF.out.call (by decide) hI hg' hcc (by have := HO.out; omega) (fun h => by have := HC.out.1.low _ h; have := HO.out; omega)⟩)
            refine Rely.Steps.cons (fun L γ ev wv hL hE hF hC hCf hO hV => ?_) ?_
            · clear hL
              have v12 : ev (.tmp 12) = .pointer (some ⟨wr.heap.size + 1, 0, none⟩) := (hO 12 (by kernel_rfl)).trans rfl
              have hL11 : L 11 = true := hE _ (Array.mem_of_getElem? (i := 0) rfl) rfl
              have v63 : ev (.tmp 63) = labL r := hV 11 63 hL11 rfl
              clear hE hO hV
              have hX := hF.l
              have HF := Lib.hid hF
              obtain ⟨y0, hy⟩ : ∃ y, (if L 12 = true then r else ((0, 0) : Lab)) = y := ⟨_, rfl⟩
              rw [hy] at hX
              clear hy hF
              have q0 := Blk.cell hX 0 rfl
              have q1 := Blk.cell hX 1 rfl
              have qf := Blk.frozen hX
              clear hX
              exact Rely.Good.skip 0 (w' := stL wv (wr.heap.size + 1) r) (by go_simp) rfl (HF.out.put (by decide) hL11 (fun wx gx x hne hI => HC.out.1.keep (k + 1) wx _ gx (fun q => q = wr.heap.size + 1) hI (((Chg.refl (fun q => q = wr.heap.size + 1) wx).set (p := ⟨wr.heap.size + 1, 0, none⟩) (.inr rfl) _).set (p := ⟨wr.heap.size + 1, 1, none⟩) (.inr rfl) _) (fun q e => by have := HO.out.2.2.2; exact ⟨by omega, fun e2 => hne (e2.symm.trans e)⟩)) (by have := HO.out; omega))
            exact Rely.Steps.nil
          case hend =>
            intro γ w5 hF
            have hl : LbB w5 (wr.heap.size + 1) r := hF.l
            have hX := H2.out
            obtain ⟨g', hI5, hgor⟩ := hF.post (by rfl)
            have hR5 := hX.2.2.1.chg hF.c (fun q hq h => by have h1 := HO.out.1 q hq; rcases h with h | h | h; exact h1.2.2 h; have := HC.out.1.low _ h; have := HWs.out; omega; omega)
            have hg5 : g' = g0 ∨ ws ≤ g' := by
              have := HO.out.2.1
              have := HL2.out
              rcases hgor with h | h
              · rw [h]; exact HO.out.2.1
              · right; omega
            have hne5 : ∀ q, (Value.slice (some awa) (N + k) cw).ownBlock = some q → q ≠ g' := fun q hq => by
              have h1 := HO.out.1 q hq
              have := hX.2.2.2.2.2.2.2
              rcases hgor with h | h
              · rw [h]; exact h1.2.2
              · omega
            have hc5 := hX.2.2.2.2.1.trans2 hF.c (fun q h1 h2 => by
              have h3 := HO.out.2.1
              have := HO.out.2.2.2
              have := HWs.out
              rcases h2 with h2 | h2 | h2
              · left; omega
              · exact .inr h2
              · omega)
            have hZ0 := hX.2.2.2.2.2.1.chg hF.c (fun h => by have := HO.out.2.1; have := HO.out.2.2.2; have := HWs.out; rcases h with h | h | h; omega; have := HC.out.1.low _ h; omega; omega)
            have hZ1 := Blk.chg hX.2.2.2.2.2.2.1 hF.c (fun h => by have := HO.out.2.1; have := HO.out.2.2.2; have := HWs.out; rcases h with h | h | h; omega; have := HC.out.1.low _ h; omega; omega)
            have hs5 : ws ≤ w5.heap.size := by have := hF.c.size; have := HL2.out; omega
            obtain ⟨gn, kk, w6, hr, hTh⟩ := th_step (w := w) (v := .slice (some awa) (N + k) cw) HC.out.1 hR5 hI5 hg5 hne5 hc5 hZ0 hZ1 r HV.out.1 HVr.out (by have := HN.out; have := HLt.out; omega) HWs.out.1 (by have := hs5; omega)
            have HR := Lib.hid hr
            have HF := Lib.hid hTh
            have q0 := Blk.cell hl 0 rfl
            have q1 := Blk.cell hl 1 rfl
            clear hF hl hX hR5 hI5 hg5 hne5 hc5 hZ0 hZ1 hr hTh hs5 H2
            simp only [Rely.fin, Act.put, List.setIfInBounds_toArray, List.set_cons_zero, List.set_cons_succ]
            go_wp2_with (at_builtin; refine wpList_append_run rfl _ _ 29 rfl (.slice (some awa) (N + k) cw) (.slice (some ⟨w5.heap.size, 0, none⟩) 1 1) (.slice (some ⟨gn, 0, none⟩) (N + k + 1) kk) w6 rfl rfl (HR.out _) ?_)
            go_roundw
            case rel => exact ⟨k + 1, _, by have := HLt.out; omega, rfl, by go_num, HF.out⟩
            case measure => simp [intOf]; have := HLt.out; omega
        · have n2 : (y k 0 == 2) = false := by simpa using h2
          have n3 : (y k 0 == 3) = true := by
            have : y k 0 = 3 := by omega
            rw [this]; rfl
          have HVn := Lib.hid (show V (k + 1) (N + k) = Garb.nadd (V k a) turn by rw [HV.out.2, if_neg h1, if_neg h2])
          have HS := Lib.hid h2
          clear h1 h2 hkd
          go_wp2
          clear q0 g0c g1c g2c n1 n2 n3
          generalize ((wr.alloc (.cells #[.int .i64 (y k 0), .int .i64 (a : Int), .int .i64 (b : Int)] 84)).alloc zeroL) = w2 at *
          obtain ⟨awa, e9, aea, haea, _, _, _⟩ := (show AtV w2 Aw ((N + k) * 2) (lv (V k)) by
            obtain ⟨Az1, cz1, z0, _, _, _, hAt, _, _⟩ := H2.out.2.2.1.read
            injection z0 with z1 _ _
            rw [z1]; exact hAt).lab a HAB.out.2.2.1
          subst e9
          obtain ⟨r, hre⟩ : ∃ r, Garb.nadd (V k a) turn = r := ⟨_, rfl⟩
          have HVr := Lib.hid (show V (k + 1) (N + k) = r by rw [HVn.out, hre])
          have HE := Lib.hid hre
          have HL2 := Lib.hid (show ws ≤ w2.heap.size by have := H2.out.2.2.2.2.2.2.2; have := HWr.out; omega)
          clear hre
          refine Rely.region (G := Nat) (vs := [fun _ => .slice (some awa) (N + k) cw, fun _ => .pointer (some ⟨wr.heap.size, 1, none⟩), fun _ => .int .i64 (a : Int), fun _ => .pointer (some aea), fun _ => labL (V k a), fun _ => labL turn, fun _ => labL r, fun _ => undef]) (F := fun L _ w' => FO w2 (wr.heap.size + 1) 7 r (0, 0) L w') (by kernel_rfl) (by kernel_rfl) rfl (fun _ => 0) (FO.start w2 _ (drew_below w2) H2.out.2.1) ?hsteps ?hend
          case hsteps =>
            refine Rely.Steps.cons (fun L γ ev wv hL hE hF hC hCf hO hV => ?_) ?_
            · clear hL
              have v9 : ev (.tmp 9) = .slice (some awa) (N + k) cw := (hO 9 (by kernel_rfl)).trans rfl
              clear hE hO hV
              exact Rely.Good.value 0 (u := .slice (some awa) (N + k) cw) (by go_simp) (fun _ _ => rfl) (hF.same 0 (by decide))
            refine Rely.Steps.cons (fun L γ ev wv hL hE hF hC hCf hO hV => ?_) ?_
            · clear hL
              have v11 : ev (.tmp 11) = .pointer (some ⟨wr.heap.size, 0, none⟩) := (hO 11 (by kernel_rfl)).trans rfl
              clear hE hO hV
              exact Rely.Good.value 0 (u := .pointer (some ⟨wr.heap.size, 1, none⟩)) (by go_simp) (fun _ _ => rfl) (hF.same 1 (by decide))
            refine Rely.Steps.cons (fun L γ ev wv hL hE hF hC hCf hO hV => ?_) ?_
            · clear hL
              have hL1 : L 1 = true := hE _ (Array.mem_of_getElem? (i := 0) rfl) rfl
              have v67 : ev (.tmp 67) = .pointer (some ⟨wr.heap.size, 1, none⟩) := hV 1 67 hL1 rfl
              clear hE hO hV
              have hX := H2.out.1.chg hF.c (by omega)
              have q0 := hX.cell 1 rfl
              have HF := Lib.hid hF
              clear hX hF
              exact Rely.Good.value 0 (u := .int .i64 (a : Int)) (by go_simp) (fun _ _ => rfl) (HF.out.same 2 (by decide))
            refine Rely.Steps.cons (fun L γ ev wv hL hE hF hC hCf hO hV => ?_) ?_
            · clear hL
              have hL0 : L 0 = true := hE _ (Array.mem_of_getElem? (i := 0) rfl) rfl
              have v66 : ev (.tmp 66) = .slice (some awa) (N + k) cw := hV 0 66 hL0 rfl
              have hL2 : L 2 = true := hE _ (Array.mem_of_getElem? (i := 1) rfl) rfl
              have v68 : ev (.tmp 68) = .int .i64 (a : Int) := hV 2 68 hL2 rfl
              clear hE hO hV
              have HF := Lib.hid hF
              clear hF
              have la1 : (a : Int) < (N : Int) + (k : Int) := by have := HAB.out.2.2.1; omega
              have la0 : (0 : Int) ≤ (a : Int) := by omega
              exact Rely.Good.value 0 (u := .pointer (some aea)) (by go_simp) (fun _ _ => rfl) (HF.out.same 3 (by decide))
            refine Rely.Steps.cons (fun L γ ev wv hL hE hF hC hCf hO hV => ?_) ?_
            · clear hL
              have hL3 : L 3 = true := hE _ (Array.mem_of_getElem? (i := 0) rfl) rfl
              have v69 : ev (.tmp 69) = .pointer (some aea) := hV 3 69 hL3 rfl
              clear hE hO hV
              have hA := H2.out.2.2.1.chg hF.c (fun q hq e => by have := (HO.out.1 q hq).2.1; omega)
              obtain ⟨Az1, cz1, z0, _, _, _, hAt, _, _⟩ := hA.read
              injection z0 with z1 _ _
              subst z1
              obtain ⟨ad1, z1, ae1, z2, q0, q1, z3⟩ := hAt.lab a HAB.out.2.2.1
              cases z1
              rw [haea] at z2
              subst z2
              have HF := Lib.hid hF
              clear hF hA hAt z3
              exact Rely.Good.value 0 (u := labL (V k a)) (by go_simp) (fun _ _ => rfl) (HF.out.same 4 (by decide))
            refine Rely.Steps.cons (fun L γ ev wv hL hE hF hC hCf hO hV => ?_) ?_
            · clear hL
              have v6 : ev (.tmp 6) = .pointer (some ⟨w.heap.size + 1, 0, none⟩) := (hO 6 (by kernel_rfl)).trans rfl
              clear hE hO hV
              have hX := Blk.chg H2.out.2.2.2.2.2.2.1 hF.c (by have := HO.out.2.2.2; omega)
              have q0 := Blk.cell hX 0 rfl
              have q1 := Blk.cell hX 1 rfl
              have HF := Lib.hid hF
              clear hX hF
              exact Rely.Good.value 0 (u := labL turn) (by go_simp) (fun _ _ => rfl) (HF.out.same 5 (by decide))
            refine Rely.Steps.cons (fun L γ ev wv hL hE hF hC hCf hO hV => ?_) ?_
            · clear hL
              have hL4 : L 4 = true := hE _ (Array.mem_of_getElem? (i := 0) rfl) rfl
              have v70 : ev (.tmp 70) = labL (V k a) := hV 4 70 hL4 rfl
              have hL5 : L 5 = true := hE _ (Array.mem_of_getElem? (i := 1) rfl) rfl
              have v71 : ev (.tmp 71) = labL turn := hV 5 71 hL5 rfl
              clear hE hO hV
              have HF := Lib.hid hF
              clear hF
              exact Rely.Good.enter (f := 43) (args := #[labL (V k a), labL turn]) (by go_simp) ((xor_lab (V k a) turn wv (HC.out.2.2.1 k a) HC.out.2.2.2).mono fun e w2 hc => ⟨0, _, hc.1, fun _ _ => by rw [show Garb.nadd (V k a) turn = r from HE.out]; rfl, HF.out.val 6 (by decide) hc.2⟩)
            refine Rely.Steps.cons (fun L γ ev wv hL hE hF hC hCf hO hV => ?_) ?_
            · clear hL
              have v12 : ev (.tmp 12) = .pointer (some ⟨wr.heap.size + 1, 0, none⟩) := (hO 12 (by kernel_rfl)).trans rfl
              have hL6 : L 6 = true := hE _ (Array.mem_of_getElem? (i := 0) rfl) rfl
              have v72 : ev (.tmp 72) = labL r := hV 6 72 hL6 rfl
              clear hE hO hV
              have hX := hF.l
              have HF := Lib.hid hF
              obtain ⟨y0, hy⟩ : ∃ y, (if L 7 = true then r else ((0, 0) : Lab)) = y := ⟨_, rfl⟩
              rw [hy] at hX
              clear hy hF
              have q0 := Blk.cell hX 0 rfl
              have q1 := Blk.cell hX 1 rfl
              have qf := Blk.frozen hX
              clear hX
              exact Rely.Good.skip 0 (w' := stL wv (wr.heap.size + 1) r) (by go_simp) rfl HF.out.put
            exact Rely.Steps.nil
          case hend =>
            intro γ w5 hF
            have hl : LbB w5 (wr.heap.size + 1) r := hF.l
            have hX := H2.out
            have hR5 := hX.2.2.1.chg hF.c (fun q hq e => by have := (HO.out.1 q hq).2.1; omega)
            have hI5 := HC.out.1.skip k _ g HLt.out HS.out (HC.out.1.keep k _ _ g (fun q => q = wr.heap.size + 1) hX.2.2.2.1 hF.c (fun q e => by have := HO.out; omega))
            have hg5 : g = g0 ∨ ws ≤ g := HO.out.2.1
            have hne5 : ∀ q, (Value.slice (some awa) (N + k) cw).ownBlock = some q → q ≠ g := fun q hq => (HO.out.1 q hq).2.2
            have hc5 := hX.2.2.2.2.1.trans2 hF.c (fun q h1 h2 => by have := HO.out.2.2.2; omega)
            have hZ0 := hX.2.2.2.2.2.1.chg hF.c (by have := HO.out.2.2.2; omega)
            have hZ1 := Blk.chg hX.2.2.2.2.2.2.1 hF.c (by have := HO.out.2.2.2; omega)
            have hs5 : ws ≤ w5.heap.size := by have := Blk.lt hl; have := HO.out; have := HWs.out; have := hF.c.size; have := hX.2.2.1; have := HL2.out; omega
            obtain ⟨gn, kk, w6, hr, hTh⟩ := th_step (w := w) (v := .slice (some awa) (N + k) cw) HC.out.1 hR5 hI5 hg5 hne5 hc5 hZ0 hZ1 r HV.out.1 HVr.out (by have := HN.out; have := HLt.out; omega) HWs.out.1 (by have := hs5; omega)
            have HR := Lib.hid hr
            have HF := Lib.hid hTh
            have q0 := Blk.cell hl 0 rfl
            have q1 := Blk.cell hl 1 rfl
            clear hF hl hX hR5 hI5 hg5 hne5 hc5 hZ0 hZ1 hr hTh hs5 H2
            simp only [Rely.fin, Act.put, List.setIfInBounds_toArray, List.set_cons_zero, List.set_cons_succ]
            go_wp2_with (at_builtin; refine wpList_append_run rfl _ _ 29 rfl (.slice (some awa) (N + k) cw) (.slice (some ⟨w5.heap.size, 0, none⟩) 1 1) (.slice (some ⟨gn, 0, none⟩) (N + k + 1) kk) w6 rfl rfl (HR.out _) ?_)
            go_roundw
            case rel => exact ⟨k + 1, _, by have := HLt.out; omega, rfl, by go_num, HF.out⟩
            case measure => simp [intOf]; have := HLt.out; omega
    · obtain rfl : k = n := by omega
      have lt1 : ¬ (k : Int) < (k : Int) := by omega
      obtain ⟨wB, hwB⟩ : ∃ x, x = wr := ⟨_, rfl⟩
      subst hwB
      obtain ⟨g, hR, hI, hgg, hne, hc, Z0, Z1, hwr⟩ := HI.out
      have d2 := Z0.cell 2 (v := .slice Ao m co) rfl
      have hmk := run_makeL wB m m (Nat.le_refl _) (by have := HN.out; omega)
      have hR2 := made_labs wB m m (Nat.le_refl _) (by have := HN.out; unfold maxLen; omega)
      have hb2 : Below wB.heap.size wB (wB.alloc (.cells (madeCells #[Value.int .u64 0, Value.int .u64 0] (m * 2)) 28)) := (Below.refl _ _).alloc (Nat.le_refl _) _
      have d3 := (Z0.below hb2 Z0.lt).cell 2 (v := .slice Ao m co) rfl
      obtain ⟨Aw, cw, rfl, _, _, _, hAt, _, _⟩ := hR.read
      have hwsz := hc.size
      have hgl := HC.out.1.lt k wB g hI
      have HB := Lib.hid (And.intro hAt (And.intro hI (And.intro (show g = g0 ∨ w.heap.size ≤ g by have := HWs.out; omega) (And.intro hc (And.intro hR2 (And.intro hb2 (And.intro hwsz hgl)))))))
      clear hR hI hgg hne hc Z0 Z1 hwr hR2 hb2 hAt hwsz hlt2 hk HI hgl
      go_wp2
      clear d2 d3 hmk
      generalize (wB.alloc (.cells (madeCells #[Value.int .u64 0, Value.int .u64 0] (m * 2)) 28)) = wC at *
      go_loopw [85] (fun i wr => ∃ t : Nat, t ≤ m ∧ i = .int .i64 t ∧ Hid (Row wr wB.heap.size 28 2 (.slice (some ⟨wB.heap.size, 0, none⟩) m m) m (lv fun q => if q < t then V k (o q).toNat else (0, 0)) ∧ Below wB.heap.size wB wr)) (fun i _ => m - (intOf i).toNat)
      case atStart => exact ⟨0, Nat.zero_le _, rfl, HB.out.2.2.2.2.1.congr (lv_congr fun i _ => by rw [if_neg (by omega)]), HB.out.2.2.2.2.2.1⟩
      case round =>
        obtain ⟨t, ht, rfl, HI⟩ := hrel
        by_cases hlt2 : t < m
        · have hcr : Chg (fun q => q = g0 ∨ T q) w wr := HB.out.2.2.2.1.trans2 (Chg.ofBelow (S := fun _ => False) HI.out.2) (fun q _ h => h.elim)
          obtain ⟨ad, rfl, co1⟩ := (HA.out.2.1.chg hcr HA.out.2.2.2) t hlt2
          unfold iv at co1
          obtain ⟨a, ha, hal⟩ : ∃ a : Nat, o t = (a : Int) ∧ a < N + k := by
            have := HG.out.out t hlt2
            exact ⟨(o t).toNat, by omega, by omega⟩
          obtain ⟨ad2, rfl, ae, hae, cw1, cw2, hbk⟩ := (HB.out.1.below HI.out.2).lab a hal
          rw [ha] at co1
          have lt2 : (t : Int) < (m : Int) := by omega
          have lt0 : (0 : Int) ≤ (t : Int) := by omega
          have la1 : (a : Int) < (N : Int) + (k : Int) := by omega
          have la0 : (0 : Int) ≤ (a : Int) := by omega
          have e1 : IntKind.i64.wrap ((t : Int) + 1) = (t : Int) + 1 := i64_nat _ (by omega) (by have := HN.out; omega)
          have zf := HI.out.1.frozen (t * 2)
          have zf1 := HI.out.1.frozen (t * 2 + 1)
          have ca := HI.out.1.cellAt (t * 2) (by omega)
          have ca1 := HI.out.1.cellAt (t * 2 + 1) (by omega)
          have HLt := Lib.hid hlt2
          have HV := Lib.hid (show V k a = V k (o t).toNat by rw [ha, Int.toNat_natCast])
          clear hlt2 hal ha hcr hbk
          go_wp2
          go_roundw
          case rel => exact ⟨t + 1, by have := HLt.out; omega, by go_num, HI.out.1.setL t HLt.out (V k a) (fun q _ => by
            by_cases h : q = t
            · subst h; rw [if_pos rfl, if_pos (by omega), HV.out]
            · rw [if_neg h]
              by_cases h2 : q < t
              · rw [if_pos h2, if_pos (by omega)]
              · rw [if_neg h2, if_neg (by omega)]), (HI.out.2.setCell (p := ⟨wB.heap.size, t * 2, none⟩) (Nat.le_refl _) _).setCell (p := ⟨wB.heap.size, t * 2 + 1, none⟩) (Nat.le_refl _) _⟩
          case measure => simp [intOf]; have := HLt.out; omega
        · obtain rfl : t = m := by omega
          have lt2 : ¬ (t : Int) < (t : Int) := by omega
          clear hlt2 ht
          go_wp2
          go_ret
          obtain ⟨hAt, hI, hgg, hc, _, _, hwsz, hgl⟩ := HB.out
          exact ⟨wB.heap.size, g, rfl, hwsz, (HI.out.1.mono (base' := w.heap.size) (fun q h => by
            obtain rfl : wB.heap.size = q := Option.some.inj h
            exact hwsz)).congr (lv_congr fun i hi => by rw [if_pos hi]), HC.out.1.keep k wB wr g (fun _ => False) hI (Chg.ofBelow HI.out.2) (fun q h => h.elim), hgg, hc.trans2 (Chg.ofBelow (S := fun _ => False) HI.out.2) (fun q _ h => h.elim)⟩
end Go.Proofs.YtamejhhjfnfalaaDoor
