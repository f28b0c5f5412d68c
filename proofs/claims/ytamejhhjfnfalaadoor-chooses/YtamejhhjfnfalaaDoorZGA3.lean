/- Contract of the function that Garble hands on: an And gate's zero label, and its two tables laid. -/
import Derived.Test.YtamejhhjfnfalaaDoorMH
import Derived.Test.YtamejhhjfnfalaaDoorMG
namespace Go.Proofs.YtamejhhjfnfalaaDoor
open Go.RowKit
open Rely (upd)

/-- What the closure leaves. -/
def GcAns (H : Lab → Nat → Lab) (bf bt bc bd g first j B : Nat) (tv : Value) (delta : Lab) (a b : Lab) (M : Nat → Lab) (w : World) (e : Ending) (w' : World) : Prop :=
  e = .returned (labL (Garb.andZ Garb.nadd Garb.ncol H delta a b (Garb.tw first j) (Garb.tw1 first j))) ∧ ∃ gt kt, Gc w' bf bt bc bd g first (.slice (some ⟨gt, 0, none⟩) (2 * j + 2) kt) delta ∧ Row w' B 28 2 (.slice (some ⟨gt, 0, none⟩) (2 * j + 2) kt) (2 * j + 2) (lv M) ∧ (tv.ownBlock = some gt ∨ w.heap.size ≤ gt) ∧ Chg (fun q => q = bt ∨ tv.ownBlock = some q) w w'
set_option maxHeartbeats 16000000 in
set_option maxRecDepth 100000 in
theorem gclo_any (H : Lab → Nat → Lab) (hH : Hs H) (w : World) (bf bt bc bd g first j B : Nat) (tv : Value) (delta a b : Lab) (tab M : Nat → Lab) (hG : Gc w bf bt bc bd g first tv delta) (hR : Row w B 28 2 tv (2 * j) (lv tab)) (hd : Garb.Wd delta) (ha : Garb.Wd a) (hb : Garb.Wd b) (hj : j ≤ 100000) (hbd : bd < B) (hB : B ≤ w.heap.size)
    (hM : ∀ i, i < 2 * j → tab i = M i) (hM0 : M (2 * j) = Garb.tG Garb.nadd Garb.ncol H delta a b (Garb.tw first j)) (hM1 : M (2 * j + 1) = Garb.tE Garb.nadd H delta a b (Garb.tw1 first j)) :
    Calls Tryd.prog 41 #[labL a, labL b, .pointer (some ⟨bf, 0, none⟩), .pointer (some ⟨bt, 0, none⟩), .pointer (some ⟨bc, 0, none⟩), .pointer (some ⟨bd, 0, none⟩)] w (GcAns H bf bt bc bd g first j B tv delta a b M w) := by
  have nbd : ¬ (bd = bt ∨ tv.ownBlock = some bd) := fun h => by
    rcases h with h | h
    · exact Blk.ne hG.d hG.t (by decide) h
    · have := (hR.own bd h).1; omega
  have nbf : ¬ (bf = bt ∨ tv.ownBlock = some bf) := fun h => by
    rcases h with h | h
    · exact Blk.ne hG.f hG.t (by decide) h
    · exact hR.ne hG.f (by decide) h
  have nbc : ¬ (bc = bt ∨ tv.ownBlock = some bc) := fun h => by
    rcases h with h | h
    · exact Blk.ne hG.c hG.t (by decide) h
    · exact hR.ne hG.c (by decide) h
  have ngx : ¬ (g = bt ∨ tv.ownBlock = some g) := fun h => by
    rcases h with h | h
    · subst h
      have h1 : w.heap[g]? = some (.cells #[tv] 29 (0, 0)) := hG.t
      have h2 : w.heap[g]? = some (.cells _ 176 (0, 0)) := hG.x
      rw [h1] at h2
      injection h2 with h2
      injection h2 with _ h2
      exact absurd h2 (by decide)
    · exact hR.neFx hG.x (by decide) h
  have hbt := hG.t.lt
  have hown := hR.own
  have HG0 := Lib.hid hG.t
  have HL0 := Lib.hid (show bf < w.heap.size ∧ bc < w.heap.size ∧ bd < w.heap.size ∧ g < w.heap.size from ⟨hG.f.lt, hG.c.lt, Blk.lt hG.d, hG.x.lt⟩)
  have HN := Lib.hid (And.intro nbd (And.intro nbf (And.intro nbc (And.intro ngx (And.intro hbt (And.intro hown (And.intro hbd hB)))))))
  clear nbd nbf nbc ngx hown hbd hB
  obtain ⟨s, hs⟩ : ∃ s, Garb.tw first j = s := ⟨_, rfl⟩
  obtain ⟨t, ht⟩ : ∃ t, Garb.tw1 first j = t := ⟨_, rfl⟩
  have hsl := hs ▸ Garb.tw_lt first j
  have htl := ht ▸ Garb.tw1_lt first j
  obtain ⟨hA, hAe⟩ : ∃ x, H a s = x := ⟨_, rfl⟩
  obtain ⟨hB, hBe⟩ : ∃ x, H b t = x := ⟨_, rfl⟩
  obtain ⟨xa, xae⟩ : ∃ x, Garb.nadd a delta = x := ⟨_, rfl⟩
  obtain ⟨xb, xbe⟩ : ∃ x, Garb.nadd b delta = x := ⟨_, rfl⟩
  obtain ⟨oA, oAe⟩ : ∃ x, H xa s = x := ⟨_, rfl⟩
  obtain ⟨oB, oBe⟩ : ∃ x, H xb t = x := ⟨_, rfl⟩
  obtain ⟨y, ye⟩ : ∃ x, Garb.nadd hA oA = x := ⟨_, rfl⟩
  obtain ⟨z, ze⟩ : ∃ x, Garb.nadd hB oB = x := ⟨_, rfl⟩
  obtain ⟨G, Ge⟩ : ∃ x, Garb.lab Garb.nadd y delta (Garb.ncol b) = x := ⟨_, rfl⟩
  obtain ⟨E, Ee⟩ : ∃ x, Garb.nadd z a = x := ⟨_, rfl⟩
  obtain ⟨u, ue⟩ : ∃ x, Garb.nadd E a = x := ⟨_, rfl⟩
  obtain ⟨r, re⟩ : ∃ x, Garb.nadd (Garb.plus Garb.nadd hA (Garb.ncol a) G) (Garb.plus Garb.nadd hB (Garb.ncol b) u) = x := ⟨_, rfl⟩
  have whA := hAe ▸ hH.wd a s ha hsl
  have whB := hBe ▸ hH.wd b t hb htl
  have wxa := xae ▸ ha.add hd
  have wxb := xbe ▸ hb.add hd
  have woA := oAe ▸ hH.wd xa s wxa hsl
  have woB := oBe ▸ hH.wd xb t wxb htl
  have wy := ye ▸ whA.add woA
  have wz := ze ▸ whB.add woB
  have wG := Ge ▸ wy.lab hd (Garb.ncol b)
  have wE := Ee ▸ wz.add ha
  have wu := ue ▸ wE.add ha
  have hM0' : M (2 * j) = G := by rw [hM0, hs, ← Ge, ← ye, ← oAe, ← xae, ← hAe]; rfl
  have hM1' : M (2 * j + 1) = E := by rw [hM1, ht, ← Ee, ← ze, ← oBe, ← xbe, ← hBe]; rfl
  have hr : Garb.andZ Garb.nadd Garb.ncol H delta a b (Garb.tw first j) (Garb.tw1 first j) = r := by
    rw [hs, ht, ← re, ← ue, ← Ee, ← Ge, ← ze, ← ye, ← oBe, ← oAe, ← xbe, ← xae, ← hBe, ← hAe]
    rfl
  have HM := Lib.hid (And.intro hM (And.intro hM0' (And.intro hM1' (And.intro hr hj))))
  obtain ⟨At, ct, hte, _, _, _, _, _, _⟩ := hR.read
  have e1 : IntKind.u64.wrap (((2 * j : Nat) : Int)) = ((2 * j : Nat) : Int) := by rw [u64w]; omega
  have e2 : IntKind.u64.wrap ((first : Int) + ((2 * j : Nat) : Int)) = (s : Int) := by rw [u64w, ← hs]; unfold Garb.tw; omega
  have e3 : IntKind.u64.wrap ((s : Int) + 1) = (t : Int) := by rw [u64w, ← ht, ← hs]; unfold Garb.tw1; omega
  have e4 : IntKind.u64.wrap (2 * (j : Int)) = 2 * (j : Int) := by rw [u64w]; omega
  have e5 : IntKind.u64.wrap ((first : Int) + 2 * (j : Int)) = (s : Int) := by rw [← e2]; push_cast; rfl
  have HQ := Lib.hid (And.intro hH (And.intro (And.intro hAe (And.intro hBe (And.intro oAe oBe))) (And.intro (And.intro xae (And.intro xbe (And.intro ye (And.intro ze (And.intro Ge (And.intro Ee (And.intro ue re))))))) (And.intro hsl htl))))
  have HW := Lib.hid (And.intro hd (And.intro ha (And.intro hb (And.intro whA (And.intro whB (And.intro wxa (And.intro wxb (And.intro woA (And.intro woB (And.intro wy (And.intro wz (And.intro wG (And.intro wE wu)))))))))))))
  clear hM hM0 hM1 hM0' hM1' hs ht hAe hBe xae xbe oAe oBe ye ze Ge Ee ue re whA whB wxa wxb woA woB wy wz wG wE wu hH hd ha hb hsl htl hj
  rw [hte] at hG hR
  have X0 := Blk.new w 28 #[.int .u64 (a.1 : Int), .int .u64 (a.2 : Int)]
  have b0 := (Below.refl w.heap.size w).alloc (Nat.le_refl _) (.cells #[.int .u64 (a.1 : Int), .int .u64 (a.2 : Int)] 28)
  have X1 := Blk.new (w.alloc (.cells #[.int .u64 (a.1 : Int), .int .u64 (a.2 : Int)] 28)) 28 #[.int .u64 (b.1 : Int), .int .u64 (b.2 : Int)]
  have b1 := b0.alloc b0.size (.cells #[.int .u64 (b.1 : Int), .int .u64 (b.2 : Int)] 28)
  have X2 := Blk.new ((w.alloc (.cells #[.int .u64 (a.1 : Int), .int .u64 (a.2 : Int)] 28)).alloc (.cells #[.int .u64 (b.1 : Int), .int .u64 (b.2 : Int)] 28)) 28 #[.int .u64 0, .int .u64 0]
  have b2 := b1.alloc b1.size zeroL
  have Y0 := (X0.alloc (.cells #[.int .u64 (b.1 : Int), .int .u64 (b.2 : Int)] 28)).alloc zeroL
  simp only [World.size_alloc] at X1 X2
  have Y1 := X1.alloc zeroL
  have G2 := hG.below b2
  have cf := G2.f.cell 0 (v := .int .u64 (first : Int)) rfl
  have ct1 := G2.t.cell 0 (v := .slice At (2 * j) ct) rfl
  have hsz : w.heap.size + 1 + 1 < (((w.alloc (.cells #[.int .u64 (a.1 : Int), .int .u64 (a.2 : Int)] 28)).alloc (.cells #[.int .u64 (b.1 : Int), .int .u64 (b.2 : Int)] 28)).alloc zeroL).heap.size := by simp
  have H1 := Lib.hid (And.intro b2 (And.intro G2 (And.intro (hR.below b2) (And.intro (show LbB _ w.heap.size a from Y0) (And.intro (show LbB _ (w.heap.size + 1) b from Y1) (And.intro (show LbB _ (w.heap.size + 1 + 1) (0, 0) from X2) hsz))))))
  clear X0 X1 X2 b0 b1 b2 Y0 Y1 G2 hG hR hsz
  unfold GcAns
  rw [hr, hte]
  clear hr
  go_enter Tryd.func41, Tryd.ntmps41
  go_wp2
  clear cf ct1 e1 e2 e4 e5
  generalize (((w.alloc (.cells #[.int .u64 (a.1 : Int), .int .u64 (a.2 : Int)] 28)).alloc (.cells #[.int .u64 (b.1 : Int), .int .u64 (b.2 : Int)] 28)).alloc zeroL) = w1 at *
  refine Rely.region (G := Nat) (vs := [fun _ => .pointer (some ⟨g, 0, none⟩), fun _ => labL a, fun _ => .int .u64 (s : Int), fun _ => labL hA, fun _ => .pointer (some ⟨g, 0, none⟩), fun _ => labL b, fun _ => .int .u64 (s : Int), fun _ => .int .u64 (t : Int), fun _ => labL hB, fun g => .pointer (some ⟨g, 0, none⟩), fun g => .pointer (some ⟨g, 0, none⟩), fun _ => undef, fun _ => undef]) (F := fun L γ w' => FN w1 [(9, 11), (10, 12)] (fun i => if i = 9 then hA else hB) L γ w') (by kernel_rfl) (by kernel_rfl) rfl (fun _ => 0) (FN.start w1 _ (drew_below w1) _) ?hsteps ?hend
  case hsteps =>
    refine Rely.Steps.cons (fun L γ ev wv hL hE hF hC hCf hO hV => ?_) ?_
    · clear hL
      have v4 : ev (.tmp 4) = .pointer (some ⟨bc, 0, none⟩) := (hO 4 (by kernel_rfl)).trans rfl
      clear hE hO hV
      have hX := Blk.below H1.out.2.1.c hF.b (Blk.lt H1.out.2.1.c)
      have q0 := Blk.cell hX 0 rfl
      have HF := Lib.hid hF
      clear hX hF
      exact Rely.Good.value 0 (u := .pointer (some ⟨g, 0, none⟩)) (by go_simp) (fun _ _ => rfl) (HF.out.same 0 0 (by decide))
    refine Rely.Steps.cons (fun L γ ev wv hL hE hF hC hCf hO hV => ?_) ?_
    · clear hL
      have v6 : ev (.tmp 6) = .pointer (some ⟨w.heap.size, 0, none⟩) := (hO 6 (by kernel_rfl)).trans rfl
      clear hE hO hV
      have hX := Blk.below H1.out.2.2.2.1 hF.b (Blk.lt H1.out.2.2.2.1)
      have q0 := Blk.cell hX 0 rfl
      have q1 := Blk.cell hX 1 rfl
      have HF := Lib.hid hF
      clear hX hF
      exact Rely.Good.value 0 (u := labL a) (by go_simp) (fun _ _ => rfl) (HF.out.same 1 0 (by decide))
    refine Rely.Steps.cons (fun L γ ev wv hL hE hF hC hCf hO hV => ?_) ?_
    · clear hL
      have v9 : ev (.tmp 9) = .int .u64 (s : Int) := (hO 9 (by kernel_rfl)).trans rfl
      clear hE hO hV
      exact Rely.Good.value 0 (u := .int .u64 (s : Int)) (by go_simp) (fun _ _ => rfl) (hF.same 2 0 (by decide))
    refine Rely.Steps.cons (fun L γ ev wv hL hE hF hC hCf hO hV => ?_) ?_
    · clear hL
      have hL0 : L 0 = true := hE _ (Array.mem_of_getElem? (i := 0) rfl) rfl
      have v21 : ev (.tmp 21) = .pointer (some ⟨g, 0, none⟩) := hV 0 21 hL0 rfl
      have hL1 : L 1 = true := hE _ (Array.mem_of_getElem? (i := 1) rfl) rfl
      have v22 : ev (.tmp 22) = labL a := hV 1 22 hL1 rfl
      have hL2 : L 2 = true := hE _ (Array.mem_of_getElem? (i := 2) rfl) rfl
      have v23 : ev (.tmp 23) = .int .u64 (s : Int) := hV 2 23 hL2 rfl
      clear hE hO hV
      have hF0 := hF.b
      have HF := Lib.hid hF
      clear hF
      exact Rely.Good.enter (f := 42) (args := #[.pointer (some ⟨g, 0, none⟩), labL a, .int .u64 (s : Int)]) (by go_simp) ((HQ.out.1.code wv g a s (H1.out.2.1.x.below hF0) HW.out.2.1 HQ.out.2.2.2.1).mono fun e w2 hc => ⟨0, _, hc.1, fun _ _ => by rw [show H a s = hA from HQ.out.2.1.1]; rfl, HF.out.val 3 0 (by decide) hc.2⟩)
    refine Rely.Steps.cons (fun L γ ev wv hL hE hF hC hCf hO hV => ?_) ?_
    · clear hL
      have v4 : ev (.tmp 4) = .pointer (some ⟨bc, 0, none⟩) := (hO 4 (by kernel_rfl)).trans rfl
      clear hE hO hV
      have hX := Blk.below H1.out.2.1.c hF.b (Blk.lt H1.out.2.1.c)
      have q0 := Blk.cell hX 0 rfl
      have HF := Lib.hid hF
      clear hX hF
      exact Rely.Good.value 0 (u := .pointer (some ⟨g, 0, none⟩)) (by go_simp) (fun _ _ => rfl) (HF.out.same 4 0 (by decide))
    refine Rely.Steps.cons (fun L γ ev wv hL hE hF hC hCf hO hV => ?_) ?_
    · clear hL
      have v7 : ev (.tmp 7) = .pointer (some ⟨w.heap.size + 1, 0, none⟩) := (hO 7 (by kernel_rfl)).trans rfl
      clear hE hO hV
      have hX := Blk.below H1.out.2.2.2.2.1 hF.b (Blk.lt H1.out.2.2.2.2.1)
      have q0 := Blk.cell hX 0 rfl
      have q1 := Blk.cell hX 1 rfl
      have HF := Lib.hid hF
      clear hX hF
      exact Rely.Good.value 0 (u := labL b) (by go_simp) (fun _ _ => rfl) (HF.out.same 5 0 (by decide))
    refine Rely.Steps.cons (fun L γ ev wv hL hE hF hC hCf hO hV => ?_) ?_
    · clear hL
      have v9 : ev (.tmp 9) = .int .u64 (s : Int) := (hO 9 (by kernel_rfl)).trans rfl
      clear hE hO hV
      exact Rely.Good.value 0 (u := .int .u64 (s : Int)) (by go_simp) (fun _ _ => rfl) (hF.same 6 0 (by decide))
    refine Rely.Steps.cons (fun L γ ev wv hL hE hF hC hCf hO hV => ?_) ?_
    · clear hL
      have hL6 : L 6 = true := hE _ (Array.mem_of_getElem? (i := 0) rfl) rfl
      have v27 : ev (.tmp 27) = .int .u64 (s : Int) := hV 6 27 hL6 rfl
      clear hE hO hV
      exact Rely.Good.value 0 (u := .int .u64 (t : Int)) (by go_simp) (fun _ _ => rfl) (hF.same 7 0 (by decide))
    refine Rely.Steps.cons (fun L γ ev wv hL hE hF hC hCf hO hV => ?_) ?_
    · clear hL
      have hL4 : L 4 = true := hE _ (Array.mem_of_getElem? (i := 0) rfl) rfl
      have v25 : ev (.tmp 25) = .pointer (some ⟨g, 0, none⟩) := hV 4 25 hL4 rfl
      have hL5 : L 5 = true := hE _ (Array.mem_of_getElem? (i := 1) rfl) rfl
      have v26 : ev (.tmp 26) = labL b := hV 5 26 hL5 rfl
      have hL7 : L 7 = true := hE _ (Array.mem_of_getElem? (i := 2) rfl) rfl
      have v28 : ev (.tmp 28) = .int .u64 (t : Int) := hV 7 28 hL7 rfl
      clear hE hO hV
      have hF0 := hF.b
      have HF := Lib.hid hF
      clear hF
      exact Rely.Good.enter (f := 42) (args := #[.pointer (some ⟨g, 0, none⟩), labL b, .int .u64 (t : Int)]) (by go_simp) ((HQ.out.1.code wv g b t (H1.out.2.1.x.below hF0) HW.out.2.2.1 HQ.out.2.2.2.2).mono fun e w2 hc => ⟨0, _, hc.1, fun _ _ => by rw [show H b t = hB from HQ.out.2.1.2.1]; rfl, HF.out.val 8 0 (by decide) hc.2⟩)
    refine Rely.Steps.cons (fun L γ ev wv hL hE hF hC hCf hO hV => ?_) ?_
    · skip
      clear hE hO hV
      exact Rely.Good.value wv.heap.size (u := .pointer (some ⟨wv.heap.size, 0, none⟩)) (by go_simp) (fun _ _ => rfl) (hF.alloc rfl (i := 9) (s := 11) (by simp) hL)
    refine Rely.Steps.cons (fun L γ ev wv hL hE hF hC hCf hO hV => ?_) ?_
    · skip
      clear hE hO hV
      exact Rely.Good.value wv.heap.size (u := .pointer (some ⟨wv.heap.size, 0, none⟩)) (by go_simp) (fun _ _ => rfl) (hF.alloc rfl (i := 10) (s := 12) (by simp) hL)
    refine Rely.Steps.cons (fun L γ ev wv hL hE hF hC hCf hO hV => ?_) ?_
    · clear hL
      have hL9 : L 9 = true := hE _ (Array.mem_of_getElem? (i := 0) rfl) rfl
      have v10 : ev (.tmp 10) = .pointer (some ⟨(γ 9), 0, none⟩) := hV 9 10 hL9 rfl
      have hL3 : L 3 = true := hE _ (Array.mem_of_getElem? (i := 1) rfl) rfl
      have v24 : ev (.tmp 24) = labL hA := hV 3 24 hL3 rfl
      clear hE hO hV
      obtain ⟨y0, hX⟩ := hF.ready (i := 9) (s := 11) (by simp) hL9
      have HF := Lib.hid hF
      clear hF
      have q0 := Blk.cell hX 0 rfl
      have q1 := Blk.cell hX 1 rfl
      have qf := Blk.frozen hX
      clear hX
      exact Rely.Good.skip 0 (w' := stL wv (γ 9) hA) (by go_simp) rfl (HF.out.put rfl 0 (i := 9) (by simp) hL9)
    refine Rely.Steps.cons (fun L γ ev wv hL hE hF hC hCf hO hV => ?_) ?_
    · clear hL
      have hL10 : L 10 = true := hE _ (Array.mem_of_getElem? (i := 0) rfl) rfl
      have v11 : ev (.tmp 11) = .pointer (some ⟨(γ 10), 0, none⟩) := hV 10 11 hL10 rfl
      have hL8 : L 8 = true := hE _ (Array.mem_of_getElem? (i := 1) rfl) rfl
      have v29 : ev (.tmp 29) = labL hB := hV 8 29 hL8 rfl
      clear hE hO hV
      obtain ⟨y0, hX⟩ := hF.ready (i := 10) (s := 12) (by simp) hL10
      have HF := Lib.hid hF
      clear hF
      have q0 := Blk.cell hX 0 rfl
      have q1 := Blk.cell hX 1 rfl
      have qf := Blk.frozen hX
      clear hX
      exact Rely.Good.skip 0 (w' := stL wv (γ 10) hB) (by go_simp) rfl (HF.out.put rfl 0 (i := 10) (by simp) hL10)
    exact Rely.Steps.nil
  case hend =>
    intro γ w2 hF
    have n9 := hF.new (9, 11) (by simp) rfl
    have m9 : LbB w2 (γ 9) hA := n9.2
    have n10 := hF.new (10, 12) (by simp) rfl
    have m10 : LbB w2 (γ 10) hB := n10.2
    have hb := hF.b
    have H2 := Lib.hid (And.intro (H1.out.1.trans (hb.mono H1.out.1.size)) (And.intro (H1.out.2.1.below hb) (And.intro (Row.below H1.out.2.2.1 hb) (And.intro (Blk.below H1.out.2.2.2.1 hb (Blk.lt H1.out.2.2.2.1)) (And.intro (Blk.below H1.out.2.2.2.2.1 hb (Blk.lt H1.out.2.2.2.2.1)) (And.intro (Blk.below H1.out.2.2.2.2.2.1 hb (Blk.lt H1.out.2.2.2.2.2.1)) (And.intro (Nat.lt_of_lt_of_le H1.out.2.2.2.2.2.2 hb.size) (And.intro m9 (And.intro (show w.heap.size + 1 + 1 < γ 9 from Nat.lt_of_lt_of_le H1.out.2.2.2.2.2.2 n9.1) (And.intro m10 (show w.heap.size + 1 + 1 < γ 10 from Nat.lt_of_lt_of_le H1.out.2.2.2.2.2.2 n10.1)))))))))))
    clear hF hb n9 m9 n10 m10 H1
    simp only [Rely.fin, Act.put, List.setIfInBounds_toArray, List.set_cons_zero, List.set_cons_succ]
    generalize γ 9 = gA at *
    generalize γ 10 = gB at *
    go_wp2_with fail
    refine Rely.region (G := Nat) (vs := [fun _ => .pointer (some ⟨g, 0, none⟩), fun _ => labL a, fun _ => labL delta, fun _ => labL xa, fun _ => .int .u64 (s : Int), fun _ => labL oA, fun _ => .pointer (some ⟨g, 0, none⟩), fun _ => labL b, fun _ => labL delta, fun _ => labL xb, fun _ => .int .u64 (s : Int), fun _ => .int .u64 (t : Int), fun _ => labL oB, fun g => .pointer (some ⟨g, 0, none⟩), fun g => .pointer (some ⟨g, 0, none⟩), fun _ => undef, fun _ => undef]) (F := fun L γ w' => FN w2 [(13, 15), (14, 16)] (fun i => if i = 13 then oA else oB) L γ w') (by kernel_rfl) (by kernel_rfl) rfl (fun _ => 0) (FN.start w2 _ (drew_below w2) _) ?hsteps ?hend
    case hsteps =>
      refine Rely.Steps.cons (fun L γ ev wv hL hE hF hC hCf hO hV => ?_) ?_
      · clear hL
        have v4 : ev (.tmp 4) = .pointer (some ⟨bc, 0, none⟩) := (hO 4 (by kernel_rfl)).trans rfl
        clear hE hO hV
        have hX := Blk.below H2.out.2.1.c hF.b (Blk.lt H2.out.2.1.c)
        have q0 := Blk.cell hX 0 rfl
        have HF := Lib.hid hF
        clear hX hF
        exact Rely.Good.value 0 (u := .pointer (some ⟨g, 0, none⟩)) (by go_simp) (fun _ _ => rfl) (HF.out.same 0 0 (by decide))
      refine Rely.Steps.cons (fun L γ ev wv hL hE hF hC hCf hO hV => ?_) ?_
      · clear hL
        have v6 : ev (.tmp 6) = .pointer (some ⟨w.heap.size, 0, none⟩) := (hO 6 (by kernel_rfl)).trans rfl
        clear hE hO hV
        have hX := Blk.below H2.out.2.2.2.1 hF.b (Blk.lt H2.out.2.2.2.1)
        have q0 := Blk.cell hX 0 rfl
        have q1 := Blk.cell hX 1 rfl
        have HF := Lib.hid hF
        clear hX hF
        exact Rely.Good.value 0 (u := labL a) (by go_simp) (fun _ _ => rfl) (HF.out.same 1 0 (by decide))
      refine Rely.Steps.cons (fun L γ ev wv hL hE hF hC hCf hO hV => ?_) ?_
      · clear hL
        have v5 : ev (.tmp 5) = .pointer (some ⟨bd, 0, none⟩) := (hO 5 (by kernel_rfl)).trans rfl
        clear hE hO hV
        have hX := Blk.below H2.out.2.1.d hF.b (Blk.lt H2.out.2.1.d)
        have q0 := Blk.cell hX 0 rfl
        have q1 := Blk.cell hX 1 rfl
        have HF := Lib.hid hF
        clear hX hF
        exact Rely.Good.value 0 (u := labL delta) (by go_simp) (fun _ _ => rfl) (HF.out.same 2 0 (by decide))
      refine Rely.Steps.cons (fun L γ ev wv hL hE hF hC hCf hO hV => ?_) ?_
      · clear hL
        have hL1 : L 1 = true := hE _ (Array.mem_of_getElem? (i := 0) rfl) rfl
        have v31 : ev (.tmp 31) = labL a := hV 1 31 hL1 rfl
        have hL2 : L 2 = true := hE _ (Array.mem_of_getElem? (i := 1) rfl) rfl
        have v32 : ev (.tmp 32) = labL delta := hV 2 32 hL2 rfl
        clear hE hO hV
        have HF := Lib.hid hF
        clear hF
        exact Rely.Good.enter (f := 43) (args := #[labL a, labL delta]) (by go_simp) ((xor_lab a delta wv HW.out.2.1 HW.out.1).mono fun e w2 hc => ⟨0, _, hc.1, fun _ _ => by rw [show Garb.nadd a delta = xa from HQ.out.2.2.1.1]; rfl, HF.out.val 3 0 (by decide) hc.2⟩)
      refine Rely.Steps.cons (fun L γ ev wv hL hE hF hC hCf hO hV => ?_) ?_
      · clear hL
        have v9 : ev (.tmp 9) = .int .u64 (s : Int) := (hO 9 (by kernel_rfl)).trans rfl
        clear hE hO hV
        exact Rely.Good.value 0 (u := .int .u64 (s : Int)) (by go_simp) (fun _ _ => rfl) (hF.same 4 0 (by decide))
      refine Rely.Steps.cons (fun L γ ev wv hL hE hF hC hCf hO hV => ?_) ?_
      · clear hL
        have hL0 : L 0 = true := hE _ (Array.mem_of_getElem? (i := 0) rfl) rfl
        have v30 : ev (.tmp 30) = .pointer (some ⟨g, 0, none⟩) := hV 0 30 hL0 rfl
        have hL3 : L 3 = true := hE _ (Array.mem_of_getElem? (i := 1) rfl) rfl
        have v33 : ev (.tmp 33) = labL xa := hV 3 33 hL3 rfl
        have hL4 : L 4 = true := hE _ (Array.mem_of_getElem? (i := 2) rfl) rfl
        have v34 : ev (.tmp 34) = .int .u64 (s : Int) := hV 4 34 hL4 rfl
        clear hE hO hV
        have hF0 := hF.b
        have HF := Lib.hid hF
        clear hF
        exact Rely.Good.enter (f := 42) (args := #[.pointer (some ⟨g, 0, none⟩), labL xa, .int .u64 (s : Int)]) (by go_simp) ((HQ.out.1.code wv g xa s (H2.out.2.1.x.below hF0) HW.out.2.2.2.2.2.1 HQ.out.2.2.2.1).mono fun e w2 hc => ⟨0, _, hc.1, fun _ _ => by rw [show H xa s = oA from HQ.out.2.1.2.2.1]; rfl, HF.out.val 5 0 (by decide) hc.2⟩)
      refine Rely.Steps.cons (fun L γ ev wv hL hE hF hC hCf hO hV => ?_) ?_
      · clear hL
        have v4 : ev (.tmp 4) = .pointer (some ⟨bc, 0, none⟩) := (hO 4 (by kernel_rfl)).trans rfl
        clear hE hO hV
        have hX := Blk.below H2.out.2.1.c hF.b (Blk.lt H2.out.2.1.c)
        have q0 := Blk.cell hX 0 rfl
        have HF := Lib.hid hF
        clear hX hF
        exact Rely.Good.value 0 (u := .pointer (some ⟨g, 0, none⟩)) (by go_simp) (fun _ _ => rfl) (HF.out.same 6 0 (by decide))
      refine Rely.Steps.cons (fun L γ ev wv hL hE hF hC hCf hO hV => ?_) ?_
      · clear hL
        have v7 : ev (.tmp 7) = .pointer (some ⟨w.heap.size + 1, 0, none⟩) := (hO 7 (by kernel_rfl)).trans rfl
        clear hE hO hV
        have hX := Blk.below H2.out.2.2.2.2.1 hF.b (Blk.lt H2.out.2.2.2.2.1)
        have q0 := Blk.cell hX 0 rfl
        have q1 := Blk.cell hX 1 rfl
        have HF := Lib.hid hF
        clear hX hF
        exact Rely.Good.value 0 (u := labL b) (by go_simp) (fun _ _ => rfl) (HF.out.same 7 0 (by decide))
      refine Rely.Steps.cons (fun L γ ev wv hL hE hF hC hCf hO hV => ?_) ?_
      · clear hL
        have v5 : ev (.tmp 5) = .pointer (some ⟨bd, 0, none⟩) := (hO 5 (by kernel_rfl)).trans rfl
        clear hE hO hV
        have hX := Blk.below H2.out.2.1.d hF.b (Blk.lt H2.out.2.1.d)
        have q0 := Blk.cell hX 0 rfl
        have q1 := Blk.cell hX 1 rfl
        have HF := Lib.hid hF
        clear hX hF
        exact Rely.Good.value 0 (u := labL delta) (by go_simp) (fun _ _ => rfl) (HF.out.same 8 0 (by decide))
      refine Rely.Steps.cons (fun L γ ev wv hL hE hF hC hCf hO hV => ?_) ?_
      · clear hL
        have hL7 : L 7 = true := hE _ (Array.mem_of_getElem? (i := 0) rfl) rfl
        have v37 : ev (.tmp 37) = labL b := hV 7 37 hL7 rfl
        have hL8 : L 8 = true := hE _ (Array.mem_of_getElem? (i := 1) rfl) rfl
        have v38 : ev (.tmp 38) = labL delta := hV 8 38 hL8 rfl
        clear hE hO hV
        have HF := Lib.hid hF
        clear hF
        exact Rely.Good.enter (f := 43) (args := #[labL b, labL delta]) (by go_simp) ((xor_lab b delta wv HW.out.2.2.1 HW.out.1).mono fun e w2 hc => ⟨0, _, hc.1, fun _ _ => by rw [show Garb.nadd b delta = xb from HQ.out.2.2.1.2.1]; rfl, HF.out.val 9 0 (by decide) hc.2⟩)
      refine Rely.Steps.cons (fun L γ ev wv hL hE hF hC hCf hO hV => ?_) ?_
      · clear hL
        have v9 : ev (.tmp 9) = .int .u64 (s : Int) := (hO 9 (by kernel_rfl)).trans rfl
        clear hE hO hV
        exact Rely.Good.value 0 (u := .int .u64 (s : Int)) (by go_simp) (fun _ _ => rfl) (hF.same 10 0 (by decide))
      refine Rely.Steps.cons (fun L γ ev wv hL hE hF hC hCf hO hV => ?_) ?_
      · clear hL
        have hL10 : L 10 = true := hE _ (Array.mem_of_getElem? (i := 0) rfl) rfl
        have v40 : ev (.tmp 40) = .int .u64 (s : Int) := hV 10 40 hL10 rfl
        clear hE hO hV
        exact Rely.Good.value 0 (u := .int .u64 (t : Int)) (by go_simp) (fun _ _ => rfl) (hF.same 11 0 (by decide))
      refine Rely.Steps.cons (fun L γ ev wv hL hE hF hC hCf hO hV => ?_) ?_
      · clear hL
        have hL6 : L 6 = true := hE _ (Array.mem_of_getElem? (i := 0) rfl) rfl
        have v36 : ev (.tmp 36) = .pointer (some ⟨g, 0, none⟩) := hV 6 36 hL6 rfl
        have hL9 : L 9 = true := hE _ (Array.mem_of_getElem? (i := 1) rfl) rfl
        have v39 : ev (.tmp 39) = labL xb := hV 9 39 hL9 rfl
        have hL11 : L 11 = true := hE _ (Array.mem_of_getElem? (i := 2) rfl) rfl
        have v41 : ev (.tmp 41) = .int .u64 (t : Int) := hV 11 41 hL11 rfl
        clear hE hO hV
        have hF0 := hF.b
        have HF := Lib.hid hF
        clear hF
        exact Rely.Good.enter (f := 42) (args := #[.pointer (some ⟨g, 0, none⟩), labL xb, .int .u64 (t : Int)]) (by go_simp) ((HQ.out.1.code wv g xb t (H2.out.2.1.x.below hF0) HW.out.2.2.2.2.2.2.1 HQ.out.2.2.2.2).mono fun e w2 hc => ⟨0, _, hc.1, fun _ _ => by rw [show H xb t = oB from HQ.out.2.1.2.2.2]; rfl, HF.out.val 12 0 (by decide) hc.2⟩)
      refine Rely.Steps.cons (fun L γ ev wv hL hE hF hC hCf hO hV => ?_) ?_
      · skip
        clear hE hO hV
        exact Rely.Good.value wv.heap.size (u := .pointer (some ⟨wv.heap.size, 0, none⟩)) (by go_simp) (fun _ _ => rfl) (hF.alloc rfl (i := 13) (s := 15) (by simp) hL)
      refine Rely.Steps.cons (fun L γ ev wv hL hE hF hC hCf hO hV => ?_) ?_
      · skip
        clear hE hO hV
        exact Rely.Good.value wv.heap.size (u := .pointer (some ⟨wv.heap.size, 0, none⟩)) (by go_simp) (fun _ _ => rfl) (hF.alloc rfl (i := 14) (s := 16) (by simp) hL)
      refine Rely.Steps.cons (fun L γ ev wv hL hE hF hC hCf hO hV => ?_) ?_
      · clear hL
        have hL13 : L 13 = true := hE _ (Array.mem_of_getElem? (i := 0) rfl) rfl
        have v12 : ev (.tmp 12) = .pointer (some ⟨(γ 13), 0, none⟩) := hV 13 12 hL13 rfl
        have hL5 : L 5 = true := hE _ (Array.mem_of_getElem? (i := 1) rfl) rfl
        have v35 : ev (.tmp 35) = labL oA := hV 5 35 hL5 rfl
        clear hE hO hV
        obtain ⟨y0, hX⟩ := hF.ready (i := 13) (s := 15) (by simp) hL13
        have HF := Lib.hid hF
        clear hF
        have q0 := Blk.cell hX 0 rfl
        have q1 := Blk.cell hX 1 rfl
        have qf := Blk.frozen hX
        clear hX
        exact Rely.Good.skip 0 (w' := stL wv (γ 13) oA) (by go_simp) rfl (HF.out.put rfl 0 (i := 13) (by simp) hL13)
      refine Rely.Steps.cons (fun L γ ev wv hL hE hF hC hCf hO hV => ?_) ?_
      · clear hL
        have hL14 : L 14 = true := hE _ (Array.mem_of_getElem? (i := 0) rfl) rfl
        have v13 : ev (.tmp 13) = .pointer (some ⟨(γ 14), 0, none⟩) := hV 14 13 hL14 rfl
        have hL12 : L 12 = true := hE _ (Array.mem_of_getElem? (i := 1) rfl) rfl
        have v42 : ev (.tmp 42) = labL oB := hV 12 42 hL12 rfl
        clear hE hO hV
        obtain ⟨y0, hX⟩ := hF.ready (i := 14) (s := 16) (by simp) hL14
        have HF := Lib.hid hF
        clear hF
        have q0 := Blk.cell hX 0 rfl
        have q1 := Blk.cell hX 1 rfl
        have qf := Blk.frozen hX
        clear hX
        exact Rely.Good.skip 0 (w' := stL wv (γ 14) oB) (by go_simp) rfl (HF.out.put rfl 0 (i := 14) (by simp) hL14)
      exact Rely.Steps.nil
    case hend =>
      intro γ w3 hF
      have n13 := hF.new (13, 15) (by simp) rfl
      have m13 : LbB w3 (γ 13) oA := n13.2
      have n14 := hF.new (14, 16) (by simp) rfl
      have m14 : LbB w3 (γ 14) oB := n14.2
      have hb := hF.b
      have H3 := Lib.hid (And.intro (H2.out.1.trans (hb.mono H2.out.1.size)) (And.intro (H2.out.2.1.below hb) (And.intro (Row.below H2.out.2.2.1 hb) (And.intro (Blk.below H2.out.2.2.2.1 hb (Blk.lt H2.out.2.2.2.1)) (And.intro (Blk.below H2.out.2.2.2.2.1 hb (Blk.lt H2.out.2.2.2.2.1)) (And.intro (Blk.below H2.out.2.2.2.2.2.1 hb (Blk.lt H2.out.2.2.2.2.2.1)) (And.intro (Nat.lt_of_lt_of_le H2.out.2.2.2.2.2.2.1 hb.size) (And.intro (Blk.below H2.out.2.2.2.2.2.2.2.1 hb (Blk.lt H2.out.2.2.2.2.2.2.2.1)) (And.intro H2.out.2.2.2.2.2.2.2.2.1 (And.intro (Blk.below H2.out.2.2.2.2.2.2.2.2.2.1 hb (Blk.lt H2.out.2.2.2.2.2.2.2.2.2.1)) (And.intro H2.out.2.2.2.2.2.2.2.2.2.2 (And.intro m13 (And.intro (show w.heap.size + 1 + 1 < γ 13 from Nat.lt_of_lt_of_le H2.out.2.2.2.2.2.2.1 n13.1) (And.intro m14 (show w.heap.size + 1 + 1 < γ 14 from Nat.lt_of_lt_of_le H2.out.2.2.2.2.2.2.1 n14.1)))))))))))))))
      clear hF hb n13 m13 n14 m14 H2
      simp only [Rely.fin, Act.put, List.setIfInBounds_toArray, List.set_cons_zero, List.set_cons_succ]
      generalize γ 13 = hgA at *
      generalize γ 14 = hgB at *
      go_wp2_with fail
      refine Rely.region (G := Nat) (vs := [fun _ => labL hA, fun _ => labL oA, fun _ => labL y, fun _ => labL delta, fun _ => labL b, fun _ => .bool (Garb.ncol b), fun _ => labL G, fun g => .pointer (some ⟨g, 0, none⟩), fun _ => undef]) (F := fun L γ w' => FN w3 [(7, 8)] (fun i => G) L γ w') (by kernel_rfl) (by kernel_rfl) rfl (fun _ => 0) (FN.start w3 _ (drew_below w3) _) ?hsteps ?hend
      case hsteps =>
        refine Rely.Steps.cons (fun L γ ev wv hL hE hF hC hCf hO hV => ?_) ?_
        · clear hL
          have v10 : ev (.tmp 10) = .pointer (some ⟨gA, 0, none⟩) := (hO 10 (by kernel_rfl)).trans rfl
          clear hE hO hV
          have hX := Blk.below H3.out.2.2.2.2.2.2.2.1 hF.b (Blk.lt H3.out.2.2.2.2.2.2.2.1)
          have q0 := Blk.cell hX 0 rfl
          have q1 := Blk.cell hX 1 rfl
          have HF := Lib.hid hF
          clear hX hF
          exact Rely.Good.value 0 (u := labL hA) (by go_simp) (fun _ _ => rfl) (HF.out.same 0 0 (by decide))
        refine Rely.Steps.cons (fun L γ ev wv hL hE hF hC hCf hO hV => ?_) ?_
        · clear hL
          have v12 : ev (.tmp 12) = .pointer (some ⟨hgA, 0, none⟩) := (hO 12 (by kernel_rfl)).trans rfl
          clear hE hO hV
          have hX := Blk.below H3.out.2.2.2.2.2.2.2.2.2.2.2.1 hF.b (Blk.lt H3.out.2.2.2.2.2.2.2.2.2.2.2.1)
          have q0 := Blk.cell hX 0 rfl
          have q1 := Blk.cell hX 1 rfl
          have HF := Lib.hid hF
          clear hX hF
          exact Rely.Good.value 0 (u := labL oA) (by go_simp) (fun _ _ => rfl) (HF.out.same 1 0 (by decide))
        refine Rely.Steps.cons (fun L γ ev wv hL hE hF hC hCf hO hV => ?_) ?_
        · clear hL
          have hL0 : L 0 = true := hE _ (Array.mem_of_getElem? (i := 0) rfl) rfl
          have v43 : ev (.tmp 43) = labL hA := hV 0 43 hL0 rfl
          have hL1 : L 1 = true := hE _ (Array.mem_of_getElem? (i := 1) rfl) rfl
          have v44 : ev (.tmp 44) = labL oA := hV 1 44 hL1 rfl
          clear hE hO hV
          have HF := Lib.hid hF
          clear hF
          exact Rely.Good.enter (f := 43) (args := #[labL hA, labL oA]) (by go_simp) ((xor_lab hA oA wv HW.out.2.2.2.1 HW.out.2.2.2.2.2.2.2.1).mono fun e w2 hc => ⟨0, _, hc.1, fun _ _ => by rw [show Garb.nadd hA oA = y from HQ.out.2.2.1.2.2.1]; rfl, HF.out.val 2 0 (by decide) hc.2⟩)
        refine Rely.Steps.cons (fun L γ ev wv hL hE hF hC hCf hO hV => ?_) ?_
        · clear hL
          have v5 : ev (.tmp 5) = .pointer (some ⟨bd, 0, none⟩) := (hO 5 (by kernel_rfl)).trans rfl
          clear hE hO hV
          have hX := Blk.below H3.out.2.1.d hF.b (Blk.lt H3.out.2.1.d)
          have q0 := Blk.cell hX 0 rfl
          have q1 := Blk.cell hX 1 rfl
          have HF := Lib.hid hF
          clear hX hF
          exact Rely.Good.value 0 (u := labL delta) (by go_simp) (fun _ _ => rfl) (HF.out.same 3 0 (by decide))
        refine Rely.Steps.cons (fun L γ ev wv hL hE hF hC hCf hO hV => ?_) ?_
        · clear hL
          have v7 : ev (.tmp 7) = .pointer (some ⟨w.heap.size + 1, 0, none⟩) := (hO 7 (by kernel_rfl)).trans rfl
          clear hE hO hV
          have hX := Blk.below H3.out.2.2.2.2.1 hF.b (Blk.lt H3.out.2.2.2.2.1)
          have q0 := Blk.cell hX 0 rfl
          have q1 := Blk.cell hX 1 rfl
          have HF := Lib.hid hF
          clear hX hF
          exact Rely.Good.value 0 (u := labL b) (by go_simp) (fun _ _ => rfl) (HF.out.same 4 0 (by decide))
        refine Rely.Steps.cons (fun L γ ev wv hL hE hF hC hCf hO hV => ?_) ?_
        · clear hL
          have hL4 : L 4 = true := hE _ (Array.mem_of_getElem? (i := 0) rfl) rfl
          have v47 : ev (.tmp 47) = labL b := hV 4 47 hL4 rfl
          clear hE hO hV
          have HF := Lib.hid hF
          clear hF
          exact Rely.Good.enter (f := 37) (args := #[labL b]) (by go_simp) ((coloured_any b wv).mono fun e w2 hc => ⟨0, _, hc.1, fun _ _ => rfl, HF.out.val 5 0 (by decide) hc.2⟩)
        refine Rely.Steps.cons (fun L γ ev wv hL hE hF hC hCf hO hV => ?_) ?_
        · clear hL
          have hL2 : L 2 = true := hE _ (Array.mem_of_getElem? (i := 0) rfl) rfl
          have v45 : ev (.tmp 45) = labL y := hV 2 45 hL2 rfl
          have hL3 : L 3 = true := hE _ (Array.mem_of_getElem? (i := 1) rfl) rfl
          have v46 : ev (.tmp 46) = labL delta := hV 3 46 hL3 rfl
          have hL5 : L 5 = true := hE _ (Array.mem_of_getElem? (i := 2) rfl) rfl
          have v48 : ev (.tmp 48) = .bool (Garb.ncol b) := hV 5 48 hL5 rfl
          clear hE hO hV
          have HF := Lib.hid hF
          clear hF
          exact Rely.Good.enter (f := 20) (args := #[labL y, labL delta, .bool (Garb.ncol b)]) (by go_simp) ((label_any y delta (Garb.ncol b) wv HW.out.2.2.2.2.2.2.2.2.2.1 HW.out.1).mono fun e w2 hc => ⟨0, _, hc.1, fun _ _ => by rw [show Garb.lab Garb.nadd y delta (Garb.ncol b) = G from HQ.out.2.2.1.2.2.2.2.1]; rfl, HF.out.val 6 0 (by decide) hc.2⟩)
        refine Rely.Steps.cons (fun L γ ev wv hL hE hF hC hCf hO hV => ?_) ?_
        · skip
          clear hE hO hV
          exact Rely.Good.value wv.heap.size (u := .pointer (some ⟨wv.heap.size, 0, none⟩)) (by go_simp) (fun _ _ => rfl) (hF.alloc rfl (i := 7) (s := 8) (by simp) hL)
        refine Rely.Steps.cons (fun L γ ev wv hL hE hF hC hCf hO hV => ?_) ?_
        · clear hL
          have hL7 : L 7 = true := hE _ (Array.mem_of_getElem? (i := 0) rfl) rfl
          have v14 : ev (.tmp 14) = .pointer (some ⟨(γ 7), 0, none⟩) := hV 7 14 hL7 rfl
          have hL6 : L 6 = true := hE _ (Array.mem_of_getElem? (i := 1) rfl) rfl
          have v49 : ev (.tmp 49) = labL G := hV 6 49 hL6 rfl
          clear hE hO hV
          obtain ⟨y0, hX⟩ := hF.ready (i := 7) (s := 8) (by simp) hL7
          have HF := Lib.hid hF
          clear hF
          have q0 := Blk.cell hX 0 rfl
          have q1 := Blk.cell hX 1 rfl
          have qf := Blk.frozen hX
          clear hX
          exact Rely.Good.skip 0 (w' := stL wv (γ 7) G) (by go_simp) rfl (HF.out.put rfl 0 (i := 7) (by simp) hL7)
        exact Rely.Steps.nil
      case hend =>
        intro γ w4 hF
        have n7 := hF.new (7, 8) (by simp) rfl
        have m7 : LbB w4 (γ 7) G := n7.2
        have hb := hF.b
        have H4 := Lib.hid (And.intro (H3.out.1.trans (hb.mono H3.out.1.size)) (And.intro (H3.out.2.1.below hb) (And.intro (Row.below H3.out.2.2.1 hb) (And.intro (Blk.below H3.out.2.2.2.1 hb (Blk.lt H3.out.2.2.2.1)) (And.intro (Blk.below H3.out.2.2.2.2.1 hb (Blk.lt H3.out.2.2.2.2.1)) (And.intro (Blk.below H3.out.2.2.2.2.2.1 hb (Blk.lt H3.out.2.2.2.2.2.1)) (And.intro (Nat.lt_of_lt_of_le H3.out.2.2.2.2.2.2.1 hb.size) (And.intro (Blk.below H3.out.2.2.2.2.2.2.2.1 hb (Blk.lt H3.out.2.2.2.2.2.2.2.1)) (And.intro H3.out.2.2.2.2.2.2.2.2.1 (And.intro (Blk.below H3.out.2.2.2.2.2.2.2.2.2.1 hb (Blk.lt H3.out.2.2.2.2.2.2.2.2.2.1)) (And.intro H3.out.2.2.2.2.2.2.2.2.2.2.1 (And.intro (Blk.below H3.out.2.2.2.2.2.2.2.2.2.2.2.1 hb (Blk.lt H3.out.2.2.2.2.2.2.2.2.2.2.2.1)) (And.intro H3.out.2.2.2.2.2.2.2.2.2.2.2.2.1 (And.intro (Blk.below H3.out.2.2.2.2.2.2.2.2.2.2.2.2.2.1 hb (Blk.lt H3.out.2.2.2.2.2.2.2.2.2.2.2.2.2.1)) (And.intro H3.out.2.2.2.2.2.2.2.2.2.2.2.2.2.2 (And.intro m7 (show w.heap.size + 1 + 1 < γ 7 from Nat.lt_of_lt_of_le H3.out.2.2.2.2.2.2.1 n7.1)))))))))))))))))
        clear hF hb n7 m7 H3
        simp only [Rely.fin, Act.put, List.setIfInBounds_toArray, List.set_cons_zero, List.set_cons_succ]
        generalize γ 7 = gG at *
        go_wp2_with fail
        refine Rely.region (G := Nat) (vs := [fun _ => labL hB, fun _ => labL oB, fun _ => labL z, fun _ => labL a, fun _ => labL E, fun g => .pointer (some ⟨g, 0, none⟩), fun _ => undef]) (F := fun L γ w' => FN w4 [(5, 6)] (fun i => E) L γ w') (by kernel_rfl) (by kernel_rfl) rfl (fun _ => 0) (FN.start w4 _ (drew_below w4) _) ?hsteps ?hend
        case hsteps =>
          refine Rely.Steps.cons (fun L γ ev wv hL hE hF hC hCf hO hV => ?_) ?_
          · clear hL
            have v11 : ev (.tmp 11) = .pointer (some ⟨gB, 0, none⟩) := (hO 11 (by kernel_rfl)).trans rfl
            clear hE hO hV
            have hX := Blk.below H4.out.2.2.2.2.2.2.2.2.2.1 hF.b (Blk.lt H4.out.2.2.2.2.2.2.2.2.2.1)
            have q0 := Blk.cell hX 0 rfl
            have q1 := Blk.cell hX 1 rfl
            have HF := Lib.hid hF
            clear hX hF
            exact Rely.Good.value 0 (u := labL hB) (by go_simp) (fun _ _ => rfl) (HF.out.same 0 0 (by decide))
          refine Rely.Steps.cons (fun L γ ev wv hL hE hF hC hCf hO hV => ?_) ?_
          · clear hL
            have v13 : ev (.tmp 13) = .pointer (some ⟨hgB, 0, none⟩) := (hO 13 (by kernel_rfl)).trans rfl
            clear hE hO hV
            have hX := Blk.below H4.out.2.2.2.2.2.2.2.2.2.2.2.2.2.1 hF.b (Blk.lt H4.out.2.2.2.2.2.2.2.2.2.2.2.2.2.1)
            have q0 := Blk.cell hX 0 rfl
            have q1 := Blk.cell hX 1 rfl
            have HF := Lib.hid hF
            clear hX hF
            exact Rely.Good.value 0 (u := labL oB) (by go_simp) (fun _ _ => rfl) (HF.out.same 1 0 (by decide))
          refine Rely.Steps.cons (fun L γ ev wv hL hE hF hC hCf hO hV => ?_) ?_
          · clear hL
            have hL0 : L 0 = true := hE _ (Array.mem_of_getElem? (i := 0) rfl) rfl
            have v50 : ev (.tmp 50) = labL hB := hV 0 50 hL0 rfl
            have hL1 : L 1 = true := hE _ (Array.mem_of_getElem? (i := 1) rfl) rfl
            have v51 : ev (.tmp 51) = labL oB := hV 1 51 hL1 rfl
            clear hE hO hV
            have HF := Lib.hid hF
            clear hF
            exact Rely.Good.enter (f := 43) (args := #[labL hB, labL oB]) (by go_simp) ((xor_lab hB oB wv HW.out.2.2.2.2.1 HW.out.2.2.2.2.2.2.2.2.1).mono fun e w2 hc => ⟨0, _, hc.1, fun _ _ => by rw [show Garb.nadd hB oB = z from HQ.out.2.2.1.2.2.2.1]; rfl, HF.out.val 2 0 (by decide) hc.2⟩)
          refine Rely.Steps.cons (fun L γ ev wv hL hE hF hC hCf hO hV => ?_) ?_
          · clear hL
            have v6 : ev (.tmp 6) = .pointer (some ⟨w.heap.size, 0, none⟩) := (hO 6 (by kernel_rfl)).trans rfl
            clear hE hO hV
            have hX := Blk.below H4.out.2.2.2.1 hF.b (Blk.lt H4.out.2.2.2.1)
            have q0 := Blk.cell hX 0 rfl
            have q1 := Blk.cell hX 1 rfl
            have HF := Lib.hid hF
            clear hX hF
            exact Rely.Good.value 0 (u := labL a) (by go_simp) (fun _ _ => rfl) (HF.out.same 3 0 (by decide))
          refine Rely.Steps.cons (fun L γ ev wv hL hE hF hC hCf hO hV => ?_) ?_
          · clear hL
            have hL2 : L 2 = true := hE _ (Array.mem_of_getElem? (i := 0) rfl) rfl
            have v52 : ev (.tmp 52) = labL z := hV 2 52 hL2 rfl
            have hL3 : L 3 = true := hE _ (Array.mem_of_getElem? (i := 1) rfl) rfl
            have v53 : ev (.tmp 53) = labL a := hV 3 53 hL3 rfl
            clear hE hO hV
            have HF := Lib.hid hF
            clear hF
            exact Rely.Good.enter (f := 43) (args := #[labL z, labL a]) (by go_simp) ((xor_lab z a wv HW.out.2.2.2.2.2.2.2.2.2.2.1 HW.out.2.1).mono fun e w2 hc => ⟨0, _, hc.1, fun _ _ => by rw [show Garb.nadd z a = E from HQ.out.2.2.1.2.2.2.2.2.1]; rfl, HF.out.val 4 0 (by decide) hc.2⟩)
          refine Rely.Steps.cons (fun L γ ev wv hL hE hF hC hCf hO hV => ?_) ?_
          · skip
            clear hE hO hV
            exact Rely.Good.value wv.heap.size (u := .pointer (some ⟨wv.heap.size, 0, none⟩)) (by go_simp) (fun _ _ => rfl) (hF.alloc rfl (i := 5) (s := 6) (by simp) hL)
          refine Rely.Steps.cons (fun L γ ev wv hL hE hF hC hCf hO hV => ?_) ?_
          · clear hL
            have hL5 : L 5 = true := hE _ (Array.mem_of_getElem? (i := 0) rfl) rfl
            have v15 : ev (.tmp 15) = .pointer (some ⟨(γ 5), 0, none⟩) := hV 5 15 hL5 rfl
            have hL4 : L 4 = true := hE _ (Array.mem_of_getElem? (i := 1) rfl) rfl
            have v54 : ev (.tmp 54) = labL E := hV 4 54 hL4 rfl
            clear hE hO hV
            obtain ⟨y0, hX⟩ := hF.ready (i := 5) (s := 6) (by simp) hL5
            have HF := Lib.hid hF
            clear hF
            have q0 := Blk.cell hX 0 rfl
            have q1 := Blk.cell hX 1 rfl
            have qf := Blk.frozen hX
            clear hX
            exact Rely.Good.skip 0 (w' := stL wv (γ 5) E) (by go_simp) rfl (HF.out.put rfl 0 (i := 5) (by simp) hL5)
          exact Rely.Steps.nil
        case hend =>
          intro γ w5 hF
          have n5 := hF.new (5, 6) (by simp) rfl
          have m5 : LbB w5 (γ 5) E := n5.2
          have hb := hF.b
          have H5 := Lib.hid (And.intro (H4.out.1.trans (hb.mono H4.out.1.size)) (And.intro (H4.out.2.1.below hb) (And.intro (Row.below H4.out.2.2.1 hb) (And.intro (Blk.below H4.out.2.2.2.1 hb (Blk.lt H4.out.2.2.2.1)) (And.intro (Blk.below H4.out.2.2.2.2.1 hb (Blk.lt H4.out.2.2.2.2.1)) (And.intro (Blk.below H4.out.2.2.2.2.2.1 hb (Blk.lt H4.out.2.2.2.2.2.1)) (And.intro (Nat.lt_of_lt_of_le H4.out.2.2.2.2.2.2.1 hb.size) (And.intro (Blk.below H4.out.2.2.2.2.2.2.2.1 hb (Blk.lt H4.out.2.2.2.2.2.2.2.1)) (And.intro H4.out.2.2.2.2.2.2.2.2.1 (And.intro (Blk.below H4.out.2.2.2.2.2.2.2.2.2.1 hb (Blk.lt H4.out.2.2.2.2.2.2.2.2.2.1)) (And.intro H4.out.2.2.2.2.2.2.2.2.2.2.1 (And.intro (Blk.below H4.out.2.2.2.2.2.2.2.2.2.2.2.1 hb (Blk.lt H4.out.2.2.2.2.2.2.2.2.2.2.2.1)) (And.intro H4.out.2.2.2.2.2.2.2.2.2.2.2.2.1 (And.intro (Blk.below H4.out.2.2.2.2.2.2.2.2.2.2.2.2.2.1 hb (Blk.lt H4.out.2.2.2.2.2.2.2.2.2.2.2.2.2.1)) (And.intro H4.out.2.2.2.2.2.2.2.2.2.2.2.2.2.2.1 (And.intro (Blk.below H4.out.2.2.2.2.2.2.2.2.2.2.2.2.2.2.2.1 hb (Blk.lt H4.out.2.2.2.2.2.2.2.2.2.2.2.2.2.2.2.1)) (And.intro H4.out.2.2.2.2.2.2.2.2.2.2.2.2.2.2.2.2 (And.intro m5 (show w.heap.size + 1 + 1 < γ 5 from Nat.lt_of_lt_of_le H4.out.2.2.2.2.2.2.1 n5.1)))))))))))))))))))
          clear hF hb n5 m5 H4
          simp only [Rely.fin, Act.put, List.setIfInBounds_toArray, List.set_cons_zero, List.set_cons_succ]
          generalize γ 5 = gE at *
          have hw5 := H5.out.1.size
          obtain ⟨gt, kt, w6, hr, hgB, hR6, hgr, hor⟩ := append_two w5 B _ (2 * j) tab M G E H5.out.2.2.1 HM.out.1 HM.out.2.1 HM.out.2.2.1 (by have := HM.out.2.2.2.2; omega) (Nat.le_trans HN.out.2.2.2.2.2.2.2 hw5)
          have hc6 : Chg (fun q => q = bt ∨ tv.ownBlock = some q) w5 w6 := ((Chg.refl _ w5).alloc (.cells #[.int .u64 (G.1 : Int), .int .u64 (G.2 : Int), .int .u64 (E.1 : Int), .int .u64 (E.2 : Int)] 28)).grown hgr (fun q hq => .inr (.inr (by rw [hte]; exact hq)))
          have nb : ∀ q, w.heap.size ≤ q → ¬ (q = bt ∨ tv.ownBlock = some q) := fun q hq h => by
            rcases h with h | h
            · have := HN.out.2.2.2.2.1; omega
            · have := (HN.out.2.2.2.2.2.1 q h).2.1; omega
          have nbt : ¬ (tv.ownBlock = some bt) := fun h => by
            obtain ⟨_, _, cur, hc⟩ := HN.out.2.2.2.2.2.1 bt h
            exact Blk.ne hc (HG0.out) (by decide) rfl
          have hbt6 : Blk w6 bt 29 #[.slice At (2 * j) ct] := H5.out.2.1.t.chg (((Chg.refl (fun q => tv.ownBlock = some q) w5).alloc (.cells #[.int .u64 (G.1 : Int), .int .u64 (G.2 : Int), .int .u64 (E.1 : Int), .int .u64 (E.2 : Int)] 28)).grown hgr (fun q hq => .inr (by rw [hte]; exact hq))) nbt
          have qt0 := H5.out.2.1.t.cell 0 (v := .slice At (2 * j) ct) rfl
          have qg0 := Blk.cell H5.out.2.2.2.2.2.2.2.2.2.2.2.2.2.2.2.1 0 rfl
          have qg1 := Blk.cell H5.out.2.2.2.2.2.2.2.2.2.2.2.2.2.2.2.1 1 rfl
          have qe0 := Blk.cell H5.out.2.2.2.2.2.2.2.2.2.2.2.2.2.2.2.2.2.1 0 rfl
          have qe1 := Blk.cell H5.out.2.2.2.2.2.2.2.2.2.2.2.2.2.2.2.2.2.1 1 rfl
          have qt6 := hbt6.cell 0 (v := .slice At (2 * j) ct) rfl
          have qf6 := hbt6.frozen
          have hbt7 := hbt6.set 0 (.slice (some ⟨gt, 0, none⟩) (2 * j + 2) kt)
          have hc7 := hc6.set (p := ⟨bt, 0, none⟩) (.inr (.inl rfl)) (.slice (some ⟨gt, 0, none⟩) (2 * j + 2) kt)
          have hgtn : gt ≠ bt := fun e => by
            rcases hor with h | h
            · exact nbt (by rw [hte, h, e])
            · have := HN.out.2.2.2.2.1; omega
          have hR7 := hR6.chg ((Chg.refl (fun q => q = bt) w6).set (p := ⟨bt, 0, none⟩) (.inr rfl) (.slice (some ⟨gt, 0, none⟩) (2 * j + 2) kt)) (fun q hq e => by
            obtain rfl : gt = q := Option.some.inj hq
            exact hgtn e)
          have G7 := H5.out.2.1.chg hc7 hbt7 HN.out.2.1 HN.out.2.2.1 HN.out.1 HN.out.2.2.2.1
          have hor7 : tv.ownBlock = some gt ∨ w.heap.size + 1 + 1 < gt := by
            rcases hor with h | h
            · exact .inl (by rw [hte]; exact h)
            · right; have := Blk.lt H5.out.2.2.2.2.2.1; omega
          have HR := Lib.hid hr
          have hcw : Chg (fun q => q = bt ∨ tv.ownBlock = some q) w _ := (Chg.ofBelow H5.out.1).trans hc7
          have H7 := Lib.hid (And.intro hcw (And.intro G7 (And.intro hR7 (And.intro hor7 (And.intro hgtn (And.intro (Blk.chg H5.out.2.2.2.1 hc7 (nb _ (Nat.le_refl _))) (And.intro (Blk.chg H5.out.2.2.2.2.1 hc7 (nb _ (by omega))) (And.intro (Blk.chg H5.out.2.2.2.2.2.1 hc7 (nb _ (by omega))) (And.intro (Nat.lt_of_lt_of_le H5.out.2.2.2.2.2.2.1 hc7.size) (And.intro (Blk.chg H5.out.2.2.2.2.2.2.2.1 hc7 (nb _ (by have := H5.out.2.2.2.2.2.2.2.2.1; omega))) (And.intro H5.out.2.2.2.2.2.2.2.2.1 (And.intro (Blk.chg H5.out.2.2.2.2.2.2.2.2.2.1 hc7 (nb _ (by have := H5.out.2.2.2.2.2.2.2.2.2.2.1; omega))) (And.intro H5.out.2.2.2.2.2.2.2.2.2.2.1 (And.intro (Blk.chg H5.out.2.2.2.2.2.2.2.2.2.2.2.1 hc7 (nb _ (by have := H5.out.2.2.2.2.2.2.2.2.2.2.2.2.1; omega))) (And.intro H5.out.2.2.2.2.2.2.2.2.2.2.2.2.1 (And.intro (Blk.chg H5.out.2.2.2.2.2.2.2.2.2.2.2.2.2.1 hc7 (nb _ (by have := H5.out.2.2.2.2.2.2.2.2.2.2.2.2.2.2.1; omega))) (And.intro H5.out.2.2.2.2.2.2.2.2.2.2.2.2.2.2.1 (And.intro (Blk.chg H5.out.2.2.2.2.2.2.2.2.2.2.2.2.2.2.2.1 hc7 (nb _ (by have := H5.out.2.2.2.2.2.2.2.2.2.2.2.2.2.2.2.2.1; omega))) (And.intro H5.out.2.2.2.2.2.2.2.2.2.2.2.2.2.2.2.2.1 (And.intro (Blk.chg H5.out.2.2.2.2.2.2.2.2.2.2.2.2.2.2.2.2.2.1 hc7 (nb _ (by have := H5.out.2.2.2.2.2.2.2.2.2.2.2.2.2.2.2.2.2.2; omega))) H5.out.2.2.2.2.2.2.2.2.2.2.2.2.2.2.2.2.2.2))))))))))))))))))))
          clear hw5 hgB hR6 hgr hor hc6 nb nbt hbt6 hbt7 hc7 hgtn hR7 G7 hor7 hr hcw H5 e3
          go_wp2_with (at_builtin; refine wpList_append_run rfl _ _ 29 rfl (.slice At (2 * j) ct) (.slice (some ⟨w5.heap.size, 0, none⟩) 2 2) (.slice (some ⟨gt, 0, none⟩) (2 * j + 2) kt) w6 rfl rfl (HR.out _) ?_)
          clear HR qt0 qg0 qg1 qe0 qe1 qt6 qf6
          generalize w6.setCell ⟨bt, 0, none⟩ (.slice (some ⟨gt, 0, none⟩) (2 * j + 2) kt) = w7 at *
          refine Rely.region (G := Nat) (vs := [fun _ => labL a, fun _ => labL hA, fun _ => labL G, fun _ => halfV a hA G, fun _ => labL b, fun _ => labL hB, fun _ => labL E, fun _ => labL a, fun _ => labL u, fun _ => halfV b hB u, fun _ => labL r, fun _ => undef]) (F := fun L _ w' => FO w7 (w.heap.size + 1 + 1) 11 r (0, 0) L w') (by kernel_rfl) (by kernel_rfl) rfl (fun _ => 0) (FO.start w7 _ (drew_below w7) H7.out.2.2.2.2.2.2.2.1) ?hsteps ?hend
          case hsteps =>
            refine Rely.Steps.cons (fun L γ ev wv hL hE hF hC hCf hO hV => ?_) ?_
            · clear hL
              have v6 : ev (.tmp 6) = .pointer (some ⟨w.heap.size, 0, none⟩) := (hO 6 (by kernel_rfl)).trans rfl
              clear hE hO hV
              have hX := Blk.chg H7.out.2.2.2.2.2.1 hF.c (by omega)
              have q0 := Blk.cell hX 0 rfl
              have q1 := Blk.cell hX 1 rfl
              have HF := Lib.hid hF
              clear hX hF
              exact Rely.Good.value 0 (u := labL a) (by go_simp) (fun _ _ => rfl) (HF.out.same 0 (by decide))
            refine Rely.Steps.cons (fun L γ ev wv hL hE hF hC hCf hO hV => ?_) ?_
            · clear hL
              have v10 : ev (.tmp 10) = .pointer (some ⟨gA, 0, none⟩) := (hO 10 (by kernel_rfl)).trans rfl
              clear hE hO hV
              have hX := Blk.chg H7.out.2.2.2.2.2.2.2.2.2.1 hF.c (by have := H7.out.2.2.2.2.2.2.2.2.2.2.1; omega)
              have q0 := Blk.cell hX 0 rfl
              have q1 := Blk.cell hX 1 rfl
              have HF := Lib.hid hF
              clear hX hF
              exact Rely.Good.value 0 (u := labL hA) (by go_simp) (fun _ _ => rfl) (HF.out.same 1 (by decide))
            refine Rely.Steps.cons (fun L γ ev wv hL hE hF hC hCf hO hV => ?_) ?_
            · clear hL
              have v14 : ev (.tmp 14) = .pointer (some ⟨gG, 0, none⟩) := (hO 14 (by kernel_rfl)).trans rfl
              clear hE hO hV
              have hX := Blk.chg H7.out.2.2.2.2.2.2.2.2.2.2.2.2.2.2.2.2.2.1 hF.c (by have := H7.out.2.2.2.2.2.2.2.2.2.2.2.2.2.2.2.2.2.2.1; omega)
              have q0 := Blk.cell hX 0 rfl
              have q1 := Blk.cell hX 1 rfl
              have HF := Lib.hid hF
              clear hX hF
              exact Rely.Good.value 0 (u := labL G) (by go_simp) (fun _ _ => rfl) (HF.out.same 2 (by decide))
            refine Rely.Steps.cons (fun L γ ev wv hL hE hF hC hCf hO hV => ?_) ?_
            · clear hL
              have hL0 : L 0 = true := hE _ (Array.mem_of_getElem? (i := 0) rfl) rfl
              have v60 : ev (.tmp 60) = labL a := hV 0 60 hL0 rfl
              have hL1 : L 1 = true := hE _ (Array.mem_of_getElem? (i := 1) rfl) rfl
              have v61 : ev (.tmp 61) = labL hA := hV 1 61 hL1 rfl
              have hL2 : L 2 = true := hE _ (Array.mem_of_getElem? (i := 2) rfl) rfl
              have v62 : ev (.tmp 62) = labL G := hV 2 62 hL2 rfl
              clear hE hO hV
              exact Rely.Good.value 0 (u := halfV a hA G) (by go_simp) (fun _ _ => rfl) (hF.same 3 (by decide))
            refine Rely.Steps.cons (fun L γ ev wv hL hE hF hC hCf hO hV => ?_) ?_
            · clear hL
              have v7 : ev (.tmp 7) = .pointer (some ⟨w.heap.size + 1, 0, none⟩) := (hO 7 (by kernel_rfl)).trans rfl
              clear hE hO hV
              have hX := Blk.chg H7.out.2.2.2.2.2.2.1 hF.c (by omega)
              have q0 := Blk.cell hX 0 rfl
              have q1 := Blk.cell hX 1 rfl
              have HF := Lib.hid hF
              clear hX hF
              exact Rely.Good.value 0 (u := labL b) (by go_simp) (fun _ _ => rfl) (HF.out.same 4 (by decide))
            refine Rely.Steps.cons (fun L γ ev wv hL hE hF hC hCf hO hV => ?_) ?_
            · clear hL
              have v11 : ev (.tmp 11) = .pointer (some ⟨gB, 0, none⟩) := (hO 11 (by kernel_rfl)).trans rfl
              clear hE hO hV
              have hX := Blk.chg H7.out.2.2.2.2.2.2.2.2.2.2.2.1 hF.c (by have := H7.out.2.2.2.2.2.2.2.2.2.2.2.2.1; omega)
              have q0 := Blk.cell hX 0 rfl
              have q1 := Blk.cell hX 1 rfl
              have HF := Lib.hid hF
              clear hX hF
              exact Rely.Good.value 0 (u := labL hB) (by go_simp) (fun _ _ => rfl) (HF.out.same 5 (by decide))
            refine Rely.Steps.cons (fun L γ ev wv hL hE hF hC hCf hO hV => ?_) ?_
            · clear hL
              have v15 : ev (.tmp 15) = .pointer (some ⟨gE, 0, none⟩) := (hO 15 (by kernel_rfl)).trans rfl
              clear hE hO hV
              have hX := Blk.chg H7.out.2.2.2.2.2.2.2.2.2.2.2.2.2.2.2.2.2.2.2.1 hF.c (by have := H7.out.2.2.2.2.2.2.2.2.2.2.2.2.2.2.2.2.2.2.2.2; omega)
              have q0 := Blk.cell hX 0 rfl
              have q1 := Blk.cell hX 1 rfl
              have HF := Lib.hid hF
              clear hX hF
              exact Rely.Good.value 0 (u := labL E) (by go_simp) (fun _ _ => rfl) (HF.out.same 6 (by decide))
            refine Rely.Steps.cons (fun L γ ev wv hL hE hF hC hCf hO hV => ?_) ?_
            · clear hL
              have v6 : ev (.tmp 6) = .pointer (some ⟨w.heap.size, 0, none⟩) := (hO 6 (by kernel_rfl)).trans rfl
              clear hE hO hV
              have hX := Blk.chg H7.out.2.2.2.2.2.1 hF.c (by omega)
              have q0 := Blk.cell hX 0 rfl
              have q1 := Blk.cell hX 1 rfl
              have HF := Lib.hid hF
              clear hX hF
              exact Rely.Good.value 0 (u := labL a) (by go_simp) (fun _ _ => rfl) (HF.out.same 7 (by decide))
            refine Rely.Steps.cons (fun L γ ev wv hL hE hF hC hCf hO hV => ?_) ?_
            · clear hL
              have hL6 : L 6 = true := hE _ (Array.mem_of_getElem? (i := 0) rfl) rfl
              have v66 : ev (.tmp 66) = labL E := hV 6 66 hL6 rfl
              have hL7 : L 7 = true := hE _ (Array.mem_of_getElem? (i := 1) rfl) rfl
              have v67 : ev (.tmp 67) = labL a := hV 7 67 hL7 rfl
              clear hE hO hV
              have HF := Lib.hid hF
              clear hF
              exact Rely.Good.enter (f := 43) (args := #[labL E, labL a]) (by go_simp) ((xor_lab E a wv HW.out.2.2.2.2.2.2.2.2.2.2.2.2.1 HW.out.2.1).mono fun e w2 hc => ⟨0, _, hc.1, fun _ _ => by rw [show Garb.nadd E a = u from HQ.out.2.2.1.2.2.2.2.2.2.1]; rfl, HF.out.val 8 (by decide) hc.2⟩)
            refine Rely.Steps.cons (fun L γ ev wv hL hE hF hC hCf hO hV => ?_) ?_
            · clear hL
              have hL4 : L 4 = true := hE _ (Array.mem_of_getElem? (i := 0) rfl) rfl
              have v64 : ev (.tmp 64) = labL b := hV 4 64 hL4 rfl
              have hL5 : L 5 = true := hE _ (Array.mem_of_getElem? (i := 1) rfl) rfl
              have v65 : ev (.tmp 65) = labL hB := hV 5 65 hL5 rfl
              have hL8 : L 8 = true := hE _ (Array.mem_of_getElem? (i := 2) rfl) rfl
              have v68 : ev (.tmp 68) = labL u := hV 8 68 hL8 rfl
              clear hE hO hV
              exact Rely.Good.value 0 (u := halfV b hB u) (by go_simp) (fun _ _ => rfl) (hF.same 9 (by decide))
            refine Rely.Steps.cons (fun L γ ev wv hL hE hF hC hCf hO hV => ?_) ?_
            · clear hL
              have hL3 : L 3 = true := hE _ (Array.mem_of_getElem? (i := 0) rfl) rfl
              have v63 : ev (.tmp 63) = halfV a hA G := hV 3 63 hL3 rfl
              have hL9 : L 9 = true := hE _ (Array.mem_of_getElem? (i := 1) rfl) rfl
              have v69 : ev (.tmp 69) = halfV b hB u := hV 9 69 hL9 rfl
              clear hE hO hV
              have HF := Lib.hid hF
              clear hF
              exact Rely.Good.enter (f := 44) (args := #[halfV a hA G, halfV b hB u]) (by go_simp) ((join_any a hA G b hB u wv HW.out.2.1 HW.out.2.2.2.1 HW.out.2.2.2.2.2.2.2.2.2.2.2.1 HW.out.2.2.1 HW.out.2.2.2.2.1 HW.out.2.2.2.2.2.2.2.2.2.2.2.2.2).mono fun e w2 hc => ⟨0, _, hc.1, fun _ _ => by rw [show Garb.nadd (Garb.plus Garb.nadd hA (Garb.ncol a) G) (Garb.plus Garb.nadd hB (Garb.ncol b) u) = r from HQ.out.2.2.1.2.2.2.2.2.2.2]; rfl, HF.out.val 10 (by decide) hc.2⟩)
            refine Rely.Steps.cons (fun L γ ev wv hL hE hF hC hCf hO hV => ?_) ?_
            · clear hL
              have v8 : ev (.tmp 8) = .pointer (some ⟨w.heap.size + 1 + 1, 0, none⟩) := (hO 8 (by kernel_rfl)).trans rfl
              have hL10 : L 10 = true := hE _ (Array.mem_of_getElem? (i := 0) rfl) rfl
              have v70 : ev (.tmp 70) = labL r := hV 10 70 hL10 rfl
              clear hE hO hV
              have hX := hF.l
              have HF := Lib.hid hF
              obtain ⟨y0, hy⟩ : ∃ y, (if L 11 = true then r else ((0, 0) : Lab)) = y := ⟨_, rfl⟩
              rw [hy] at hX
              clear hy hF
              have q0 := Blk.cell hX 0 rfl
              have q1 := Blk.cell hX 1 rfl
              have qf := Blk.frozen hX
              clear hX
              exact Rely.Good.skip 0 (w' := stL wv (w.heap.size + 1 + 1) r) (by go_simp) rfl HF.out.put
            exact Rely.Steps.nil
          case hend =>
            intro γ w8 hF
            have hl : LbB w8 (w.heap.size + 1 + 1) r := hF.l
            have hc8 : Chg (fun q => q = bt ∨ tv.ownBlock = some q) w w8 := H7.out.1.trans2 hF.c (fun q h1 h2 => by omega)
            have hgt : gt ≠ w.heap.size + 1 + 1 := fun e => by
              rcases H7.out.2.2.2.1 with h | h
              · have := (HN.out.2.2.2.2.2.1 gt h).2.1; omega
              · omega
            have hR8 := H7.out.2.2.1.chg hF.c (fun q hq e => by
              obtain rfl : gt = q := Option.some.inj hq
              exact hgt e)
            have hG := H7.out.2.1
            have hG8 : Gc w8 bf bt bc bd g first (.slice (some ⟨gt, 0, none⟩) (2 * j + 2) kt) delta := hG.chg hF.c (hG.t.chg hF.c (by have := HN.out.2.2.2.2.1; omega)) (by have := HL0.out.1; omega) (by have := HL0.out.2.1; omega) (by have := HL0.out.2.2.1; omega) (by have := HL0.out.2.2.2; omega)
            have HF := Lib.hid (And.intro hl (And.intro hG8 (And.intro hR8 hc8)))
            have HO := Lib.hid H7.out.2.2.2.1
            clear hF hl hc8 hgt hR8 hG hG8 H7
            simp only [Rely.fin, Act.put, List.setIfInBounds_toArray, List.set_cons_zero, List.set_cons_succ]
            go_wp2
            refine bodyPost_ret (v := labL r) (res_labL rfl _ _ _ rfl HF.out.1) rfl ⟨rfl, gt, kt, HF.out.2.1, HF.out.2.2.1, ?_, ?_⟩
            · rcases HO.out with h | h
              · exact .inl (by rw [← hte]; exact h)
              · exact .inr (by omega)
            · rw [← hte]; exact HF.out.2.2.2
end Go.Proofs.YtamejhhjfnfalaaDoor
