/- The walk of the law RingMats: it answers true, and makes new memory alone. -/
import Derived.Test.YtbfflmjhkeaimaaDoorM6
import Derived.Test.YtbfflmjhkeaimaaDoorM5
import Derived.Test.YtbfflmjhkeaimaaDoorX4
import Derived.Deep.RegionHeld3
import Derived.Deep.DeepCutAuto
namespace Go.Proofs.YtbfflmjhkeaimaaDoor
open Go.RowKit

/-- The first h words of a list. -/
theorem run_headSlice (w : World) (A : Option Addr) (n c h : Nat) (hA : A = none → c = 0) (hc : h ≤ c) :
    (Instr.slice 28 (.slice A n c) none (some (.int .i64 (h : Int))) none).run Tryd.prog w = .ok (.slice A h c) w := by
  have hs : (sizeOf (Tryd.prog.elem 28)).run Tryd.prog w = .ok 1 w := by
    obtain ⟨i0, hi, _, hz1, _⟩ := info_parts Tryd.info22
    have he : Tryd.prog.elem 28 = 22 := by kernel_rfl
    rw [he]
    simp [sizeOf, typeInfo, hi, hz1]
  have hu : Tryd.prog.underlying 28 = some (.slice (Tryd.prog.elem 28)) := by rw [show Tryd.prog.elem 28 = 22 by kernel_rfl]; exact Tryd.underlying28
  have hr := run_slice_h w 28 A n c hu .i64 (h : Int) (by omega) (by omega)
  rw [hs] at hr
  rw [hr]
  simp only [Result.andThen, sliced, Int.toNat_natCast, Nat.sub_zero, Nat.zero_mul]
  rcases A with _ | ad
  · simp
  · simp [Addr.add]

theorem cut_le (w : World) (need : Nat) (h' : need ≤ maxLen) : need ≤ grownCap w need 0 22 ∧ grownCap w need 0 22 ≤ maxLen :=
  ⟨grownCap_ge w need 0 22, grownCap_le_maxLen w need 0 22 h'⟩
theorem keepA {w2 wp wa : World} {p : Prop} (h : p ∧ Hid (Below wp.heap.size wp wa)) (hp : Hid (Below w2.heap.size w2 wp)) : Hid (Below w2.heap.size w2 wa) := hp.out.trans (h.2.out.mono hp.out.size)
theorem keepB {w2 wp : World} {o : Obj} (hp : Hid (Below w2.heap.size w2 wp)) : Hid (Below w2.heap.size w2 (wp.alloc o)) := hp.out.alloc hp.out.size o
/-- append onto a new, empty list. -/
theorem append_empty (w : World) (b : Addr) (A : Option Addr) (m c : Nat) (f : Nat → Int) (hA : AtO w A m f) (hn : A = none → m = 0 ∧ c = 0) (hm : m ≤ 1000000) :
    ∃ v' w', (Builtin.append_ #[28, 28] 28 #[.slice (some b) 0 0, .slice A m c]).run Tryd.prog w = .ok v' w' ∧ (Hid (Lst w' v' m f) ∧ Hid (Below w.heap.size w w')) := by
  obtain ⟨i0, hi, hz0, hz1, hz2⟩ := info22
  rcases Nat.eq_zero_or_pos m with rfl | hp
  · refine ⟨.slice (some b) 0 0, w, ?_, ⟨some b, 0, rfl, Nat.le_refl _, Nat.zero_le _, fun h => (by cases h), AtO.none⟩, Below.refl _ _⟩
    rcases A with _ | ad
    · obtain ⟨_, rfl⟩ := hn rfl
      simp [Builtin.append_, run_underlying Tryd.underlying28, sizeOf, typeInfo, hi, Builtin.lenOf, Builtin.firstCells, storeCells]
    · simp [Builtin.append_, run_underlying Tryd.underlying28, sizeOf, typeInfo, hi, Builtin.lenOf, Builtin.firstCells, storeCells, loadCells, loadCellsFrom]
  · rcases A with _ | ad
    · have := (hn rfl).1; omega
    · have hr := run_append_grow (P := Tryd.prog) w 28 28 22 i0 (.int .u64 0) Tryd.underlying28 hi hz0 b 0 0 [] (by simp) (by intro j v h; simp at h) ad m c (wordsOf m f) (by rw [wordsOf_length, hz1, Nat.mul_one]) (news_of hA rfl)
        (by omega) (by omega) (by rw [Nat.zero_add, nextslicecap_zero hp, hz2]; omega)
      rw [Nat.zero_add] at hr
      have hcap := cut_le w m (by unfold maxLen; omega)
      refine ⟨_, _, hr, ⟨_, _, rfl, hcap.1, hcap.2, fun h => (by cases h), fun i hi => ⟨_, rfl, ?_⟩⟩, ((Below.refl w.heap.size w).drew).alloc (Nat.le_refl _) _⟩
      have e : (⟨w.heap.size, 0, none⟩ : Addr).add i = ⟨w.heap.size, i, none⟩ := by
        unfold Addr.add; split
        · subst i; rfl
        · simp
      rw [e, cell_of_row _ w.heap.size i _ 22 (0, 0) (heap_alloc_new w.drew _)]
      have hl : i < (wordsOf m f).toArray.size := by simp [wordsOf_length, hi]
      rw [show ([] : List Value).toArray = #[] from rfl, Array.empty_append, Array.getElem?_append_left hl, List.getElem?_toArray, wordsOf_get _ _ _ hi]

set_option maxHeartbeats 4000000 in
set_option maxRecDepth 100000 in
theorem mats_walk (a b : Value) (la lb : Nat) (f g : Nat → Int) (m k n : Int) (w : World) (hg : Handle w) (ha : Lst w a la f) (hb : Lst w b lb g) :
    Calls Tryd.prog 5 #[a, b, .agg #[.int .i64 m, .int .i64 k, .int .i64 n]] w fun e w' => e = .returned (.bool true) ∧ Below w.heap.size w w' := by
  obtain ⟨A, ca, rfl, hac, hcm, hAn, hA⟩ := ha
  obtain ⟨B, cb, rfl, hbc, hdm, hBn, hB⟩ := hb
  have HA := Lib.hid hA
  have HB := Lib.hid hB
  have HG := Lib.hid hg
  clear hA hB hg
  go_enter Tryd.func5, Tryd.ntmps5
  go_wp2_with fail
  have b0 := (Below.refl w.heap.size w).alloc (Nat.le_refl _) (.cells #[.int .i64 m, .int .i64 k, .int .i64 n] 32)
  have hbox : (w.alloc (.cells #[.int .i64 m, .int .i64 k, .int .i64 n] 32)).heap[w.heap.size]? = some (.cells #[.int .i64 m, .int .i64 k, .int .i64 n] 32 (0, 0)) := heap_alloc_new w _
  refine (awake_any _).mono ?_
  rintro e w1 ⟨rfl, hb1⟩
  have hbox1 := (hb1.block _ (by simp)).trans hbox
  have c0 : w1.cell? ⟨w.heap.size, 0, none⟩ = some (.int .i64 m) := by rw [cell_of_row w1 _ 0 _ _ _ hbox1]; rfl
  have c1 : w1.cell? ⟨w.heap.size, 1, none⟩ = some (.int .i64 k) := by rw [cell_of_row w1 _ 1 _ _ _ hbox1]; rfl
  have c2 : w1.cell? ⟨w.heap.size, 2, none⟩ = some (.int .i64 n) := by rw [cell_of_row w1 _ 2 _ _ _ hbox1]; rfl
  have hbw := b0.trans (hb1.mono (by simp))
  have HW := Lib.hid (And.intro hbw (And.intro (HA.out.below hbw) (And.intro (HB.out.below hbw) (HG.out.below hbw HG.out.pos))))
  clear b0 hbox hbox1 hb1 hbw HA HB HG
  go_wp2
  go_quiet (fail)
  go_upto_region 4 with fail
  clear c0 c1 c2
  have hA' : AtO (w1.drewN nq) A (min la 300) f := fun i hi => HW.out.2.1 i (by omega)
  have hB' : AtO (w1.drewN nq) B (min lb 300) g := fun i hi => HW.out.2.2.1 i (by omega)
  have hW' : Below w.heap.size w (w1.drewN nq) := ⟨HW.out.1.os, HW.out.1.tape, HW.out.1.output, HW.out.1.size, HW.out.1.block⟩
  have hG' : Handle (w1.drewN nq) := HW.out.2.2.2
  have HX := Lib.hid (And.intro hW' (And.intro hA' (And.intro hB' hG')))
  clear hA' hB' hW' hG' HW
  generalize w1.drewN nq = w2 at HX ⊢
  clear w1
  have r1 := fun wx => run_headSlice wx A la ca (min la 300) hAn (by omega)
  have r2 := fun wx => run_headSlice wx B lb cb (min lb 300) hBn (by omega)
  have NA := Lib.hid (show A = none → min la 300 = 0 ∧ ca = 0 from fun h => ⟨by have := hAn h; omega, hAn h⟩)
  have NB := Lib.hid (show B = none → min lb 300 = 0 ∧ cb = 0 from fun h => ⟨by have := hBn h; omega, hBn h⟩)
  have ma : min la 300 ≤ 300 := by omega
  have mb : min lb 300 ≤ 300 := by omega
  have ea : (if (300 : Int) < la then 300 else (la : Int)) = ((min la 300 : Nat) : Int) := by split <;> omega
  have ea' : (if 300 < la then (300 : Int) else (la : Int)) = ((min la 300 : Nat) : Int) := by split <;> omega
  have eb' : (if 300 < lb then (300 : Int) else (lb : Int)) = ((min lb 300 : Nat) : Int) := by split <;> omega
  have eb : (if (300 : Int) < lb then 300 else (lb : Int)) = ((min lb 300 : Nat) : Int) := by split <;> omega
  generalize min la 300 = la' at *
  generalize min lb 300 = lb' at *
  clear hAn hBn hac hbc hcm hdm
  go_cut [0, 1] (fun s0 s1 wx => Hid (Lst wx s0 la' f) ∧ Hid (Lst wx s1 lb' g) ∧ Hid (Below w2.heap.size w2 wx))
  case first =>
    go_region_held3 (fun w' => Hid (Below w2.heap.size w2 w')) (first | assumption | exact (Below.refl w2.heap.size w2).drew | exact ((Below.refl w2.heap.size w2).alloc (Nat.le_refl _) _).drew | exact (((Below.refl w2.heap.size w2).alloc (Nat.le_refl _) _).alloc (by simp) _).drew | exact keepA (by assumption) (by assumption) | exact keepB (by assumption))
      (first
        | (refine step_append_run (by rfl) _ _ 28 (by rfl) _ _ (by rfl) (by rfl) _ (append_empty _ _ A la' ca f (HX.out.2.1.below (Hid.out (by assumption))) NA.out (by omega)) ?_; intro va wa hva)
        | (refine step_append_run (by rfl) _ _ 28 (by rfl) _ _ (by rfl) (by rfl) _ (append_empty _ _ B lb' cb g (HX.out.2.2.1.below (Hid.out (by assumption))) NB.out (by omega)) ?_; intro vb wb hvb))
    all_goals
      go_wp2_with fail
      go_meet
      first
        | exact ⟨hva.1.out.below hvb.2.out, hvb.1, by assumption⟩
        | exact ⟨(hva.1.out.below ((Below.refl _ _).alloc (Nat.le_refl _) _)).below hvb.2.out, hvb.1, by assumption⟩
  case rest =>
    obtain ⟨H0, H1, H2⟩ := hcut
    clear r1 r2 ea ea' eb eb' NA NB
    obtain ⟨A', ca', rfl, a1, a2, a3, hA'⟩ := H0.out
    obtain ⟨B', cb', rfl, b1, b2, b3, hB'⟩ := H1.out
    have hbw := HX.out.1.trans (H2.out.mono HX.out.1.size)
    have hG := HX.out.2.2.2.below H2.out HX.out.2.2.2.pos
    have hempty : (wc.alloc (.cells #[] 22)).ownsRow wc.heap.size 22 1 (.slice (some ⟨wc.heap.size, 0, none⟩) 0 0) 0 (wordsOf 0 fun _ => 0) :=
      ⟨rfl, .inr ⟨wc.heap.size, 0, #[], rfl, Nat.le_refl _, heap_alloc_new wc _, Nat.le_refl _, Nat.zero_le _, rfl, rfl⟩⟩
    have hb3 : Below wc.heap.size wc (wc.alloc (.cells #[] 22)) := (Below.refl _ _).alloc (Nat.le_refl _) _
    obtain ⟨v4, w4, hr4, ho4, hb4⟩ := append_own (wc.alloc (.cells #[] 22)) wc.heap.size _ 0 la' (fun _ => 0) f A' ca' hempty (hA'.below hb3) (fun h => ⟨by have := a3 h; omega, a3 h⟩) (by omega) (by simp)
    rw [Nat.zero_add] at ho4
    have hb5 : Below wc.heap.size wc (w4.alloc (.cells #[.int .u64 7] 22)) := (hb3.trans hb4).alloc (hb3.trans hb4).size _
    have h7 : AtO (w4.alloc (.cells #[.int .u64 7] 22)) (some ⟨w4.heap.size, 0, none⟩) 1 (fun _ => 7) := fun q hq => ⟨_, rfl, by
      obtain rfl : q = 0 := by omega
      simp [Addr.add]⟩
    obtain ⟨v6, w6, hr6, ho6, hb6⟩ := append_own (w4.alloc (.cells #[.int .u64 7] 22)) wc.heap.size v4 la' 1 _ (fun _ => 7) (some ⟨w4.heap.size, 0, none⟩) 1 (ho4.alloc _) h7 (fun h => by cases h) (by omega) hb5.size
    obtain ⟨gr, cr, rfl⟩ : ∃ gr cr, v6 = .slice (some ⟨gr, 0, none⟩) (la' + 1) cr := by
      rcases ho6.2 with ⟨_, h0⟩ | ⟨gr, cr, _, h0, _⟩
      · omega
      · exact ⟨gr, cr, h0⟩
    have hroom := own_lst ho6
    obtain ⟨A6, c6, e6, c6a, c6b, _, hA6⟩ := hroom
    cases e6
    have hb7 := hb5.trans hb6
    have H6 := Lib.hid (And.intro (hbw.trans (hb7.mono hbw.size)) (And.intro hA6 (And.intro (hA'.below hb7) (And.intro (hB'.below hb7) (hG.below hb7 hG.pos)))))
    have HR4 := Lib.hid hr4
    have HR6 := Lib.hid hr6
    have r3 := fun wx => run_headSlice wx (some ⟨gr, 0, none⟩) (la' + 1) cr la' (fun h => by cases h) (by omega)
    clear hbw hG hempty hb3 hr4 ho4 hb4 hb5 h7 hr6 ho6 hb6 hA6 hb7 H0 H1 H2 HX hA' hB'
    go_wp2_with (first
      | (at_builtin; refine wpList_append_run rfl _ _ 28 rfl _ _ _ w6 rfl rfl HR6.out ?_)
      | (at_builtin; refine wpList_append_run rfl _ _ 28 rfl _ _ v4 w4 rfl rfl HR4.out ?_))
    clear HR4 HR6
    by_cases hfit : okSide m ∧ okSide k ∧ okSide n ∧ (la' : Int) = m * k ∧ (lb' : Int) = k * n
    · obtain ⟨hm, hk, hn, hmk, hkn⟩ := hfit
      obtain ⟨M, rfl⟩ := Int.eq_ofNat_of_zero_le (show 0 ≤ m by have := hm.1; omega)
      obtain ⟨K, rfl⟩ := Int.eq_ofNat_of_zero_le (show 0 ≤ k by have := hk.1; omega)
      obtain ⟨L, rfl⟩ := Int.eq_ofNat_of_zero_le (show 0 ≤ n by have := hn.1; omega)
      have m1 : 1 ≤ M ∧ M ≤ 1024 := by have := hm.1; have := hm.2; omega
      have k1 : 1 ≤ K ∧ K ≤ 1024 := by have := hk.1; have := hk.2; omega
      have n1 : 1 ≤ L ∧ L ≤ 1024 := by have := hn.1; have := hn.2; omega
      obtain rfl : M * K = la' := by rw [← Int.natCast_mul] at hmk; omega
      obtain rfl : K * L = lb' := by rw [← Int.natCast_mul] at hkn; omega
      clear hm hk hn hmk hkn
      have p1 : 1 ≤ M * K := Nat.mul_pos m1.1 k1.1
      have p2 : 1 ≤ K * L := Nat.mul_pos k1.1 n1.1
      obtain ⟨ba, rfl, _⟩ := H6.out.2.2.2.1 0 (by omega)
      have s1 : (M : Int) ≤ 300 := by have := Nat.mul_le_mul_left M k1.1; omega
      have s2 : (K : Int) ≤ 300 := by have := Nat.mul_le_mul_right K m1.1; omega
      have s3 : (L : Int) ≤ 300 := by have := Nat.mul_le_mul_right L k1.1; omega
      have hAr : At w6 ⟨gr, 0, none⟩ (M * K) f := fun i hi => by
        obtain ⟨ad, e, hc⟩ := H6.out.2.1 i (by omega)
        cases e
        rw [hc]
        show some (Value.int .u64 (if i < M * K then (if i < 0 then 0 else f (i - 0)) else 7)) = _
        rw [if_pos hi, if_neg (by omega), Nat.sub_zero]
      have hBr : At w6 ba (K * L) g := fun i hi => by
        obtain ⟨ad, e, hc⟩ := H6.out.2.2.2.1 i hi
        cases e
        exact hc
      have hlast : w6.cell? ((⟨gr, 0, none⟩ : Addr).add (M * K)) = some (.int .u64 7) := by
        obtain ⟨ad, e, hc⟩ := H6.out.2.1 (M * K) (by omega)
        cases e
        rw [hc]
        show some (Value.int .u64 (if M * K < M * K then _ else 7)) = _
        rw [if_neg (Nat.lt_irrefl _)]
      have ba_lt : ba.block < w6.heap.size := by
        have := World.block_lt_of_cell? _ _ (hBr 0 (by omega))
        rwa [block_add] at this
      have gr_lt : (⟨gr, 0, none⟩ : Addr).block < w6.heap.size := by
        have := World.block_lt_of_cell? _ _ (hAr 0 (by omega))
        rwa [block_add] at this
      refine (mat_ok M K L cr cb' f g ⟨gr, 0, none⟩ ba w6 m1 k1 n1 hAr hBr gr_lt ba_lt (by omega)).mono ?_
      rintro e w7 ⟨gp, hgp, rfl, hOp, hb7⟩
      have hAr7 := hAr.opt.below hb7
      have hA7 := H6.out.2.2.1.below hb7
      have hlast7 : w7.cell? ((⟨gr, 0, none⟩ : Addr).add (M * K)) = some (.int .u64 7) := by
        rw [hb7.cell (World.block_lt_of_cell? _ _ hlast)]; exact hlast
      have H7 := Lib.hid (And.intro (H6.out.1.trans (hb7.mono H6.out.1.size)) (And.intro hOp (And.intro hAr7 (And.intro hA7 (And.intro ((At.opt hBr).below hb7) hlast7)))))
      clear hAr hBr hlast ba_lt gr_lt hgp hOp hb7 hAr7 hA7 hlast7 H6
      go_wp2_with fail
      refine (words_same _ _ (M * K) cr ca' f f w7 (by unfold maxLen; omega) H7.out.2.2.1 H7.out.2.2.2.1 (fun _ _ => rfl)).mono ?_
      rintro e w8 ⟨rfl, hb8⟩
      have hlast8 : w8.cell? ((⟨gr, 0, none⟩ : Addr).add (M * K)) = some (.int .u64 7) := by
        rw [hb8.cell (World.block_lt_of_cell? _ _ H7.out.2.2.2.2.2)]; exact H7.out.2.2.2.2.2
      have e0 : (⟨gr, 0, none⟩ : Addr).add (M * K) = ⟨gr, M * K, none⟩ := by unfold Addr.add; rw [if_neg (by omega)]; simp
      rw [e0] at hlast8
      have H8 := Lib.hid (And.intro (H7.out.1.trans (hb8.mono H7.out.1.size)) (And.intro (H7.out.2.1.below hb8 H7.out.2.1.lt) (And.intro (H7.out.2.2.2.1.below hb8) (H7.out.2.2.2.2.1.below hb8))))
      clear hb8 e0 H7
      have w1' : IntKind.i64.wrap ((M : Int) * K) = (M : Int) * K := by rw [← Int.natCast_mul]; exact i64_nat _ (by omega) (by omega)
      have w2' : IntKind.i64.wrap ((K : Int) * L) = (K : Int) * L := by rw [← Int.natCast_mul]; exact i64_nat _ (by omega) (by omega)
      go_wp2_with fail
      refine (rmat_any _ _ M K L f g w8 ⟨A', ca', rfl, a1, a2, a3, H8.out.2.2.1⟩ ⟨some ba, cb', rfl, b1, b2, fun h => (by cases h), H8.out.2.2.2⟩ m1.2 k1.2 n1.2).mono ?_
      rintro e w9 ⟨v, rfl, ⟨A9, c9, rfl, _, _, _, hA9⟩, hb9⟩
      have H9 := Lib.hid (And.intro (H8.out.1.trans (hb9.mono H8.out.1.size)) (And.intro ((At.own H8.out.2.1).opt.below hb9) hA9))
      clear hb9 hA9 H8 hlast8
      go_wp2_with fail
      refine (words_same _ _ (M * L) _ c9 _ _ w9 (by have := Nat.mul_le_mul m1.2 n1.2; unfold maxLen; omega) H9.out.2.1 H9.out.2.2 (fun _ _ => rfl)).mono ?_
      rintro e w10 ⟨rfl, hb10⟩
      have H10 := Lib.hid (H9.out.1.trans (hb10.mono H9.out.1.size))
      clear hb10 H9
      go_wp2
      go_ret
      exact ⟨rfl, H10.out⟩
    · refine (mat_err (some ⟨gr, 0, none⟩) B' la' lb' cr cb' m k n w6 H6.out.2.2.2.2 hfit).mono ?_
      rintro e w7 ⟨pl, pa, rfl, hb7⟩
      have HF := Lib.hid hfit
      have hAr : AtO w6 (some ⟨gr, 0, none⟩) la' f := fun i hi => by
        obtain ⟨ad, e, hc⟩ := H6.out.2.1 i (by omega)
        refine ⟨ad, e, ?_⟩
        rw [hc]
        show some (Value.int .u64 (if i < la' then (if i < 0 then 0 else f (i - 0)) else 7)) = _
        rw [if_pos hi, if_neg (by omega), Nat.sub_zero]
      have hlast : w6.cell? ((⟨gr, 0, none⟩ : Addr).add la') = some (.int .u64 7) := by
        obtain ⟨ad, e, hc⟩ := H6.out.2.1 la' (by omega)
        cases e
        rw [hc]
        show some (Value.int .u64 (if la' < la' then _ else 7)) = _
        rw [if_neg (Nat.lt_irrefl _)]
      have e0 : (⟨gr, 0, none⟩ : Addr).add la' = ⟨gr, la', none⟩ := by
        unfold Addr.add; split
        · next h => rw [h]
        · simp
      rw [e0] at hlast
      obtain ⟨T, v, hT⟩ := chain_iface [(pl, pa)] 1
      rw [hT]
      have HT := Lib.hid hT
      have H7 := Lib.hid (And.intro (H6.out.1.trans (hb7.mono H6.out.1.size)) (And.intro (hAr.below hb7) (And.intro (H6.out.2.2.1.below hb7) (And.intro (H6.out.2.2.2.2.below hb7 H6.out.2.2.2.2.pos) ((hb7.cell (World.block_lt_of_cell? _ _ hlast)).trans hlast)))))
      clear hfit hAr hlast e0 hT hb7 H6
      go_wp2_with fail
      refine (words_same _ _ la' cr ca' f f w7 (by unfold maxLen; omega) H7.out.2.1 H7.out.2.2.1 (fun _ _ => rfl)).mono ?_
      rintro e w8 ⟨rfl, hb8⟩
      have c8 : w8.cell? ⟨gr, la', none⟩ = some (.int .u64 7) := (hb8.cell (World.block_lt_of_cell? _ _ H7.out.2.2.2.2)).trans H7.out.2.2.2.2
      have HC := Lib.hid (code_chain [(pl, pa)] 1 w8 (H7.out.2.2.2.1.below hb8 H7.out.2.2.2.1.pos))
      rw [HT.out] at HC
      have H8 := Lib.hid (H7.out.1.trans (hb8.mono H7.out.1.size))
      clear hb8 H7
      go_upto_region 9 with fail
      by_cases h1 : m < 1
      · clear HF
        go_wp2_with (go_at_call 20; refine HC.out.mono ?_; rintro e w9 ⟨rfl, hb9⟩; have H9 := Lib.hid hb9; clear hb9)
        go_ret
        exact ⟨rfl, H8.out.trans (H9.out.mono H8.out.size)⟩
      · skip
        by_cases h2 : k < 1
        · clear HF
          go_wp2_with (go_at_call 20; refine HC.out.mono ?_; rintro e w9 ⟨rfl, hb9⟩; have H9 := Lib.hid hb9; clear hb9)
          go_ret
          exact ⟨rfl, H8.out.trans (H9.out.mono H8.out.size)⟩
        · skip
          by_cases h3 : n < 1
          · clear HF
            go_wp2_with (go_at_call 20; refine HC.out.mono ?_; rintro e w9 ⟨rfl, hb9⟩; have H9 := Lib.hid hb9; clear hb9)
            go_ret
            exact ⟨rfl, H8.out.trans (H9.out.mono H8.out.size)⟩
          · skip
            by_cases h4 : 300 < m
            · clear HF
              go_wp2_with (go_at_call 20; refine HC.out.mono ?_; rintro e w9 ⟨rfl, hb9⟩; have H9 := Lib.hid hb9; clear hb9)
              go_ret
              exact ⟨rfl, H8.out.trans (H9.out.mono H8.out.size)⟩
            · skip
              by_cases h5 : 300 < k
              · clear HF
                go_wp2_with (go_at_call 20; refine HC.out.mono ?_; rintro e w9 ⟨rfl, hb9⟩; have H9 := Lib.hid hb9; clear hb9)
                go_ret
                exact ⟨rfl, H8.out.trans (H9.out.mono H8.out.size)⟩
              · skip
                by_cases h6 : 300 < n
                · clear HF
                  go_wp2_with (go_at_call 20; refine HC.out.mono ?_; rintro e w9 ⟨rfl, hb9⟩; have H9 := Lib.hid hb9; clear hb9)
                  go_ret
                  exact ⟨rfl, H8.out.trans (H9.out.mono H8.out.size)⟩
                · skip
                  have p0 : 0 ≤ m * k := Int.mul_nonneg (by omega) (by omega)
                  have p1 : m * k ≤ 300 * 300 := Int.mul_le_mul (by omega) (by omega) (by omega) (by omega)
                  have q0 : 0 ≤ k * n := Int.mul_nonneg (by omega) (by omega)
                  have q1 : k * n ≤ 300 * 300 := Int.mul_le_mul (by omega) (by omega) (by omega) (by omega)
                  have e1 : IntKind.i64.wrap (m * k) = m * k := i64_nat _ (by omega) (by omega)
                  have e2 : IntKind.i64.wrap (k * n) = k * n := i64_nat _ (by omega) (by omega)
                  by_cases h7 : (la' : Int) = m * k
                  · have h8 : ¬ (lb' : Int) = k * n := fun h => HF.out ⟨⟨by omega, by omega⟩, ⟨by omega, by omega⟩, ⟨by omega, by omega⟩, h7, h⟩
                    have t1 : ((la' : Int) != m * k) = false := by simpa using h7
                    have t2 : ((la' : Int) == m * k) = true := by simpa using h7
                    have u1 : ((lb' : Int) != k * n) = true := by simpa using h8
                    have u2 : ((lb' : Int) == k * n) = false := by simpa using h8
                    clear h7 h8 HF p0 p1 q0 q1
                    go_wp2_with (go_at_call 20; refine HC.out.mono ?_; rintro e w9 ⟨rfl, hb9⟩; have H9 := Lib.hid hb9; clear hb9)
                    go_ret
                    exact ⟨rfl, H8.out.trans (H9.out.mono H8.out.size)⟩
                  · have t1 : ((la' : Int) != m * k) = true := by simpa using h7
                    have t2 : ((la' : Int) == m * k) = false := by simpa using h7
                    clear h7 HF p0 p1 q0 q1
                    go_wp2_with (go_at_call 20; refine HC.out.mono ?_; rintro e w9 ⟨rfl, hb9⟩; have H9 := Lib.hid hb9; clear hb9)
                    go_ret
                    exact ⟨rfl, H8.out.trans (H9.out.mono H8.out.size)⟩
end Go.Proofs.YtbfflmjhkeaimaaDoor
