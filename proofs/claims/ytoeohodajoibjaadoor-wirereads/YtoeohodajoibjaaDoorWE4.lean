/- Contract of the document's Decode. -/
import Derived.Test.YtoeohodajoibjaaDoorWE3
import Derived.Test.YtoeohodajoibjaaDoorWT3
namespace Go.Proofs.YtoeohodajoibjaaDoor
open Go.RowKit

def RDec (w : World) (f : Nat → Nat) (L : Nat) (e : Ending) (w' : World) : Prop :=
  (Wire.fits f L → ∃ v, e = .returned (.tuple #[.int .i64 ((Wire.hd f L).1 : Int), v, .bool true]) ∧ Lst w' v (Wire.cn f L).1 (decW f (Wire.off f L)) ∧ Below w.heap.size w w') ∧
  (¬ Wire.fits f L → e = .returned (.tuple #[.int .i64 0, .slice none 0 0, .bool false]) ∧ Below w.heap.size w w')
theorem one_word (w : World) (x : Int) : AtO (w.alloc (.cells #[.int .u64 x] 46)) (some ⟨w.heap.size, 0, none⟩) 1 (fun _ => x) := fun i hi => by
  obtain rfl : i = 0 := by omega
  exact ⟨_, rfl, by simp [Addr.add]⟩
theorem ownsW_alloc {w : World} {base n : Nat} {v : Value} {f : Nat → Int} (h : w.ownsRow base 46 1 v n (wordsOf n f)) (o : Obj) : (w.alloc o).ownsRow base 46 1 v n (wordsOf n f) := World.ownsRow.alloc h o
set_option maxHeartbeats 4000000 in
set_option maxRecDepth 100000 in
theorem rdecode_any (A : Option Addr) (L c : Nat) (f : Nat → Nat) (w : World) (hA : AtBO w A L f) (hLc : L ≤ c) (hL : L ≤ maxLen) (hf : ∀ i, f i < 256) :
    Calls Tryd.prog 20 #[.slice A L c] w (RDec w f L) := by
  have HA := Lib.hid (And.intro hA (And.intro hf (And.intro hLc hL)))
  clear hA hf hLc hL
  go_enter Tryd.func20, Tryd.ntmps20
  go_wp2_with fail
  refine (rtake_any A L c f w HA.out.1 HA.out.2.2.1 HA.out.2.2.2 HA.out.2.1).mono ?_
  rintro e w1 ⟨rfl, hb1⟩
  obtain ⟨r, s, hp⟩ : ∃ r s, Wire.hd f L = (r, s) := ⟨_, _, rfl⟩
  have hp' : Wire.tak f L = (r, s) := hp
  rw [hp', pr]
  have h5s := (Wire.tak_le f L).1
  rw [hp'] at h5s
  have H5s := Lib.hid (show True ∧ s ≤ 5 from ⟨trivial, by have : s ≤ min L 5 := h5s; omega⟩)
  clear h5s
  have HP := Lib.hid hp
  have HO := Lib.hid (Wire.off_le f L)
  rw [hp] at HO
  clear hp hp'
  have hsL : s ≤ L := HO.out.1
  have hsl := fun wx => run_tailB wx A L c s hsL
  have HAs := Lib.hid (And.intro hb1 ((HA.out.1.below hb1).tl (l := s) (k := L - s) (by omega) HA.out.2.2.1))
  clear hsL hb1
  go_wp2_with fail
  refine (rtake_any (tl A c s) (L - s) (c - s) (fun i => f (s + i)) w1 HAs.out.2 (by have := HA.out.2.2.1; omega) (by have := HA.out.2.2.2; omega) (fun i => HA.out.2.1 _)).mono ?_
  rintro e w2 ⟨rfl, hb2⟩
  obtain ⟨n, m, hq⟩ : ∃ n m, Wire.cn f L = (n, m) := ⟨_, _, rfl⟩
  have hq' : Wire.tak (fun i => f (s + i)) (L - s) = (n, m) := by
    have := hq
    unfold Wire.cn at this
    rw [HP.out] at this
    exact this
  have h5m := (Wire.tak_le (fun i => f (s + i)) (L - s)).1
  rw [hq'] at h5m
  have H5m := Lib.hid (show True ∧ m ≤ 5 from ⟨trivial, by have : m ≤ min (L - s) 5 := h5m; omega⟩)
  clear h5m
  rw [hq', pr]
  have hfits : Wire.fits f L ↔ (s ≠ 0 ∧ m ≠ 0 ∧ n ≤ 65536 ∧ L = s + m + 8 * n) := by unfold Wire.fits Wire.off; rw [HP.out, hq]
  have hoff : Wire.off f L = s + m := by unfold Wire.off; rw [HP.out, hq]
  have hoL : s + m ≤ L := by have := HO.out.2; rw [hoff] at this; exact this
  have HF := Lib.hid (And.intro hfits (And.intro hoff (And.intro hoL hq)))
  have H2 := Lib.hid (show Below w.heap.size w w2 from HAs.out.1.trans (hb2.mono HAs.out.1.size))
  clear hq hq' hfits hoff hoL HAs hsl hb2
  by_cases hs : s = 0
  · have n1 : ((s : Int) == 0) = true := by rw [hs]; rfl
    have HS := Lib.hid hs
    clear hs
    go_wp2
    go_ret3
    exact ⟨fun h => absurd HS.out (HF.out.1.1 h).1, fun _ => ⟨rfl, H2.out⟩⟩
  · have n1 : ((s : Int) == 0) = false := beq_false_of_ne (by omega)
    have HS := Lib.hid hs
    clear hs
    by_cases hm : m = 0
    · have n2 : ((m : Int) == 0) = true := by rw [hm]; rfl
      have HM := Lib.hid hm
      clear hm
      go_wp2
      go_ret3
      exact ⟨fun h => absurd HM.out (HF.out.1.1 h).2.1, fun _ => ⟨rfl, H2.out⟩⟩
    · have n2 : ((m : Int) == 0) = false := beq_false_of_ne (by omega)
      have HM := Lib.hid hm
      clear hm
      by_cases hbig : 65536 < n
      · have hbig1 : decide ((65536 : Int) < (n : Int)) = true := decide_eq_true (by omega)
        have hbig2 : decide (65536 < n) = true := decide_eq_true (by omega)
        have HB := Lib.hid (And.intro trivial hbig)
        clear hbig
        go_wp2
        go_ret3
        exact ⟨fun h => absurd (HF.out.1.1 h).2.2.1 (by have := HB.out.2; omega), fun _ => ⟨rfl, H2.out⟩⟩
      · have hbig1 : decide ((65536 : Int) < (n : Int)) = false := decide_eq_false (by omega)
        have hbig2 : decide (65536 < n) = false := decide_eq_false (by omega)
        have HB := Lib.hid (show True ∧ n ≤ 65536 from ⟨trivial, by omega⟩)
        have hL := HA.out.2.2.2
        unfold maxLen at hL
        have hoL := HF.out.2.2.1
        obtain ⟨o, ho⟩ : ∃ o, o = s + m := ⟨_, rfl⟩
        obtain ⟨T, hT⟩ : ∃ z, z = o + 8 * n := ⟨_, rfl⟩
        by_cases hT63 : T < 9223372036854775808
        · have e1 : IntKind.i64.wrap ((s : Int) + (m : Int)) = (o : Int) := by rw [i64_nat _ (by omega) (by omega)]; omega
          have e2 : IntKind.i64.wrap (8 * (n : Int)) = 8 * (n : Int) := i64_nat _ (by omega) (by omega)
          have e3 : IntKind.i64.wrap ((o : Int) + 8 * (n : Int)) = (T : Int) := by rw [i64_nat _ (by omega) (by omega)]; omega
          have HOT := Lib.hid (And.intro ho (And.intro hT hoL))
          by_cases hlen : L = T
          · have hlen1 : ((L : Int) != (T : Int)) = false := by rw [hlen]; simp
            have HLen := Lib.hid (And.intro hlen (And.intro hL trivial))
            clear hlen ho hT hoL hbig hL hT63
            go_wp2
            clear e2 e3 hlen1 hbig1 hbig2 n1 n2 e1
            go_loopw [9, 10] (fun v p wr => ∃ q i : Nat, p = .int .i64 i ∧ Hid (q ≤ n ∧ i = o + 8 * q) ∧ Hid (wr.ownsRow w2.heap.size 46 1 v q (wordsOf q (decW f o)) ∧ Below w2.heap.size w2 wr)) (fun _ p _ => L - (intOf p).toNat)
            case atStart => exact ⟨0, o, rfl, ⟨Nat.zero_le _, by omega⟩, World.ownsRow_nil _ _ _ _, Below.refl _ _⟩
            case round =>
              obtain ⟨q, i, rfl, HQ, HW⟩ := hrel
              by_cases hlt : q < n
              · obtain ⟨i8, hi8⟩ : ∃ z, z = i + 8 := ⟨_, rfl⟩
                have hf1 := HLen.out
                have hf2 := HOT.out
                have hf3 := HQ.out.2
                have hlt1 : decide ((i : Int) < (L : Int)) = true := decide_eq_true (by omega)
                have hlt2 : (i : Int) < (L : Int) := by omega
                have e8 : IntKind.i64.wrap ((i : Int) + 8) = (i8 : Int) := by rw [i64_nat _ (by omega) (by omega)]; omega
                have hsl : ∀ wx, (Instr.slice 22 (.slice A L c) (some (.int .i64 (i : Int))) (some (.int .i64 (i8 : Int))) none).run Tryd.prog wx = .ok (.slice (tl A c i) 8 (c - i)) wx := fun wx => by
                  have := run_midB wx A L c i i8 (by omega) (by have := HA.out.2.2.1; omega)
                  rw [show i8 - i = 8 by omega] at this
                  exact this
                have HA8 := Lib.hid ((HA.out.1.below (H2.out.trans (HW.out.2.mono H2.out.size))).tl (l := i) (k := 8) (by omega) HA.out.2.2.1)
                have hps : Wire.psum (fun j => f (i + j)) 0 8 = Wire.psum f (o + 8 * q) 8 := Wire.psum_congr 8 fun j _ => by
                  show f (i + (0 + j)) = f (o + 8 * q + j)
                  rw [hf3]; congr 1; omega
                have HPS := Lib.hid hps
                have HLt := Lib.hid (And.intro hlt (show i8 = o + 8 * (q + 1) ∧ i8 ≤ L ∧ i < i8 by omega))
                obtain ⟨v', w4, hr, ho4, hb4⟩ := append_own (wr.alloc (.cells #[.int .u64 (decW f o q)] 46)) w2.heap.size _ q 1 (decW f o) (fun _ => decW f o q) (some ⟨wr.heap.size, 0, none⟩) 1 (ownsW_alloc HW.out.1 _) (one_word wr _) (fun h => by cases h) (by have := HB.out.2; omega) (by have := HW.out.2.size; simp; omega)
                have HR := Lib.hid hr
                have HN := Lib.hid (show w4.ownsRow w2.heap.size 46 1 v' (q + 1) (wordsOf (q + 1) (decW f o)) ∧ Below w2.heap.size w2 w4 from ⟨by
                  rw [wordsOf_congr (f := decW f o) (g := fun i => if i < q then decW f o i else decW f o q) (fun j hj => by
                    by_cases e : j < q
                    · rw [if_pos e]
                    · rw [if_neg e, show j = q by omega])]
                  exact ho4, (HW.out.2.alloc HW.out.2.size _).trans hb4⟩)
                clear hr ho4 hb4 hlt hi8 hf1 hf2 hf3 hps
                go_wp2_with fail
                refine (whole_any (tl A c i) (c - i) (fun j => f (i + j)) wr HA8.out (fun j => HA.out.2.1 _)).mono ?_
                rintro e w5 ⟨rfl, rfl⟩
                rw [HPS.out]
                have hdw : (Wire.psum f (o + 8 * q) 8 : Int) = decW f o q := rfl
                rw [hdw]
                obtain ⟨x, hx⟩ : ∃ x, x = decW f o q := ⟨_, rfl⟩
                rw [← hx] at HR ⊢
                clear hdw hx
                go_wp2_with (at_builtin; refine wpList_append_run rfl _ _ 34 rfl _ _ _ w4 rfl rfl HR.out ?_)
                go_roundw
                case rel => exact ⟨q + 1, i8, rfl, ⟨HLt.out.1, HLt.out.2.1⟩, HN⟩
                case measure => have := HLt.out; simp [intOf]; omega
              · obtain rfl : q = n := by have := HQ.out.1; omega
                have hi : i = L := by have := HLen.out.1; have := HOT.out; have := HQ.out.2; omega
                have hlt1 : decide ((i : Int) < (L : Int)) = false := decide_eq_false (by omega)
                have hlt2 : decide (i < L) = false := decide_eq_false (by omega)
                obtain ⟨A9, c9, rfl, h91, h92, h93, h94⟩ := own_lst HW.out.1
                have H9 := Lib.hid (And.intro h91 (And.intro h92 (And.intro h93 h94)))
                have HI := Lib.hid hi
                clear h91 h92 h93 h94 hlt hi
                go_wp2
                go_ret3
                refine ⟨fun _ => ⟨.slice A9 q c9, by rw [HP.out]; rfl, ?_, H2.out.trans (HW.out.2.mono H2.out.size)⟩, fun h => absurd (HF.out.1.2 ⟨HS.out, HM.out, HB.out.2, by have := HLen.out.1; have := HOT.out; omega⟩) h⟩
                rw [HF.out.2.2.2, HF.out.2.1, ← HOT.out.1]
                exact ⟨A9, c9, rfl, H9.out.1, H9.out.2.1, H9.out.2.2.1, H9.out.2.2.2⟩
          · have hlen1 : ((L : Int) != (T : Int)) = true := by simp; omega
            have HLen := Lib.hid hlen
            clear hlen ho hT hoL hbig hL hT63
            go_wp2
            go_ret3
            exact ⟨fun h => absurd (HF.out.1.1 h).2.2.2 (by have := HLen.out; have := HOT.out; omega), fun _ => ⟨rfl, H2.out⟩⟩
        · have := H5s.out.2
          have := H5m.out.2
          omega
end Go.Proofs.YtoeohodajoibjaaDoor
