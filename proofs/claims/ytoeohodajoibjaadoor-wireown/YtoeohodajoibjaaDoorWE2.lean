/- Contract of Decode. -/
import Derived.Test.YtoeohodajoibjaaDoorWE1
namespace Go.Proofs.YtoeohodajoibjaaDoor
open Go.RowKit

def DecAny (w : World) (f : Nat → Nat) (L : Nat) (e : Ending) (w' : World) : Prop :=
  (Wire.fits f L → DecOk w f (Wire.hd f L).1 (Wire.cn f L).1 (Wire.off f L) e w') ∧ (¬ Wire.fits f L → DecBad w e w')
set_option maxHeartbeats 4000000 in
set_option maxRecDepth 100000 in
theorem decode_any (A : Option Addr) (L c : Nat) (f : Nat → Nat) (w : World) (hg : Handle w) (hA : AtBO w A L f) (hLc : L ≤ c) (hL : L ≤ maxLen) (hf : ∀ i, f i < 256) :
    Calls Tryd.prog 17 #[.slice A L c] w (DecAny w f L) := by
  have HA := Lib.hid (And.intro hA (And.intro hf (And.intro hLc hL)))
  have HI := Lib.hid (DecI.start w)
  have HG := Lib.hid (hg.below HI.out.1 hg.pos)
  clear hA hf hLc hL hg
  go_enter Tryd.func17, Tryd.ntmps17
  go_wp2_with fail
  generalize w.alloc (.cells #[.int .i64 0, .slice none 0 0] 36) = w0 at HI HG ⊢
  refine (take_any A L c f w0 (HA.out.1.below HI.out.1) HA.out.2.2.2 HA.out.2.1).mono ?_
  rintro e w1 ⟨rfl, rfl⟩
  obtain ⟨r, s, hp⟩ : ∃ r s, Wire.hd f L = (r, s) := ⟨_, _, rfl⟩
  have hp' : Wire.tak f L = (r, s) := hp
  rw [hp', pr]
  have HP := Lib.hid hp
  have HO := Lib.hid (Wire.off_le f L)
  rw [hp] at HO
  clear hp hp'
  by_cases hs : s = 0
  · subst hs
    have HC := Lib.hid (wrap_chain [] 50 0 sRound w0 HG.out (by simp))
    rw [show chain [] 50 = .iface 28 (.int .i64 50) from rfl] at HC
    go_wp2_with fail
    refine HC.out.mono ?_
    rintro e w2 ⟨rfl, hb2⟩
    have hI2 := HI.out.below hb2
    have a0 := hI2.2.cell0
    have a1 := hI2.2.cell1
    have z0 := hI2.2.frozen 0
    have z1 := hI2.2.frozen 1
    have H2 := Lib.hid hI2
    obtain ⟨T, v, hT⟩ := chain_iface [(sRound, 0)] 50
    rw [hT]
    have HT := Lib.hid hT
    clear hI2 hb2 HC hT
    go_wp2
    have hset := H2.out.2.set 0 (.slice none 0 0)
    have s0 := hset.cell0
    have s1 := hset.cell1
    exact bodyPost_ret (v := .tuple #[msg 0 (.slice none 0 0), .iface T v]) (by simp [results, Tryd.results17, go_sem, s0, s1]) rfl ⟨fun h => absurd h.1 (by rw [HP.out]; simp), fun _ => ⟨sRound, 0, by rw [HT.out], H2.out.done _ _⟩⟩
  · have HO2 := HO.out
    have hsL : s ≤ L := HO2.1
    have hsl := fun wx => run_tailB wx A L c s hsL
    have n1 : ((s : Int) == 0) = false := beq_false_of_ne (by omega)
    have HS := Lib.hid (And.intro hs hsL)
    clear hs hsL HO2
    have hm : (L : Int) < 9223372036854775808 := by have := HA.out.2.2.2; unfold maxLen at this; omega
    have HAs := Lib.hid ((HA.out.1.below HI.out.1).tl (l := s) (k := L - s) (by have := HS.out.2; omega) HA.out.2.2.1)
    go_wp2_with fail
    refine (take_any (tl A c s) (L - s) (c - s) (fun i => f (s + i)) w0 HAs.out (by have := HA.out.2.2.2; omega) (fun i => HA.out.2.1 _)).mono ?_
    rintro e w1 ⟨rfl, rfl⟩
    obtain ⟨n, m, hq⟩ : ∃ n m, Wire.cn f L = (n, m) := ⟨_, _, rfl⟩
    have hq' : Wire.tak (fun i => f (s + i)) (L - s) = (n, m) := by
      have := hq
      unfold Wire.cn at this
      rw [HP.out] at this
      exact this
    have hnb := (Wire.tak_le (fun i => f (s + i)) (L - s)).2.1
    rw [hq'] at hnb
    rw [hq', pr]
    have hfits : Wire.fits f L ↔ (s ≠ 0 ∧ m ≠ 0 ∧ n ≤ 65536 ∧ L = s + m + 8 * n) := by unfold Wire.fits Wire.off; rw [HP.out, hq]
    have hoff : Wire.off f L = s + m := by unfold Wire.off; rw [HP.out, hq]
    have hoL : s + m ≤ L := by have := HO.out.2; rw [hoff] at this; exact this
    have HF := Lib.hid (And.intro hfits (And.intro hoff (And.intro hoL hq)))
    clear hq hq' hfits hoff hoL HAs hsl
    have hnb' : n ≤ 4294967295 := hnb
    clear hnb
    by_cases hm0 : m = 0
    · subst hm0
      have HC := Lib.hid (wrap_chain [] 50 s sCount w0 HG.out (by simp))
      rw [show chain [] 50 = .iface 28 (.int .i64 50) from rfl] at HC
      go_wp2_with fail
      refine HC.out.mono ?_
      rintro e w2 ⟨rfl, hb2⟩
      have hI2 := HI.out.below hb2
      have a0 := hI2.2.cell0
      have a1 := hI2.2.cell1
      have z0 := hI2.2.frozen 0
      have z1 := hI2.2.frozen 1
      have H2 := Lib.hid hI2
      obtain ⟨T, v, hT⟩ := chain_iface [(sCount, s)] 50
      rw [hT]
      have HT := Lib.hid hT
      clear hI2 hb2 HC hT
      go_wp2
      have hset := H2.out.2.set 0 (.slice none 0 0)
      have s0 := hset.cell0
      have s1 := hset.cell1
      exact bodyPost_ret (v := .tuple #[msg 0 (.slice none 0 0), .iface T v]) (by simp [results, Tryd.results17, go_sem, s0, s1]) rfl ⟨fun h => absurd (HF.out.1.1 h).2.1 (by simp), fun _ => ⟨sCount, s, by rw [HT.out], H2.out.done _ _⟩⟩
    · obtain ⟨o, ho⟩ : ∃ o, o = s + m := ⟨_, rfl⟩
      have hoL : o ≤ L := by rw [ho]; exact HF.out.2.2.1
      obtain ⟨d, hd⟩ : ∃ d, d = L - o := ⟨_, rfl⟩
      obtain ⟨c2, hc2⟩ : ∃ d, d = c - o := ⟨_, rfl⟩
      obtain ⟨A2, hA2⟩ : ∃ d, d = tl A c o := ⟨_, rfl⟩
      have hsl2 : ∀ wx, (Instr.slice 22 (.slice A L c) (some (.int .i64 (o : Int))) none none).run Tryd.prog wx = .ok (.slice A2 d c2) wx := fun wx => by rw [hd, hc2, hA2]; exact run_tailB wx A L c o hoL
      have HD := Lib.hid (And.intro hd (And.intro hc2 hA2))
      clear hc2 hA2
      have e1 : IntKind.i64.wrap ((s : Int) + (m : Int)) = (o : Int) := by rw [i64_nat _ (by omega) (by omega)]; omega
      have n2 : ((m : Int) == 0) = false := beq_false_of_ne (by omega)
      have HOL := Lib.hid (And.intro ho (And.intro hoL hm0))
      clear ho hoL hm0 hd
      by_cases hbig : 65536 < n
      · have hbig1 : decide ((65536 : Int) < (n : Int)) = true := decide_eq_true (by omega)
        have hbig2 : decide (65536 < n) = true := decide_eq_true (by omega)
        have HB := Lib.hid (And.intro trivial hbig)
        clear hbig hm
        have HC := Lib.hid (wrap_chain [] 50 o sWords w0 HG.out (by simp))
        rw [show chain [] 50 = .iface 28 (.int .i64 50) from rfl] at HC
        go_wp2_with fail
        refine HC.out.mono ?_
        rintro e w2 ⟨rfl, hb2⟩
        have hI2 := HI.out.below hb2
        have a0 := hI2.2.cell0
        have a1 := hI2.2.cell1
        have z0 := hI2.2.frozen 0
        have z1 := hI2.2.frozen 1
        have H2 := Lib.hid hI2
        obtain ⟨T, v, hT⟩ := chain_iface [(sWords, o)] 50
        rw [hT]
        have HT := Lib.hid hT
        clear hI2 hb2 HC hT
        go_wp2
        have hset := H2.out.2.set 0 (.slice none 0 0)
        have s0 := hset.cell0
        have s1 := hset.cell1
        exact bodyPost_ret (v := .tuple #[msg 0 (.slice none 0 0), .iface T v]) (by simp [results, Tryd.results17, go_sem, s0, s1]) rfl ⟨fun h => absurd (HF.out.1.1 h).2.2.1 (by have := HB.out; omega), fun _ => ⟨sWords, o, by rw [HT.out], H2.out.done _ _⟩⟩
      · have hbig1 : decide ((65536 : Int) < (n : Int)) = false := decide_eq_false (by omega)
        have hbig2 : decide (65536 < n) = false := decide_eq_false (by omega)
        have HB := Lib.hid (show True ∧ n ≤ 65536 from ⟨trivial, by omega⟩)
        have e2 : IntKind.i64.wrap (8 * (n : Int)) = 8 * (n : Int) := i64_nat _ (by omega) (by omega)
        clear hbig
        by_cases hlen : d = 8 * n
        · have hlen1 : ((d : Int) != 8 * (n : Int)) = false := by rw [hlen]; simp
          have HLen := Lib.hid hlen
          have hmk := fun wx => makeW wx n HB.out.2
          clear hlen hm
          have HI2 := Lib.hid (HI.out.below ((Below.refl _ _).alloc (Nat.le_refl _) (.cells (wordsOf n fun _ => 0).toArray 46)))
          have HW := Lib.hid (Own.new w0 n fun _ => 0)
          have HZ := Lib.hid HI.out.2.lt
          go_wp2
          generalize hw3 : w0.alloc (.cells (wordsOf n fun _ => 0).toArray 46) = w3 at HI2 HW ⊢
          clear hw3 hmk hsl2 e1 n1 n2 hlen1 hbig1 hbig2 e2
          go_loopw [58] (fun p wr => ∃ i : Nat, p = .int .i64 i ∧ Hid (i ≤ n) ∧ Hid (DecI w wr ∧ Own wr w0.heap.size n (fun q => if q < i then decW f o q else 0))) (fun p _ => n - (intOf p).toNat)
          case atStart => exact ⟨0, rfl, Nat.zero_le _, HI2.out, HW.out⟩
          case round =>
            clear HI2 HW
            obtain ⟨i, rfl, HIn, HR⟩ := hrel
            by_cases hlt : i < n
            · have hlt1 : (i : Int) < (n : Int) := by omega
              have hb16 := HB.out.2
              obtain ⟨j, hj⟩ : ∃ j, j = 8 * i := ⟨_, rfl⟩
              have e1 : IntKind.i64.wrap (8 * (i : Int)) = (j : Int) := by rw [i64_nat _ (by omega) (by omega)]; omega
              have e3 : IntKind.i64.wrap ((i : Int) + 1) = (i : Int) + 1 := i64_nat _ (by omega) (by omega)
              have c1 := HR.out.2.cell i hlt
              have z1 := HR.out.2.frozen i
              have HJ := Lib.hid (And.intro hj (show j + 8 ≤ d by have := HLen.out; omega))
              have HLt := Lib.hid hlt
              clear hb16 hj hlt
              have HA2 : AtBO wr A2 d (fun i => f (o + i)) := by
                rw [HD.out.2.2, HD.out.1]
                exact (HA.out.1.below HR.out.1.1).tl (by have := HOL.out.2.1; omega) HA.out.2.2.1
              have HAA := Lib.hid HA2
              clear HA2
              go_wp2_with fail
              refine (wordAt_any A2 d c2 j (fun i => f (o + i)) wr HAA.out HJ.out.2 (by have := HA.out.2.2.2; have := HD.out.1; omega) (fun i => HA.out.2.1 _)).mono ?_
              rintro e w4 ⟨rfl, rfl⟩
              have hps : Wire.psum (fun i => f (o + i)) j 8 = Wire.psum f (o + 8 * i) 8 := Wire.psum_congr 8 fun q _ => by
                show f (o + (j + q)) = f (o + 8 * i + q)
                rw [HJ.out.1]; congr 1; omega
              rw [hps]
              have HN := Lib.hid (show DecI w (wr.setCell ⟨w0.heap.size, i, none⟩ (.int .u64 (Wire.psum f (o + 8 * i) 8 : Int))) ∧ Own (wr.setCell ⟨w0.heap.size, i, none⟩ (.int .u64 (Wire.psum f (o + 8 * i) 8 : Int))) w0.heap.size n (fun q => if q < i + 1 then decW f o q else 0) from
                ⟨⟨HR.out.1.1.setCell (p := ⟨w0.heap.size, i, none⟩) (by have := HZ.out; simp; omega) _, HR.out.1.2.far (by have := HZ.out; simp; omega) _⟩, (HR.out.2.set i HLt.out _).congr fun q _ => by
                  by_cases e : q = i
                  · rw [if_pos e, if_pos (by omega), e]; rfl
                  · rw [if_neg e]
                    by_cases e2 : q < i
                    · rw [if_pos e2, if_pos (by omega)]
                    · rw [if_neg e2, if_neg (by omega)]⟩)
              clear hps HR
              go_wp2
              go_roundw
              case rel => exact ⟨i + 1, by have := HLt.out; have := HB.out; go_num, (by have := HLt.out; exact this), HN⟩
              case measure => have := HLt.out; simp [intOf]; omega
            · obtain rfl : i = n := by have := HIn.out; omega
              have hM := HR.out.1.2
              have a0 := hM.cell0
              have a1 := hM.cell1
              have z0 := hM.frozen 0
              have z1 := hM.frozen 1
              clear hM
              go_wp2
              have hset := HR.out.1.2.set r (.slice (some ⟨w0.heap.size, 0, none⟩) i i)
              have s0 := hset.cell0
              have s1 := hset.cell1
              refine bodyPost_ret (v := .tuple #[msg r (.slice (some ⟨w0.heap.size, 0, none⟩) i i), .nilIface]) (by simp [results, Tryd.results17, go_sem, s0, s1]) rfl ⟨fun _ => ?_, fun h => absurd (HF.out.1.2 ⟨HS.out.1, HOL.out.2.2, HB.out.2, by have := HLen.out; have := HOL.out; have := HD.out.1; omega⟩) h⟩
              refine ⟨w0.heap.size, by rw [HP.out, HF.out.2.2.2], ?_, by have := HZ.out; omega, HR.out.1.done _ _⟩
              rw [HF.out.2.2.2, HF.out.2.1, ← HOL.out.1]
              exact ((HR.out.2.congr fun q hq => by rw [if_pos hq]).far (by have := HZ.out; simp; omega) _).far (by have := HZ.out; simp; omega) _
        · have hlen1 : ((d : Int) == 8 * (n : Int)) = false := beq_false_of_ne (by omega)
          have HLen := Lib.hid hlen
          clear hlen hm
          have HC := Lib.hid (wrap_chain [] 50 o sWords w0 HG.out (by simp))
          rw [show chain [] 50 = .iface 28 (.int .i64 50) from rfl] at HC
          go_wp2_with fail
          refine HC.out.mono ?_
          rintro e w2 ⟨rfl, hb2⟩
          have hI2 := HI.out.below hb2
          have a0 := hI2.2.cell0
          have a1 := hI2.2.cell1
          have z0 := hI2.2.frozen 0
          have z1 := hI2.2.frozen 1
          have H2 := Lib.hid hI2
          obtain ⟨T, v, hT⟩ := chain_iface [(sWords, o)] 50
          rw [hT]
          have HT := Lib.hid hT
          clear hI2 hb2 HC hT
          go_wp2
          have hset := H2.out.2.set 0 (.slice none 0 0)
          have s0 := hset.cell0
          have s1 := hset.cell1
          exact bodyPost_ret (v := .tuple #[msg 0 (.slice none 0 0), .iface T v]) (by simp [results, Tryd.results17, go_sem, s0, s1]) rfl ⟨fun h => absurd (HF.out.1.1 h).2.2.2 (by have := HLen.out; have := HOL.out; have := HD.out.1; omega), fun _ => ⟨sWords, o, by rw [HT.out], H2.out.done _ _⟩⟩
end Go.Proofs.YtoeohodajoibjaaDoor
