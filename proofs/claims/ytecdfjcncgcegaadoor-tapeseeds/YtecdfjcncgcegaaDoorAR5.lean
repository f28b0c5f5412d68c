/- Contract of the document's own Encrypt. -/
import Derived.Test.YtecdfjcncgcegaaDoorAR4
import Derived.Test.YtecdfjcncgcegaaDoorAB7
namespace Go.Proofs.YtecdfjcncgcegaaDoor
open Go.RowKit

theorem enc_idx (c r : Nat) (hc : c < 4) (hr : r < 4) : ∃ m q0 q1 : Nat, (q0 = 4 * c + r ∧ q1 = Aes.from_ q0) ∧ (q0 < 16 ∧ q1 < 16) ∧
    IntKind.i64.wrap (4 * (c : Int)) = 4 * (c : Int) ∧ IntKind.i64.wrap (4 * (c : Int) + (r : Int)) = (q0 : Int) ∧
    IntKind.i64.wrap ((c : Int) + (r : Int)) = (c : Int) + (r : Int) ∧ ((c : Int) + (r : Int)).tmod 4 = (m : Int) ∧
    IntKind.i64.wrap (4 * (m : Int)) = 4 * (m : Int) ∧ IntKind.i64.wrap (4 * (m : Int) + (r : Int)) = (q1 : Int) ∧
    (q0 : Int) < 16 ∧ (q1 : Int) < 16 := by
  refine ⟨(c + r) % 4, 4 * c + r, 4 * ((c + r) % 4) + r, ⟨rfl, ?_⟩, by omega, ?_, ?_, ?_, ?_, ?_, ?_, ?_, ?_⟩
  · unfold Aes.from_; rw [show (4 * c + r) / 4 = c by omega, show (4 * c + r) % 4 = r by omega]
  · exact i64_nat _ (by omega) (by omega)
  · rw [i64_nat _ (by omega) (by omega)]; omega
  · exact i64_nat _ (by omega) (by omega)
  · rw [Int.tmod_eq_emod_of_nonneg (by omega)]; omega
  · exact i64_nat _ (by omega) (by omega)
  · rw [i64_nat _ (by omega) (by omega)]; omega
  · omega
  · omega
/-- Behind n rounds: the cipher's own cell, and block b. -/
def RE (w : World) (key : Nat → Nat) (g c gb cb b : Nat) (h : Nat → Nat) (wr : World) : Prop :=
  Below w.heap.size w wr ∧ CB wr w.heap.size (sl8 g 176 c) (sl8 gb 256 cb) ∧ OwnB wr b 16 5 h ∧ RCi wr key g c gb cb
theorem RCi.below {w w' : World} {key : Nat → Nat} {g c gb cb : Nat} (h : RCi w key g c gb cb) (hb : Below w.heap.size w w') : RCi w' key g c gb cb := ⟨AtB.below h.1 hb, AtB.below h.2.1 hb, h.2.2⟩
theorem RE.next {w w1 w2 : World} {key h h' : Nat → Nat} {g c gb cb b b' : Nat} (he : RE w key g c gb cb b h w1) (hb : Below w1.heap.size w1 w2) (ho : OwnB w2 b' 16 5 h') : RE w key g c gb cb b' h' w2 :=
  ⟨he.1.trans (hb.mono he.1.size), he.2.1.below hb he.2.1.lt, ho, he.2.2.2.below hb⟩
theorem ks_at {w : World} {key : Nat → Nat} {g c gb cb : Nat} (h : RCi w key g c gb cb) (o : Nat) (ho : o + 16 ≤ 176) : AtB w ⟨g, o, none⟩ 16 (fun i => Aes.ks key (o + i)) := by
  have := AtB.sub h.1 o 16 ho
  rwa [Nat.zero_add] at this
set_option maxHeartbeats 1000000 in
set_option maxRecDepth 100000 in
theorem renc_any (key f : Nat → Nat) (g c gb cb gf off cf : Nat) (w : World) (hC : RCi w key g c gb cb) (hA : AtB w ⟨gf, off, none⟩ 16 f) (hk : ∀ i, key i < 256) (hf : ∀ i, f i < 256) :
    Calls Tryd.prog 25 #[rci g c gb cb, .slice (some ⟨gf, off, none⟩) 16 cf] w fun e w' => ∃ gr, e = .returned (mk16 gr) ∧ OwnB w' gr 16 5 (Aes.enc (Aes.ks key) f) ∧ Below w.heap.size w w' := by
  have HC := Lib.hid (And.intro hC hA)
  have HF := Lib.hid (And.intro (Aes.ks_lt key hk) hf)
  have hc1 := hC.2.2.1
  have hc2 := hC.2.2.2.1
  have hc3 := hC.2.2.2.2.1
  have hc4 := hC.2.2.2.2.2
  clear hC hA hk hf
  go_enter Tryd.func25, Tryd.ntmps25
  go_wp2_with (fail)
  have hb0 : Below w.heap.size w (w.alloc (.cells #[sl8 g 176 c, sl8 gb 256 cb] 53)) := (Below.refl _ _).alloc (Nat.le_refl _) _
  have hC0 := HC.out.1.below hb0
  refine (add_any gf off cf g 0 c f _ _ (HC.out.2.down hb0) (ks_at hC0 0 (by omega)) HF.out.2 (fun i => HF.out.1 _)).mono ?_
  rintro e w1 ⟨rfl, ho, hb⟩
  have hE : RE w key g c gb cb (w.alloc (.cells #[sl8 g 176 c, sl8 gb 256 cb] 53)).heap.size (Aes.encGo (Aes.ks key) f 0) w1 := by
    refine ⟨hb0.trans (hb.mono (by simp)), (CB.new w _ _).below hb (by simp), ho.congr fun q _ => ?_, hC0.below hb⟩
    show _ = f q ^^^ Aes.ks key q
    rw [Nat.zero_add]
  clear hb ho hC0 hb0 HC
  generalize (w.alloc (.cells #[sl8 g 176 c, sl8 gb 256 cb] 53)).heap.size = b at hE ⊢
  have HE := Lib.hid hE
  clear hE
  go_wp2
  go_loopw [5, 6] (fun s t wr => ∃ n b : Nat, n ≤ 10 ∧ t = .int .i64 ((n : Int) + 1) ∧ s = mk16 b ∧ Hid (RE w key g c gb cb b (Aes.encGo (Aes.ks key) f n) wr)) (fun _ t _ => 11 - (intOf t).toNat)
  case atStart => exact ⟨0, b, by omega, rfl, rfl, HE⟩
  case round =>
    clear HE
    obtain ⟨n, b, hn, rfl, rfl, HE⟩ := hrel
    obtain ⟨w0, hw0⟩ : ∃ x, x = wr := ⟨_, rfl⟩
    subst hw0
    by_cases hlt : n < 10
    · have hm := make16
      have hbn : decide ((n : Int) + 1 ≤ 10) = true := by simp; omega
      go_wp2
      clear hm hbn
      have HH0 := AD.start w0 (Aes.subs (Aes.encGo (Aes.ks key) f n))
      have hN := encGo_lt (f := f) HF.out.1 HF.out.2 n
      generalize hh : Aes.encGo (Aes.ks key) f n = h at HE hN HH0
      have HN := Lib.hid hN
      have HH := Lib.hid HH0
      clear HH0 hN
      go_loopw [8] (fun t w2 => ∃ i : Nat, i ≤ 4 ∧ t = .int .i64 i ∧ Hid (AD w0 (Aes.subs h) (4 * i) w2)) (fun t _ => 4 - (intOf t).toNat)
      case atStart => exact ⟨0, by omega, rfl, HH⟩
      case round =>
        clear HH
        obtain ⟨i, hi, rfl, HH⟩ := hrel
        by_cases hli : i < 4
        · have hbi : decide ((i : Int) < 4) = true := by simp; omega
          go_wp2
          clear hbi
          go_loopw [9] (fun t w2 => ∃ r : Nat, r ≤ 4 ∧ t = .int .i64 r ∧ Hid (AD w0 (Aes.subs h) (4 * i + r) w2)) (fun t _ => 4 - (intOf t).toNat)
          case atStart => exact ⟨0, by omega, rfl, HH⟩
          case round =>
            clear HH
            obtain ⟨r, hr, rfl, HH⟩ := hrel
            by_cases hlr : r < 4
            · obtain ⟨m, q0, q1, hI, ⟨g0, g1⟩, e0, e1, e2, e3, e4, e5, l0, l1⟩ := enc_idx i r hli hlr
              have HI := Lib.hid hI
              clear hI
              have a0 := (HE.out.2.1.below HH.out.1 HE.out.2.1.lt).cell1
              have a1 := (HE.out.2.2.1.below HH.out.1 HE.out.2.2.1.lt).cell q1 g1
              have hx0 := HN.out q1
              have a2 := AtB.cell (AtB.below HE.out.2.2.2.2.1 HH.out.1) (h q1) hx0
              rw [Nat.zero_add] at a2
              have hx : ((h q1 : Nat) : Int) < 256 := by omega
              clear hx0
              have c3 : wr.cell? ⟨w0.heap.size, q0, none⟩ = some (.int .u8 0) := by rw [HI.out.1, HH.out.2.cell _ (HI.out.1 ▸ g0), upTo_at]; rfl
              have c4 := HH.out.2.frozen q0
              have HM := Lib.hid (show Aes.sb (h q1) = Aes.subs h q0 by rw [HI.out.2]; rfl)
              clear g0 g1
              go_wp2
              go_still_tail 20, (by kernel_rfl)
              change wpList _ _ _ _ _ wr.drew
              have HD := Lib.hid HH.out.drew
              have c3' : wr.drew.cell? ⟨w0.heap.size, q0, none⟩ = some (.int .u8 0) := c3
              have c4' : wr.drew.frozen? ⟨w0.heap.size, q0, none⟩ = false := c4
              clear HH c3 c4 a0 a1 a2
              generalize wr.drew = w2 at HD c3' c4' ⊢
              go_wp2
              go_roundw
              case rel => exact ⟨r + 1, by omega, by go_num, AD.setAt HD.out 0 HI.out.1 HM.out⟩
              case measure => simp [intOf]; omega
            · obtain rfl : r = 4 := by omega
              go_wp2
              go_roundw
              case rel => exact ⟨i + 1, by omega, by go_num, HH⟩
              case measure => simp [intOf]; omega
        · obtain rfl : i = 4 := by omega
          have HT := Lib.hid (show RE w key g c gb cb w0.heap.size (Aes.subs h) wr from RE.next HE.out HH.out.1 (HH.out.2.congr fun q hq => upTo_full 16 _ _ q hq))
          clear HH HE
          generalize w0.heap.size = t at HT ⊢
          obtain ⟨o, ho, o1, o2, o3, o4⟩ : ∃ o : Nat, o = 16 * (n + 1) ∧ IntKind.i64.wrap (16 * ((n : Int) + 1)) = (o : Int) ∧ IntKind.i64.wrap ((o : Int) + 16) = (o : Int) + 16 ∧ o + 16 ≤ 176 ∧ (o : Int) + 16 ≤ 176 :=
            ⟨16 * (n + 1), rfl, by rw [i64_nat _ (by omega) (by omega)]; omega, i64_nat _ (by omega) (by omega), by omega, by omega⟩
          have HO := Lib.hid ho
          clear ho
          by_cases hl9 : n < 9
          · have hb9 : decide ((n : Int) + 1 < 10) = true := by simp; omega
            go_wp2_with (fail)
            refine (mix_any t 0 16 (Aes.subs h) _ (AtB.own HT.out.2.2.1) (fun _ => Aes.sb_lt _)).mono ?_
            rintro e w3 ⟨rfl, hw, hb⟩
            have hR := RE.next HT.out hb hw
            have a0 := hR.2.1.cell0
            have HR := Lib.hid hR
            clear HT hb hw hR
            generalize wr.heap.size = t' at HR ⊢
            go_wp2_with (fail)
            refine (add_any t' 0 16 g o (c - o) (Aes.mixF (Aes.subs h)) _ _ (AtB.own HR.out.2.2.1) (ks_at HR.out.2.2.2 o o3) (fun _ => Aes.mixB_lt (Aes.sb_lt _) (Aes.sb_lt _) (Aes.sb_lt _) (Aes.sb_lt _)) (fun i => HF.out.1 _)).mono ?_
            rintro e w4 ⟨rfl, hw, hb⟩
            have HZ := Lib.hid (RE.next HR.out hb hw)
            clear HR hb hw a0
            generalize w3.heap.size = t4 at HZ ⊢
            go_wp2
            go_roundw
            case rel =>
              refine ⟨n + 1, t4, by omega, by go_num, rfl, ⟨HZ.out.1, HZ.out.2.1, HZ.out.2.2.1.congr fun q _ => ?_, HZ.out.2.2.2⟩⟩
              show _ = (if n + 1 < 10 then Aes.mixF (Aes.subs (Aes.encGo (Aes.ks key) f n)) q else Aes.subs (Aes.encGo (Aes.ks key) f n) q) ^^^ Aes.ks key (16 * (n + 1) + q)
              rw [if_pos (by omega), hh, HO.out]
            case measure => simp [intOf]; omega
          · obtain rfl : n = 9 := by omega
            have a0 := HT.out.2.1.cell0
            go_wp2_with (fail)
            refine (add_any t 0 16 g 160 (c - 160) (Aes.subs h) _ _ (AtB.own HT.out.2.2.1) (ks_at HT.out.2.2.2 160 (by omega)) (fun _ => Aes.sb_lt _) (fun i => HF.out.1 _)).mono ?_
            rintro e w4 ⟨rfl, hw, hb⟩
            have HZ := Lib.hid (RE.next HT.out hb hw)
            clear HT hb hw a0
            generalize wr.heap.size = t4 at HZ ⊢
            go_wp2
            go_roundw
            case rel =>
              refine ⟨10, t4, by omega, by go_num, rfl, ⟨HZ.out.1, HZ.out.2.1, HZ.out.2.2.1.congr fun q _ => ?_, HZ.out.2.2.2⟩⟩
              show _ = (if 10 < 10 then Aes.mixF (Aes.subs (Aes.encGo (Aes.ks key) f 9)) q else Aes.subs (Aes.encGo (Aes.ks key) f 9) q) ^^^ Aes.ks key (16 * 10 + q)
              rw [if_neg (by omega), hh]
            case measure => simp [intOf]
    · obtain rfl : n = 10 := by omega
      go_wp2
      go_ret
      exact ⟨b, rfl, HE.out.2.2.1, HE.out.1⟩
end Go.Proofs.YtecdfjcncgcegaaDoor
