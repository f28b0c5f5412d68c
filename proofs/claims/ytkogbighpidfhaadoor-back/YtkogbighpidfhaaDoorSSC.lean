/- Contract of lex's Scan. -/
import Derived.Test.YtkogbighpidfhaaDoorSSC1
namespace Go.Proofs.YtkogbighpidfhaaDoor
open Go.RowKit
open Lx

/-- What holds at the loop's head. -/
def ScI (s : ByteArray) (w : World) (ts : List Tk) (a : Nat) (v : Value) (wr : World) : Prop :=
  Row wr w.heap.size 37 4 v ts.length (tkF s ts) ∧ Below w.heap.size w wr ∧ a ≤ s.size ∧ ts.length ≤ 512 ∧ gap false ((bts s).drop a) = 0 ∧ toks (bts s) 0 0 = pre ts (toks ((bts s).drop a) a ts.length)
theorem row_len {w : World} {B e s n : Nat} {v : Value} {F : Nat → Value} (h : Row w B e s v n F) : ∃ A c, v = .slice A n c := by
  obtain ⟨A, c, rfl, _⟩ := h.read
  exact ⟨A, c, rfl⟩
set_option maxHeartbeats 16000000 in
set_option maxRecDepth 100000 in
theorem scan_any (s : ByteArray) (w : World) (hs : s.size ≤ 1000000) (hE : ErrR w) (hH : Handle w) :
    Calls Tryd.prog 9 #[.string s] w (ScAns s w) := by
  have HG := Lib.hid (And.intro hE hH)
  have HS := Lib.hid hs
  by_cases hlong : 4096 < s.size
  · have l1 : (4096 : Int) < (s.size : Int) := by omega
    have HW := Lib.hid (wrap_bare 3 (s.size : Int) lexB w hH)
    have HR := Lib.hid (show res s = .error (3, s.size) by unfold res; rw [if_pos hlong])
    clear hE hH hlong hs
    go_enter Tryd.func9, Tryd.ntmps9
    go_wp2_with fail
    refine HW.out.mono ?_
    rintro e w1 ⟨rfl, hb⟩
    have HB := Lib.hid hb
    clear hb HW
    go_wp2
    go_ret2
    unfold ScAns
    rw [HR.out]
    exact ⟨rfl, HB.out⟩
  have l1 : ¬ (4096 : Int) < (s.size : Int) := by omega
  have HR := Lib.hid (show res s = toks (bts s) 0 0 by unfold res; rw [if_neg hlong])
  obtain ⟨a0, ha0⟩ : ∃ a0, 0 + gap false ((bts s).drop 0) = a0 := ⟨_, rfl⟩
  have HK := Lib.hid (skip_any s 0 a0 w ha0 (Nat.zero_le _) hs)
  rw [Int.natCast_zero] at HK
  have HI := Lib.hid (show ScI s w [] a0 (.slice none 0 0) w by
    rw [List.drop_zero, Nat.zero_add] at ha0
    refine ⟨Row.nil _ _ _ _ _, Below.refl _ _, ?_, by simp, ?_, ?_⟩
    · have := gap_le (bts s) false
      rw [bts_length] at this
      omega
    · rw [← ha0]; exact gap_drop _ _
    · rw [toks_skip, ha0, Nat.zero_add]
      rw [← ha0]
      simp only [List.length_nil]
      cases toks ((bts s).drop (gap false (bts s))) (gap false (bts s)) 0 <;> rfl)
  clear ha0 hE hH hs hlong
  go_enter Tryd.func9, Tryd.ntmps9
  go_wp2_with fail
  refine HK.out.mono ?_
  rintro e w1 ⟨rfl, rfl⟩
  clear HK
  go_wp2_with fail
  clear l1
  go_loopw [4, 5] (fun v i wr => ∃ (ts : List Tk) (a : Nat), i = .int .i64 (a : Int) ∧ Hid (ScI s w ts a v wr)) (fun _ i _ => s.size - (intOf i).toNat)
  case atStart => exact ⟨[], a0, rfl, HI.out⟩
  case round =>
    clear HI
    obtain ⟨ts, a, rfl, HI⟩ := hrel
    by_cases ha : a < s.size
    · have lt1 : (a : Int) < (s.size : Int) := by omega
      have la0 : (0 : Int) ≤ (a : Int) := by omega
      have la1 : (a : Int) ≤ (s.size : Int) := by omega
      have hlt := ErrR.lt HG.out.1
      have hEr : ErrR wr := HG.out.1.below HI.out.2.1 hlt
      have HF := Lib.hid (front_any (s.extract a s.size) wr (by rw [ByteArray.size_extract]; omega) (by rw [ByteArray.size_extract]; have := HS.out; omega) hEr)
      unfold frV at HF
      rw [bts_from] at HF
      have HA := Lib.hid ha
      have hH1 : ∀ w', Below wr.heap.size wr w' → Handle w' := fun w' hb => HG.out.2.below (HI.out.2.1.trans (hb.mono HI.out.2.1.size)) HG.out.2.pos
      have HH := Lib.hid hH1
      clear hlt hEr ha hH1
      rcases htk : tok ((bts s).drop a) with _ | ⟨k, len, num⟩
      · rw [htk] at HF
        have HT := Lib.hid (show res s = .error (120, a) by
          have h := HI.out.2.2.2.2.2
          rw [HR.out, h, toks_none (by rw [HI.out.2.2.2.2.1, List.drop_zero, ← List.length_pos_iff, List.length_drop, bts_length]; have := HA.out; omega) (by rw [HI.out.2.2.2.2.1, List.drop_zero]; exact htk), HI.out.2.2.2.2.1]
          rfl)
        clear htk
        go_wp2_with fail
        refine HF.out.mono ?_
        rintro e w2 ⟨rfl, hb2⟩
        have hb3 : Below wr.heap.size wr (w2.alloc (.cells (tkC 0 ⟨#[]⟩ 0 0) 37)) := hb2.alloc hb2.size _
        have HWr := Lib.hid (wrap_bare 120 (a : Int) lexB _ (HH.out _ hb3))
        have HB := Lib.hid (HI.out.2.1.trans (hb3.mono HI.out.2.1.size))
        clear hb2 hb3 HF
        go_wp2_with fail
        refine HWr.out.mono ?_
        rintro e w4 ⟨rfl, hb4⟩
        have HB4 := Lib.hid (HB.out.trans (hb4.mono HB.out.size))
        clear hb4 HWr
        go_wp2
        go_ret2
        unfold ScAns
        rw [HT.out]
        exact ⟨rfl, HB4.out⟩
      · rw [htk] at HF
        have hlen := tok_len htk
        rw [List.length_drop, bts_length] at hlen
        have HT := Lib.hid htk
        obtain ⟨txt, htxt⟩ : ∃ txt, s.extract a (a + len) = txt := ⟨_, rfl⟩
        have hfv : frV (s.extract a s.size) = aTk k txt num := by
          unfold frV
          rw [bts_from, htk]
          show aTk k ((s.extract a s.size).extract 0 len) num = _
          rw [ext_ext, htxt]
        have HF := Lib.hid (front_any (s.extract a s.size) wr (by rw [ByteArray.size_extract]; have := HA.out; omega) (by rw [ByteArray.size_extract]; have := HS.out; omega) (HG.out.1.below HI.out.2.1 (ErrR.lt HG.out.1)))
        rw [hfv] at HF
        have htl : txt.size = len := by rw [← htxt, ByteArray.size_extract]; omega
        have HL := Lib.hid hlen
        have HX := Lib.hid htxt
        clear htk hlen hfv htxt
        obtain ⟨A, c, rfl⟩ := row_len HI.out.1
        by_cases hfull : ts.length = 512
        · have bf : ((ts.length : Int) == 512) = true := by rw [beq_iff_eq]; omega
          have HT2 := Lib.hid (show res s = .error (5, a) by
            have h := HI.out.2.2.2.2.2
            rw [HR.out, h, toks_full (by rw [HI.out.2.2.2.2.1, List.drop_zero]; exact HT.out) (by omega), HI.out.2.2.2.2.1]
            rfl)
          clear hfull htl
          go_wp2_with fail
          refine HF.out.mono ?_
          rintro e w2 ⟨rfl, hb2⟩
          have hb3 : Below wr.heap.size wr (w2.alloc (.cells (tkC k txt num 0) 37)) := hb2.alloc hb2.size _
          have HWr := Lib.hid (wrap_bare 5 (a : Int) lexB _ (HH.out _ hb3))
          have HB := Lib.hid (HI.out.2.1.trans (hb3.mono HI.out.2.1.size))
          clear hb2 hb3 HF
          go_wp2_with fail
          refine HWr.out.mono ?_
          rintro e w4 ⟨rfl, hb4⟩
          have HB4 := Lib.hid (HB.out.trans (hb4.mono HB.out.size))
          clear hb4 HWr
          go_wp2
          go_ret2
          unfold ScAns
          rw [HT2.out]
          exact ⟨rfl, HB4.out⟩
        · have bf : ((ts.length : Int) == 512) = false := by rw [beq_eq_false_iff_ne]; omega
          have HN := Lib.hid (show ts.length < 512 by have := HI.out.2.2.2.1; omega)
          clear hfull
          go_wp2_with fail
          refine HF.out.mono ?_
          rintro e w2 ⟨rfl, hb2⟩
          obtain ⟨w3, hw3⟩ : ∃ x, w2.alloc (.cells (tkC k txt num a) 37) = x := ⟨_, rfl⟩
          have hb3 : Below wr.heap.size wr w3 := hw3 ▸ hb2.alloc hb2.size _
          have hs3 : w3.heap.size = w2.heap.size + 1 := by rw [← hw3]; simp
          have hb23 : Below w2.heap.size w2 w3 := hw3 ▸ (Below.refl _ _).alloc (Nat.le_refl _) _
          have Y3 : TkB w3 w2.heap.size k txt num a := hw3 ▸ Blk.new w2 37 (tkC k txt num a)
          have hR3 := HI.out.1.below hb3
          have hown := HI.out.1.own
          obtain ⟨g, kk, w4, hr4, hgB, hR4, hgr, hor⟩ := append_tk w3 w.heap.size _ s ts (ts ++ [(k, a, len, num)]) ts.length (k, a, len, num) (tkC k txt num a) hR3 (fun j hj => by
            rcases (show j = 0 ∨ j = 1 ∨ j = 2 ∨ j = 3 by omega) with rfl | rfl | rfl | rfl
            · rfl
            · rw [← HX.out]; rfl
            · rfl
            · rfl) (push_old s ts _) (push_new s ts _) (by have := HN.out; omega) (by have := HI.out.2.1.size; have := hb3.size; omega)
          have hb4 : Below w.heap.size w w4 := ((HI.out.2.1.trans (hb3.mono HI.out.2.1.size)).alloc (by have := HI.out.2.1.size; have := hb3.size; omega) (.cells (tkC k txt num a) 37)).grown hgr (by simp; have := HI.out.2.1.size; have := hb3.size; omega) fun q hq => (hown q hq).1
          have Y4 : TkB w4 w2.heap.size k txt num a := by
            refine (hgr.block w2.heap.size ?_ ?_).trans (Blk.alloc Y3 _)
            · have := Blk.lt Y3; simp; omega
            · intro hq
              have := (hown _ hq.symm).2.1
              have := hb2.size
              omega
          obtain ⟨c0, c1, c2, c3⟩ := TkB.cells Y4
          rw [hs3] at hr4
          subst hw3
          obtain ⟨a', ha'⟩ : ∃ a', (a + len) + gap false ((bts s).drop (a + len)) = a' := ⟨_, rfl⟩
          have HK := Lib.hid (skip_any s (a + len) a' w4 ha' (by have := HL.out; have := HA.out; omega) HS.out)
          rw [Int.natCast_add] at HK
          have e1 : IntKind.i64.wrap ((a : Int) + (len : Int)) = (a : Int) + (len : Int) := i64_nat _ (by omega) (by have := HS.out; have := HL.out; have := HA.out; omega)
          have HJ := Lib.hid (show ScI s w (ts ++ [(k, a, len, num)]) a' (.slice (some ⟨g, 0, none⟩) (ts.length + 1) kk) w4 by
            obtain ⟨_, _, hI1, hI2, hI3, hI4⟩ := HI.out
            have hle := gap_le ((bts s).drop (a + len)) false
            rw [List.length_drop, bts_length] at hle
            refine ⟨?_, hb4, by have := HL.out; have := HA.out; omega, by rw [List.length_append]; have := HN.out; simp; omega, ?_, ?_⟩
            · rw [List.length_append]; exact hR4
            · rw [← ha', ← List.drop_drop]; exact gap_drop _ _
            · have hdd : ((bts s).drop a).drop len = (bts s).drop (a + len) := List.drop_drop
              have hd2 : ((bts s).drop (a + len)).drop (gap false ((bts s).drop (a + len))) = (bts s).drop a' := by rw [List.drop_drop, ha']
              rw [hI4, toks_step hI3 HT.out HN.out, pre_pre, hdd, hd2, ha', List.length_append]
              rfl)
          have HM := Lib.hid (show a < a' by have := HL.out; omega)
          have HR4 := Lib.hid hr4
          clear HF hb2 hb3 hs3 hb23 Y3 hR3 hown hr4 hgB hR4 hgr hor hb4 Y4 ha'
          go_wp2_with (at_builtin; refine wpList_append_run rfl _ _ 23 rfl (.slice A ts.length c) (.slice (some ⟨w2.heap.size + 1, 0, none⟩) 1 1) (.slice (some ⟨g, 0, none⟩) (ts.length + 1) kk) w4 rfl rfl (HR4.out _) ?_)
          refine HK.out.mono ?_
          rintro e w5 ⟨rfl, rfl⟩
          clear HK
          go_wp2
          go_roundw
          case rel => exact ⟨_, a', rfl, HJ.out⟩
          case measure => simp [intOf]; have := HM.out; have := HA.out; omega
    · have lt1 : ¬ (a : Int) < (s.size : Int) := by omega
      obtain ⟨A, c, rfl⟩ := row_len HI.out.1
      have hae : a = s.size := by have := HI.out.2.2.1; omega
      have HT := Lib.hid (show res s = .ok ts by
        have h := HI.out.2.2.2.2.2
        rw [HR.out, h, toks_nil (by rw [bts_end s a (by omega)]; rfl)]
        simp only [pre, List.append_nil])
      obtain ⟨wB, hwB⟩ : ∃ x, x = wr := ⟨_, rfl⟩
      subst hwB
      obtain ⟨g, kk, w4, hr4, hgB, hR4, hgr, hor⟩ := append_tk wB w.heap.size _ s ts ts ts.length (tkEnd s) (tkC 0 ⟨#[]⟩ 0 s.size) HI.out.1 (fun j hj => by
        rcases (show j = 0 ∨ j = 1 ∨ j = 2 ∨ j = 3 by omega) with rfl | rfl | rfl | rfl
        · rfl
        · show some (Value.string ⟨#[]⟩) = some (.string (s.extract s.size (s.size + 0)))
          rw [ext_none]
        · rfl
        · rfl) (fun _ _ => rfl) (end_new s ts) (by have := HI.out.2.2.2.1; omega) HI.out.2.1.size
      have hown := HI.out.1.own
      have hb4 : Below w.heap.size w w4 := (HI.out.2.1.alloc HI.out.2.1.size (.cells (tkC 0 ⟨#[]⟩ 0 s.size) 37)).grown hgr (by simp; have := HI.out.2.1.size; omega) fun q hq => (hown q hq).1
      have HR4 := Lib.hid hr4
      have HB := Lib.hid (And.intro hgB (And.intro hR4 hb4))
      clear hae ha hr4 hgB hR4 hgr hor hown hb4
      go_wp2_with (at_builtin; refine wpList_append_run rfl _ _ 23 rfl (.slice A ts.length c) (.slice (some ⟨wB.heap.size, 0, none⟩) 1 1) (.slice (some ⟨g, 0, none⟩) (ts.length + 1) kk) w4 rfl rfl (HR4.out _) ?_)
      go_ret2
      unfold ScAns
      rw [HT.out]
      exact ⟨⟨g, kk, rfl, HB.out.1, HB.out.2.1⟩, HB.out.2.2⟩
end Go.Proofs.YtkogbighpidfhaaDoor
