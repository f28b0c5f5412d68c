/- LinkFrames' walk. -/
import Derived.Test.YteadpnododjeaaaDoorLR3
namespace Go.Proofs.YteadpnododjeaaaDoor
open Go.RowKit

theorem conv_BO (w : World) (A : Option Addr) (n c : Nat) (f : Nat → Nat) (h : AtBO w A n f) (hf : ∀ i, f i < 256) (h0 : A = none → n = 0 ∧ c = 0) : (convert 23 9 (.slice A n c)).run Tryd.prog w = .ok (.string (strB n f)) w := by
  rcases A with _ | ad
  · obtain ⟨rfl, rfl⟩ := h0 rfl
    kernel_rfl
  · exact conv_B w ad n c f (fun i hi => by obtain ⟨ad', e, hc⟩ := h i hi; cases e; exact hc) hf
/-- A list of bytes that is looked at. -/
structure El (w : World) (v : Value) : Prop where
  ex : ∃ A n c f, v = .slice A n c ∧ AtBO w A n f ∧ (∀ i, f i < 256) ∧ (A = none → n = 0 ∧ c = 0) ∧ n ≤ 140737488355328
theorem El.below {w w' : World} {v : Value} (h : El w v) (hb : Below w.heap.size w w') : El w' v := let ⟨A, n, c, f, h1, h2, h3⟩ := h.ex; ⟨A, n, c, f, h1, h2.below hb, h3⟩
set_option maxHeartbeats 8000000 in
set_option maxRecDepth 100000 in
theorem frames_walk (kind num : Nat) (A : Option Addr) (n c : Nat) (f : Nat → Nat) (w : World) (hL : Laid w) (hk : kind < 256) (hm : num < 4294967296) (hA : AtBO w A n f) (hf : ∀ i, f i < 256) (h0 : A = none → n = 0 ∧ c = 0) (hn : n ≤ 140737488351232) :
    Calls Tryd.prog 3 #[.int .u8 (kind : Int), .int .u32 (num : Int), .slice A n c] w fun e w' => e = .returned (.bool true) ∧ Below w.heap.size w w' := by
  have HA := Lib.hid (And.intro hL (And.intro hk (And.intro hm (And.intro hA (And.intro hf (And.intro h0 hn))))))
  clear hL hk hm hA hf h0 hn
  go_enter Tryd.func3, Tryd.ntmps3
  go_wp2_with fail
  refine (awake_any w HA.out.1).mono ?_
  rintro e w1 ⟨rfl, hb1⟩
  obtain ⟨hL, hk, hm, hA, hf, h0, hn⟩ := HA.out
  obtain ⟨g2, k2, w2, hr2, ho2, hb2⟩ := copyB w1 A n c f (hA.below hb1) h0 (by omega)
  have HQ := Lib.hid hr2
  have H2 := Lib.hid (show OR w2 w1.heap.size (sl8 g2 n k2) n f ∧ Below w.heap.size w w2 from ⟨ho2, hb1.trans (hb2.mono hb1.size)⟩)
  clear hL hk hm hA hf h0 hn hb1 hr2 ho2 hb2
  go_wp2_with (at_builtin; refine wpList_append_run rfl _ _ 23 rfl _ _ _ w2 rfl rfl HQ.out ?_)
  clear HQ
  obtain ⟨hL, hk, hm, hA, hf, h0, hn⟩ := HA.out
  refine (seal_any kind num (some ⟨g2, 0, none⟩) n k2 f w2 (hL.below H2.out.2 hL.pos).1 H2.out.1.lt.2.2.2.2.opt (fun h => by cases h) hf hk hm (by omega)).mono ?_
  rintro e w3 ⟨x, rfl, hl, hlen, hdat, hb3⟩
  have hb3 := H2.out.2.trans (hb3.mono H2.out.2.size)
  obtain ⟨tb, htb⟩ : ∃ t, t = strB (n + 9) (Link.sealB kind num n f) := ⟨_, rfl⟩
  obtain ⟨tp, htp⟩ : ∃ t, t = strB n f := ⟨_, rfl⟩
  have HC := Lib.hid (show ∀ w', Below w3.heap.size w3 w' → (convert 23 9 (.slice (some ⟨x.blk, 0, none⟩) x.len x.cap)).run Tryd.prog w' = .ok (.string tb) w' ∧ (convert 23 9 (.slice A n c)).run Tryd.prog w' = .ok (.string tp) w' from fun w' hw' => by
    refine ⟨?_, ?_⟩
    · have := (hl.below hw').str
      rw [hlen, hdat, ← htb] at this
      unfold frV at this
      rw [hlen] at this ⊢
      exact this
    · rw [htp]; exact conv_BO w' A n c f (hA.below (hb3.trans (hw'.mono hb3.size))) hf h0)
  have HS := Lib.hid (fun w' => rseal_any kind num n f w' hf hk hm (by omega))
  rw [← htb, ← htp] at HS
  have H3 := Lib.hid (And.intro hl (And.intro hlen (And.intro hdat hb3)))
  unfold frV
  clear hL hk hm hA hf h0 hn hl hlen hdat hb3 H2 htb htp
  go_wp2
  refine wp_region_held_drew (S := fun w' => Below w3.heap.size w3 w') (by kernel_rfl) ((Below.refl _ _).drew) (fun hHeld => ?_)
  generalize w3.drew = wd at hHeld ⊢
  refine ht (i := 0) rfl (.slice (some ⟨x.blk, 0, none⟩) x.len x.cap) (by kernel_rfl) (by kernel_rfl) (by kernel_rfl) (fun _ _ _ h => h) hHeld (fun w' hw' => by go_simp) ?_
  try simp only [Act.put, List.setIfInBounds_toArray, List.set_cons_zero, List.set_cons_succ]
  refine ht (i := 1) rfl (.string tb) (by kernel_rfl) (by kernel_rfl) (by kernel_rfl) (fun _ _ _ h => h) hHeld (fun w' hw' => by have hcv := (HC.out w' hw').1; go_simp) ?_
  try simp only [Act.put, List.setIfInBounds_toArray, List.set_cons_zero, List.set_cons_succ]
  refine ht (i := 2) rfl (.int .u8 (kind : Int)) (by kernel_rfl) (by kernel_rfl) (by kernel_rfl) (fun _ _ _ h => h) hHeld (fun w' hw' => by go_simp) ?_
  try simp only [Act.put, List.setIfInBounds_toArray, List.set_cons_zero, List.set_cons_succ]
  refine ht (i := 3) rfl (.int .u32 (num : Int)) (by kernel_rfl) (by kernel_rfl) (by kernel_rfl) (fun _ _ _ h => h) hHeld (fun w' hw' => by go_simp) ?_
  try simp only [Act.put, List.setIfInBounds_toArray, List.set_cons_zero, List.set_cons_succ]
  refine ht (i := 4) rfl (.slice A n c) (by kernel_rfl) (by kernel_rfl) (by kernel_rfl) (fun _ _ _ h => h) hHeld (fun w' hw' => by go_simp) ?_
  try simp only [Act.put, List.setIfInBounds_toArray, List.set_cons_zero, List.set_cons_succ]
  refine ht (i := 5) rfl (.string tp) (by kernel_rfl) (by kernel_rfl) (by kernel_rfl) (fun _ _ _ h => h) hHeld (fun w' hw' => by have hcv := (HC.out w' hw').2; go_simp) ?_
  try simp only [Act.put, List.setIfInBounds_toArray, List.set_cons_zero, List.set_cons_succ]
  refine h1 (i := 6) (by kernel_rfl) rfl (fun K hK => ?_)
  go_simp
  refine (HS.out wd).mono ?_
  rintro e w4 ⟨rfl, hb4⟩
  replace hHeld := hHeld.trans (hb4.mono hHeld.size)
  refine hK.out _ _ hHeld ?_
  clear hK K hb4
  try simp only [Act.put, List.setIfInBounds_toArray, List.set_cons_zero, List.set_cons_succ]
  refine ht (i := 7) rfl (.bool false) (by kernel_rfl) (by kernel_rfl) (by kernel_rfl) (fun _ _ _ h => h) hHeld (fun w' hw' => by go_simp) ?_
  try simp only [Act.put, List.setIfInBounds_toArray, List.set_cons_zero, List.set_cons_succ]
  refine wpAnyH_done (by kernel_rfl) ?_ _
  obtain ⟨hL, hk, hm, hA, hf, h0, hn⟩ := HA.out
  obtain ⟨hl, hlen, hdat, hb3⟩ := H3.out
  have hb4 := hb3.trans (hHeld.mono hb3.size)
  have hl4 := hl.below hHeld
  obtain ⟨g5, k5, w5, hr5, ho5, hb5⟩ := copyB w4 (some ⟨x.blk, 0, none⟩) x.len x.cap x.dat hl4.atBO (fun h => by cases h) (by omega)
  have hs45 := hb5.size
  obtain ⟨g6, k6, w6, hr6, ho6, hb6⟩ := push 0 ho5 (by omega) hs45 (fun i => if i < x.len then x.dat i else 0) (fun i hi => if_pos hi) (if_neg (by omega))
  have hb46 : Below w4.heap.size w4 w6 := hb5.trans hb6
  obtain ⟨w7, hw7⟩ : ∃ w7, w7 = w6.alloc (.cells #[.slice (some ⟨x.blk, 0, none⟩) x.len x.cap, .slice A n c, sl8 g6 (x.len + 1) k6] 23) := ⟨_, rfl⟩
  have hb67 : Below w6.heap.size w6 w7 := by rw [hw7]; exact (Below.refl _ _).alloc (Nat.le_refl _) _
  have hb47 := hb46.trans (hb67.mono hb46.size)
  have hl7 := hl4.below hb47
  have HEl := Lib.hid (show ∀ i : Nat, i < 3 → ∃ v, w7.cell? ⟨w6.heap.size, i, none⟩ = some v ∧ El w7 v from fun i hi => by
    rcases (show i = 0 ∨ i = 1 ∨ i = 2 by omega) with rfl | rfl | rfl
    · exact ⟨.slice (some ⟨x.blk, 0, none⟩) x.len x.cap, by rw [hw7]; simp, ⟨_, _, _, _, rfl, hl7.atBO, hl7.lt, fun h => (by cases h), by omega⟩⟩
    · exact ⟨.slice A n c, by rw [hw7]; simp, ⟨_, _, _, _, rfl, hA.below (hb4.trans (hb47.mono hb4.size)), hf, h0, by omega⟩⟩
    · refine ⟨sl8 g6 (x.len + 1) k6, by rw [hw7]; simp, ⟨_, _, _, _, rfl, (ho6.lt.2.2.2.2.below hb67).opt, fun i => ?_, fun h => (by cases h), by omega⟩⟩
      show (if i < x.len then x.dat i else 0) < 256
      split
      · exact hl.lt i
      · omega)
  have HQ5 := Lib.hid hr5
  have HQ6 := Lib.hid hr6
  have H7 := Lib.hid (hb4.trans (hb47.mono hb4.size))
  have hw7' : w6.alloc (.cells #[.slice (some ⟨x.blk, 0, none⟩) x.len x.cap, .slice A n c, sl8 g6 (x.len + 1) k6] 23) = w7 := hw7.symm
  clear hL hk hm hA hf h0 hn hl hlen hdat hb3 hb4 hl4 hr5 ho5 hb5 hs45 hr6 ho6 hb6 hb46 hb67 hb47 hl7 hHeld H3 HS HC hw7
  go_wp2_with (at_builtin; first | refine wpList_append_run rfl _ _ 23 rfl (sl8 w4.heap.size 0 0) (.slice (some ⟨x.blk, 0, none⟩) x.len x.cap) (sl8 g5 x.len k5) w5 rfl rfl HQ5.out ?_ | refine wpList_append_run rfl _ _ 23 rfl (sl8 g5 x.len k5) (.slice (some ⟨w5.heap.size, 0, none⟩) 1 1) (sl8 g6 (x.len + 1) k6) w6 rfl rfl HQ6.out ?_)
  clear HQ5 HQ6
  try rw [hw7']
  clear hw7'
  go_loopw [43] (fun q wr => ∃ j : Nat, q = .int .i64 j ∧ Hid (True ∧ j ≤ 3) ∧ Hid (Below w7.heap.size w7 wr)) (fun q _ => 3 - (intOf q).toNat)
  case atStart => exact ⟨0, rfl, ⟨trivial, by omega⟩, Below.refl _ _⟩
  case round =>
    obtain ⟨j, rfl, HJ, HB⟩ := hrel
    by_cases hlt : j < 3
    · have hlt1 : (j : Int) < 3 := by omega
      have e7 : IntKind.i64.wrap ((j : Int) + 1) = (j : Int) + 1 := i64_nat _ (by omega) (by omega)
      obtain ⟨v, hc7, hE⟩ := HEl.out j hlt
      have hcj : wr.cell? ⟨w6.heap.size, j, none⟩ = some v := (HB.out.cell (p := ⟨w6.heap.size, j, none⟩) (World.block_lt_of_cell? _ _ hc7)).trans hc7
      obtain ⟨B, m, d, g, rfl, hAt, hg, hB0, hm⟩ := (hE.below HB.out).ex
      obtain ⟨g8, k8, w8, hr8, ho8, hb8⟩ := copyB wr B m d g hAt hB0 hm
      have HQ8 := Lib.hid hr8
      have hb78 := HB.out.trans (hb8.mono HB.out.size)
      have H8 := Lib.hid (show OR w8 wr.heap.size (sl8 g8 m k8) m g ∧ Below w7.heap.size w7 w8 ∧ AtBO w8 B m g ∧ (∀ i, g i < 256) ∧ (B = none → m = 0 ∧ d = 0) ∧ m ≤ 140737488355328 from ⟨ho8, hb78, hAt.below hb8, hg, hB0, hm⟩)
      have HLt := Lib.hid (And.intro trivial hlt)
      clear hlt HJ hc7 hE hAt hg hB0 hm hr8 ho8 hb8 hb78 HB
      go_wp2_with (at_builtin; refine wpList_append_run rfl _ _ 23 rfl (sl8 wr.heap.size 0 0) (.slice B m d) (sl8 g8 m k8) w8 rfl rfl HQ8.out ?_)
      clear HQ8
      obtain ⟨ho8, hb78, hAt, hg, hB0, hm⟩ := H8.out
      have hL8 : Laid w8 := HA.out.1.below (H7.out.trans (hb78.mono H7.out.size)) HA.out.1.pos
      refine (open_any (some ⟨g8, 0, none⟩) m k8 g w8 hL8.1 ho8.lt.2.2.2.2.opt hg ho8.lt.2.2.1 (by omega)).mono ?_
      have HRO := Lib.hid (fun w' => ropen_any m g w' hg (by omega))
      rintro e w9 (⟨hF, g9, rfl, hl9, hb9⟩ | ⟨hF, rfl, hb9⟩)
      · have hcs := conv_BO w9 B m d g (hAt.below hb9) hg hB0
        have H9 := Lib.hid (And.intro hF (And.intro hl9 (hb78.trans (hb9.mono hb78.size))))
        obtain ⟨ts, hts⟩ : ∃ t, t = strB m g := ⟨_, rfl⟩
        rw [← hts] at hcs HRO
        unfold frV
        obtain ⟨nn, hnn⟩ : ∃ t, t = Link.num g := ⟨_, rfl⟩
        obtain ⟨n0, hn0⟩ : ∃ t, t = g 0 := ⟨_, rfl⟩
        rw [← hnn, ← hn0]
        have HV := Lib.hid (And.intro hnn hn0)
        clear ho8 hb78 hAt hg hB0 hm hF hl9 hb9 H8 hts hL8 hnn hn0
        go_wp2_with fail
        refine (HRO.out w9).mono ?_
        rintro e w10 ⟨⟨_, rfl⟩ | ⟨hF, _⟩, hb10⟩
        · have hcq := (H9.out.2.1.below hb10).str
          unfold frV at hcq
          have H10 := Lib.hid (H9.out.2.2.trans (hb10.mono H9.out.2.2.size))
          rw [← HV.out.1, ← HV.out.2]
          change (convert 23 9 (.slice (some ⟨g9, 0, none⟩) (m - 9) (m - 9))).run Tryd.prog w10 = .ok (.string (strB (m - 9) fun j => g (j + 5))) w10 at hcq
          generalize strB (m - 9) (fun j => g (j + 5)) = tq at hcq ⊢
          generalize m - 9 = m9 at hcq ⊢
          clear hb10 H9 hcs HRO
          go_wp2
          go_roundw
          case rel => exact ⟨j + 1, by go_num, ⟨trivial, HLt.out.2⟩, H10⟩
          case measure => have := HLt.out.2; simp [intOf]; omega
        · exact absurd H9.out.1 hF
      · have hcs := conv_BO w9 B m d g (hAt.below hb9) hg hB0
        have H9 := Lib.hid (And.intro hF (hb78.trans (hb9.mono hb78.size)))
        obtain ⟨ts, hts⟩ : ∃ t, t = strB m g := ⟨_, rfl⟩
        rw [← hts] at hcs HRO
        clear ho8 hb78 hAt hg hB0 hm hF hb9 H8 hts hL8
        go_wp2_with fail
        refine (HRO.out w9).mono ?_
        rintro e w10 ⟨⟨hF, _⟩ | ⟨_, rfl⟩, hb10⟩
        · exact absurd hF H9.out.1
        · have hcq : (convert 23 9 (.slice none 0 0)).run Tryd.prog w10 = .ok (.string ⟨#[]⟩) w10 := conv_BO w10 none 0 0 (fun _ => 0) AtBO.none (fun _ => by omega) (fun _ => ⟨rfl, rfl⟩)
          have H10 := Lib.hid (H9.out.2.trans (hb10.mono H9.out.2.size))
          clear hb10 H9 hcs HRO
          go_wp2
          go_roundw
          case rel => exact ⟨j + 1, by go_num, ⟨trivial, HLt.out.2⟩, H10⟩
          case measure => have := HLt.out.2; simp [intOf]; omega
    · obtain rfl : j = 3 := by have := HJ.out.2; omega
      clear hlt
      go_wp2
      go_ret
      exact ⟨rfl, H7.out.trans (HB.out.mono H7.out.size)⟩
end Go.Proofs.YteadpnododjeaaaDoor
