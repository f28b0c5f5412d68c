/- The document's Open. -/
import Derived.Test.YteadpnododjeaaaDoorLR2
namespace Go.Proofs.YteadpnododjeaaaDoor
open Go.RowKit

theorem str_ne {a b : ByteArray} (h : a ≠ b) : (a.toList == b.toList) = false := by
  rw [← beq_toListBytes]
  cases hb : a == b with
  | false => rfl
  | true => exact absurd ((MapKept.bytes_beq a b).1 hb) h
theorem notEmpty {t : ByteArray} (h : t ≠ ⟨#[]⟩) : t.toList.isEmpty = false := by
  cases he : t.toList.isEmpty with
  | false => rfl
  | true =>
    have h1 : t.toList = [] := List.isEmpty_iff.1 he
    have h2 := str_ne h
    have h3 : (ByteArray.toList ⟨#[]⟩) = [] := by kernel_rfl
    rw [h1, h3] at h2
    cases h2
theorem strB_extract (n : Nat) (f : Nat → Nat) (l h : Nat) (hh : h ≤ n) : (strB n f).extract l h = strB (h - l) (fun i => f (l + i)) := by
  apply ByteArray.ext
  rw [ByteArray.data_extract]
  unfold strB
  apply Array.ext'
  apply List.ext_getElem?
  intro i
  simp only [Array.toList_extract, List.extract_eq_take_drop, List.getElem?_take, List.getElem?_drop, List.getElem?_map]
  by_cases hi : i < h - l
  · rw [if_pos hi, List.getElem?_range (by omega), List.getElem?_range hi]; rfl
  · rw [if_neg hi, List.getElem?_eq_none (by rw [List.length_range]; omega)]; rfl
theorem run_sub (n : Nat) (f : Nat → Nat) (l h : Nat) (hl : l ≤ h) (hh : h ≤ n) (w : World) : (Instr.slice 9 (.string (strB n f)) (some (.int .i64 (l : Int))) (some (.int .i64 (h : Int))) none).run Tryd.prog w = .ok (.string (strB (h - l) fun i => f (l + i))) w := by
  have hu : Tryd.prog.underlying 9 = some .string := by kernel_rfl
  have hs := strB_size n f
  have e := strB_extract n f l h hh
  have h1 : (h : Int) ≤ ((strB n f).size : Int) := by rw [hs]; omega
  simp [Instr.slice, run_underlying hu, Instr.sliceBounds, Instr.sliceBound, asIntOf, hs, hl, hh, e]
/-- What the document's Open answers. -/
def ROpened (w : World) (n : Nat) (f : Nat → Nat) (e : Ending) (w' : World) : Prop :=
  ((Link.isF f n ∧ e = .returned (.tuple #[.int .u8 (f 0 : Int), .int .u32 (Link.num f : Int), .string (strB (n - 9) fun j => f (j + 5)), .bool true])) ∨
   (¬ Link.isF f n ∧ e = .returned (.tuple #[.int .u8 0, .int .u32 0, .string ⟨#[]⟩, .bool false]))) ∧ Below w.heap.size w w'
set_option maxHeartbeats 1000000 in
set_option maxRecDepth 100000 in
theorem ropen_short (n : Nat) (f : Nat → Nat) (w : World) (hn : n < 9) : Calls Tryd.prog 14 #[.string (strB n f)] w (ROpened w n f) := by
  have hsz := strB_size n f
  have k1 : (n : Int) < 9 := by omega
  have HF := Lib.hid (show ¬ Link.isF f n from fun h => by have := h.1; omega)
  generalize strB n f = t at *
  clear hn
  go_enter Tryd.func14, Tryd.ntmps14
  go_wp2
  exact bodyPost_ret (results_tmp4 rfl _ _ _) rfl ⟨.inr ⟨HF.out, rfl⟩, Below.refl _ _⟩
/-- The number's steps. -/
theorem num_steps (f : Nat → Nat) (hf : ∀ i, f i < 256) : ∃ b1 b2 b3 b4 m2 m3 m4 s1 s2 : Nat, b1 = f 1 ∧ b2 = f 2 ∧ b3 = f 3 ∧ b4 = f 4 ∧
    IntKind.u32.wrap (b1 : Int) = (b1 : Int) ∧ IntKind.u32.wrap (b2 : Int) = (b2 : Int) ∧ IntKind.u32.wrap (b3 : Int) = (b3 : Int) ∧ IntKind.u32.wrap (b4 : Int) = (b4 : Int) ∧
    IntKind.u32.wrap ((b2 : Int) * 256) = (m2 : Int) ∧ IntKind.u32.wrap ((b3 : Int) * 65536) = (m3 : Int) ∧ IntKind.u32.wrap ((b4 : Int) * 16777216) = (m4 : Int) ∧
    IntKind.u32.wrap ((b1 : Int) + (m2 : Int)) = (s1 : Int) ∧ IntKind.u32.wrap ((s1 : Int) + (m3 : Int)) = (s2 : Int) ∧ IntKind.u32.wrap ((s2 : Int) + (m4 : Int)) = (Link.num f : Int) := by
  have h1 := hf 1
  have h2 := hf 2
  have h3 := hf 3
  have h4 := hf 4
  refine ⟨f 1, f 2, f 3, f 4, 256 * f 2, 65536 * f 3, 16777216 * f 4, f 1 + 256 * f 2, f 1 + 256 * f 2 + 65536 * f 3, rfl, rfl, rfl, rfl, ?_, ?_, ?_, ?_, ?_, ?_, ?_, ?_, ?_, ?_⟩ <;> rw [u32w] <;> (try unfold Link.num) <;> omega
set_option maxHeartbeats 2000000 in
set_option maxRecDepth 100000 in
theorem ropen_long (n : Nat) (f : Nat → Nat) (w : World) (hf : ∀ i, f i < 256) (h9 : 9 ≤ n) (hn : n ≤ 140737488355337) : Calls Tryd.prog 14 #[.string (strB n f)] w (ROpened w n f) := by
  have hsz := strB_size n f
  obtain ⟨E, hE⟩ : ∃ E, n = E + 4 := ⟨n - 4, by omega⟩
  have e1 : IntKind.i64.wrap ((n : Int) - 4) = (E : Int) := by rw [i64_nat _ (by omega) (by omega)]; omega
  have k1 : ¬ (n : Int) < 9 := by omega
  have x0 : ∀ wx, (Instr.index 9 (.string (strB n f)) (.int .i64 0)).run Tryd.prog wx = .ok (.int .u8 (f 0 : Int)) wx := fun wx => run_idx n f hf 0 (by omega) wx
  have x1 : ∀ wx, (Instr.index 9 (.string (strB n f)) (.int .i64 1)).run Tryd.prog wx = .ok (.int .u8 (f 1 : Int)) wx := fun wx => run_idx n f hf 1 (by omega) wx
  have x2 : ∀ wx, (Instr.index 9 (.string (strB n f)) (.int .i64 2)).run Tryd.prog wx = .ok (.int .u8 (f 2 : Int)) wx := fun wx => run_idx n f hf 2 (by omega) wx
  have x3 : ∀ wx, (Instr.index 9 (.string (strB n f)) (.int .i64 3)).run Tryd.prog wx = .ok (.int .u8 (f 3 : Int)) wx := fun wx => run_idx n f hf 3 (by omega) wx
  have x4 : ∀ wx, (Instr.index 9 (.string (strB n f)) (.int .i64 4)).run Tryd.prog wx = .ok (.int .u8 (f 4 : Int)) wx := fun wx => run_idx n f hf 4 (by omega) wx
  have xs : ∀ wx, (Instr.slice 9 (.string (strB n f)) (some (.int .i64 5)) (some (.int .i64 (E : Int))) none).run Tryd.prog wx = .ok (.string (strB (n - 9) fun j => f (j + 5))) wx := fun wx => by
    have := run_sub n f 5 E (by omega) (by omega) wx
    rw [show E - 5 = n - 9 by omega, strB_congr (f := fun i => f (5 + i)) (g := fun j => f (j + 5)) (fun i _ => by show f (5 + i) = f (i + 5); rw [Nat.add_comm])] at this
    exact this
  obtain ⟨b1, b2, b3, b4, m2, m3, m4, s1, s2, h1, h2, h3, h4, c1, c2, c3, c4, c5, c6, c7, c8, c9, c10⟩ := num_steps f hf
  rw [← h1] at x1
  rw [← h2] at x2
  rw [← h3] at x3
  rw [← h4] at x4
  have HSl := Lib.hid (fun w' => rseal_any (f 0) (Link.num f) (n - 9) (fun j => f (j + 5)) w' (fun i => hf _) (hf 0) (Link.num_lt f hf) (by omega))
  rw [show n - 9 + 9 = n by omega] at HSl
  have HIff := Lib.hid (show strB n (Link.sealB (f 0) (Link.num f) (n - 9) fun j => f (j + 5)) = strB n f ↔ Link.syn f (n - 4) = 0 by
    have hi := Link.seal_iff f (n - 9) hf
    rw [show n - 9 + 9 = n by omega, show n - 9 + 5 = n - 4 by omega] at hi
    rw [← hi]
    exact ⟨fun h => (strB_inj (fun i => Link.sealB_lt _ _ _ _ (hf 0) (fun j => hf _) i) hf h).2, fun h => strB_congr h⟩)
  have Hp0 := Lib.hid (show strB (n - 9) (fun j => f (j + 5)) = ⟨#[]⟩ ↔ n = 9 by
    refine ⟨fun h => ?_, fun h => ?_⟩
    · have := congrArg ByteArray.size h
      rw [strB_size] at this
      have h2 : n - 9 = 0 := this
      omega
    · subst h; rfl)
  have hb0 := hf 0
  obtain ⟨K, hK⟩ : ∃ K, K = f 0 := ⟨_, rfl⟩
  obtain ⟨Nm, hNm⟩ : ∃ K, K = Link.num f := ⟨_, rfl⟩
  obtain ⟨tp, htp⟩ : ∃ K, K = strB (n - 9) fun j => f (j + 5) := ⟨_, rfl⟩
  obtain ⟨t, ht⟩ : ∃ K, K = strB n f := ⟨_, rfl⟩
  obtain ⟨ts, hts⟩ : ∃ K, K = strB n (Link.sealB (f 0) (Link.num f) (n - 9) fun j => f (j + 5)) := ⟨_, rfl⟩
  rw [← hts, ← ht] at HIff
  rw [← htp] at Hp0 xs
  rw [← ht] at x0 x1 x2 x3 x4 xs hsz
  rw [← hNm] at c10
  rw [← hK] at x0
  rw [← hK, ← hNm, ← htp] at HSl
  rw [← hK, ← hNm] at hts
  rw [← ht]
  have HE := Lib.hid (And.intro hK (And.intro hNm (And.intro htp (And.intro h9 hts))))
  clear h1 h2 h3 h4 hE hK hNm htp ht hts
  by_cases hk1 : 1 < K
  · have HF := Lib.hid (show ¬ Link.isF f n from fun h => by have := h.2.1; have := HE.out.1; omega)
    have k2 : (1 : Int) < (K : Int) := by omega
    clear hk1 h9 hn hf hb0 HSl
    go_enter Tryd.func14, Tryd.ntmps14
    go_wp2
    go_quiet (fail)
    go_wp2
    exact bodyPost_ret (results_tmp4 rfl _ _ _) rfl ⟨.inr ⟨HF.out, rfl⟩, drew_below _ _ _⟩
  · by_cases hp : K = 1 ∧ n ≠ 9
    · obtain ⟨rfl, hp⟩ := hp
      have HF := Lib.hid (show ¬ Link.isF f n from fun h => hp (h.2.2.1 HE.out.1.symm))
      have hne : tp.toList.isEmpty = false := notEmpty (fun h => hp (Hp0.out.1 h))
      clear hk1 h9 hn hf hb0 HSl hp
      go_enter Tryd.func14, Tryd.ntmps14
      go_wp2
      go_quiet (fail)
      go_wp2
      exact bodyPost_ret (results_tmp4 rfl _ _ _) rfl ⟨.inr ⟨HF.out, rfl⟩, drew_below _ _ _⟩
    · have HX := Lib.hid (show f 0 = 1 → n = 9 by have := HE.out.1; omega)
      rcases (show K = 0 ∨ K = 1 by omega) with rfl | rfl
      · clear hk1 hp h9 hn hf hb0
        go_enter Tryd.func14, Tryd.ntmps14
        go_wp2
        go_quiet (fail)
        clear x1 x2 x3 x4 c1 c2 c3 c4 c5 c6 c7 c8 c9 c10
        go_wp2_with fail
        refine (HSl.out _).mono ?_
        rintro e w2 ⟨rfl, hb2⟩
        have HB := Lib.hid ((drew_below w w.heap.size _).trans hb2)
        rw [← HE.out.2.2.2.2]
        clear hb2 HSl
        by_cases hs : Link.syn f (n - 4) = 0
        · have ets := HIff.out.2 hs
          have HF := Lib.hid (show Link.isF f n from ⟨HE.out.2.2.2.1, by rw [← HE.out.1]; omega, HX.out, hs⟩)
          rw [ets]
          clear ets hs HIff
          go_wp2
          exact bodyPost_ret (results_tmp4 rfl _ _ _) rfl ⟨.inl ⟨HF.out, by rw [← HE.out.1, ← HE.out.2.1, ← HE.out.2.2.1]; rfl⟩, HB.out⟩
        · have hne := str_ne (fun h => hs (HIff.out.1 h))
          have HF := Lib.hid (show ¬ Link.isF f n from fun h => hs h.2.2.2)
          clear hs HIff
          go_wp2
          exact bodyPost_ret (results_tmp4 rfl _ _ _) rfl ⟨.inr ⟨HF.out, rfl⟩, HB.out⟩
      · have hemp : tp.toList.isEmpty = true := by rw [Hp0.out.2 (HX.out HE.out.1.symm)]; kernel_rfl
        clear hk1 hp h9 hn hf hb0
        go_enter Tryd.func14, Tryd.ntmps14
        go_wp2
        go_quiet (fail)
        clear x1 x2 x3 x4 c1 c2 c3 c4 c5 c6 c7 c8 c9 c10
        go_wp2_with fail
        refine (HSl.out _).mono ?_
        rintro e w2 ⟨rfl, hb2⟩
        have HB := Lib.hid ((drew_below w w.heap.size _).trans hb2)
        rw [← HE.out.2.2.2.2]
        clear hb2 HSl
        by_cases hs : Link.syn f (n - 4) = 0
        · have ets := HIff.out.2 hs
          have HF := Lib.hid (show Link.isF f n from ⟨HE.out.2.2.2.1, by rw [← HE.out.1]; omega, HX.out, hs⟩)
          rw [ets]
          clear ets hs HIff
          go_wp2
          exact bodyPost_ret (results_tmp4 rfl _ _ _) rfl ⟨.inl ⟨HF.out, by rw [← HE.out.1, ← HE.out.2.1, ← HE.out.2.2.1]; rfl⟩, HB.out⟩
        · have hne := str_ne (fun h => hs (HIff.out.1 h))
          have HF := Lib.hid (show ¬ Link.isF f n from fun h => hs h.2.2.2)
          clear hs HIff
          go_wp2
          exact bodyPost_ret (results_tmp4 rfl _ _ _) rfl ⟨.inr ⟨HF.out, rfl⟩, HB.out⟩
/-- The document's Open, of any text. -/
theorem ropen_any (n : Nat) (f : Nat → Nat) (w : World) (hf : ∀ i, f i < 256) (hn : n ≤ 140737488355337) : Calls Tryd.prog 14 #[.string (strB n f)] w (ROpened w n f) := by
  by_cases h9 : n < 9
  · exact ropen_short n f w h9
  · exact ropen_long n f w hf (by omega) hn
end Go.Proofs.YteadpnododjeaaaDoor
