/- Contract of the document's TakeNumber. -/
import Derived.Test.YtoeohodajoibjaaDoorWT2
import Derived.MapKept
import Derived.Laws.StructEq
namespace Go.Proofs.YtoeohodajoibjaaDoor
open Go.RowKit

theorem str_ne {a b : ByteArray} (h : a ≠ b) : (a.toList == b.toList) = false := by
  rw [← beq_toListBytes]
  cases hb : a == b with
  | false => rfl
  | true => exact absurd ((MapKept.bytes_beq a b).1 hb) h
theorem str_eq (a : ByteArray) : (a.toList == a.toList) = true := by simp
/-- What is summed behind k rounds from the place s down. -/
def hv (f : Nat → Nat) (s : Nat) : Nat → Nat
  | 0 => 0
  | k + 1 => hv f s k * 128 + f (s - k) % 128
theorem hv_val (f : Nat → Nat) (s : Nat) : ∀ k, k ≤ s + 1 → Wire.val f (s + 1) = Wire.val f (s + 1 - k) + hv f s k * 128 ^ (s + 1 - k)
  | 0, _ => by simp [hv]
  | k + 1, h => by
    rw [hv_val f s k (by omega)]
    obtain ⟨d, hd⟩ : ∃ d, s + 1 - k = d + 1 := ⟨s - k, by omega⟩
    rw [hd, show s + 1 - (k + 1) = d by omega]
    show Wire.val f d + f d % 128 * 128 ^ d + hv f s k * 128 ^ (d + 1) = Wire.val f d + (hv f s k * 128 + f (s - k) % 128) * 128 ^ d
    rw [show s - k = d by omega, Nat.add_mul, Nat.pow_succ, Nat.mul_comm (128 ^ d) 128, ← Nat.mul_assoc]
    omega
theorem hv_full (f : Nat → Nat) (s : Nat) : hv f s (s + 1) = Wire.val f (s + 1) := by
  have := hv_val f s (s + 1) (Nat.le_refl _)
  rw [Nat.sub_self] at this
  simp [Wire.val] at this
  exact this.symm
theorem hv_lt (f : Nat → Nat) (s : Nat) : ∀ k, hv f s k < 128 ^ k
  | 0 => by simp [hv]
  | k + 1 => by
    have := hv_lt f s k
    have h2 : f (s - k) % 128 < 128 := Nat.mod_lt _ (by omega)
    rw [Nat.pow_succ]
    show hv f s k * 128 + f (s - k) % 128 < _
    omega
/-- The number's own bytes are those at the front just where they are as few as may be. -/
theorem tak_str (f : Nat → Nat) (hf : ∀ i, f i < 256) (i : Nat) (hm : ∀ j, j < i → 128 ≤ f j) (hl : f i < 128) : strB (Wire.nlen (Wire.val f (i + 1))) (Wire.nat7 (Wire.val f (i + 1))) = strB (i + 1) f ↔ (i = 0 ∨ f i ≠ 0) := by
  constructor
  · intro h
    have h1 := (strB_inj (Wire.nat7_lt _) hf h).1
    apply Classical.byContradiction
    intro hn
    exact Wire.nlen_zero f i (by omega) (by omega) h1
  · intro h
    obtain ⟨h1, h2⟩ := Wire.nat7_of f hf i hm hl h
    rw [h1]
    exact strB_congr h2
set_option maxHeartbeats 2000000 in
set_option maxRecDepth 100000 in
theorem rtake_any (A : Option Addr) (L c : Nat) (f : Nat → Nat) (w : World) (hA : AtBO w A L f) (hLc : L ≤ c) (hL : L ≤ maxLen) (hf : ∀ i, f i < 256) :
    Calls Tryd.prog 15 #[.slice A L c] w fun e w' => e = .returned (pr (Wire.tak f L)) ∧ Below w.heap.size w w' := by
  have HM := Lib.hid (show (L : Int) < 9223372036854775808 by unfold maxLen at hL; omega)
  have HA := Lib.hid (And.intro hA (And.intro hf hLc))
  clear hA hf hL hLc
  go_enter Tryd.func15, Tryd.ntmps15
  go_wp2
  go_loopw [4] (fun p wr => ∃ i : Nat, p = .int .i64 i ∧ Hid (i ≤ min L 5) ∧ Hid (∀ j, j < i → 128 ≤ f j) ∧ Hid (w = wr)) (fun p _ => 5 - (intOf p).toNat)
  case atStart => exact ⟨0, rfl, Nat.zero_le _, fun j hj => by omega, rfl⟩
  case round =>
    obtain ⟨i, rfl, HI, HJ, HW⟩ := hrel
    obtain rfl := HW.out
    by_cases hiL : i < L
    · have hiL1 : (i : Int) < (L : Int) := by omega
      have HiL := Lib.hid hiL
      clear hiL
      by_cases hi5 : i < 5
      · have hi51 : (i : Int) < 5 := by omega
        obtain ⟨ad, rfl, hc⟩ := HA.out.1 i HiL.out
        have hfi := HA.out.2.1 i
        by_cases hb : f i < 128
        · have hb1 : ¬ (128 : Int) ≤ (f i : Int) := by omega
          have n1 : ((i : Int) == (L : Int)) = false := beq_false_of_ne (by omega)
          have n2 : ((i : Int) == 5) = false := beq_false_of_ne (by omega)
          go_wp2
          clear hc hb1 n1 n2 hfi hiL1 hi51
          have HI5 := Lib.hid (And.intro hi5 hb)
          clear hi5 hb
          go_loopw [5, 6] (fun a p wr => ∃ k V : Nat, ∃ z : Int, a = .int .i64 V ∧ p = .int .i64 z ∧ Hid (k ≤ i + 1 ∧ z = (i : Int) - (k : Int) ∧ V = hv f i k) ∧ Hid (w = wr)) (fun _ p _ => (intOf p + 1).toNat)
          case atStart => exact ⟨0, 0, i, rfl, rfl, ⟨by omega, by omega, rfl⟩, rfl⟩
          case round =>
            obtain ⟨k, V, z, rfl, rfl, HK, HW2⟩ := hrel
            obtain rfl := HW2.out
            by_cases hk : k ≤ i
            · obtain ⟨q, hq⟩ : ∃ q : Nat, q = i - k := ⟨_, rfl⟩
              obtain ⟨hk1, hz, hV⟩ := HK.out
              obtain rfl : z = (q : Int) := by omega
              have h5 := HI5.out.1
              obtain ⟨ad2, e2, hc⟩ := HA.out.1 q (by have := HiL.out; omega)
              obtain rfl := Option.some.inj e2
              have hqL : (q : Int) < (L : Int) := by have := HiL.out; omega
              have hbd := hv_lt f i k
              have hbd2 := hv_lt f i (k + 1)
              have hp : 128 ^ (k + 1) ≤ 128 ^ 5 := Nat.pow_le_pow_right (by omega) (by omega)
              obtain ⟨x, hx⟩ : ∃ x, x = f q % 128 := ⟨_, rfl⟩
              have hs : hv f i (k + 1) = V * 128 + x := by rw [hV, hx, hq]; rfl
              obtain ⟨y, hy⟩ : ∃ y, y = V * 128 := ⟨_, rfl⟩
              obtain ⟨V2, hV2⟩ : ∃ z, z = y + x := ⟨_, rfl⟩
              have e1 : IntKind.i64.wrap ((V : Int) * 128) = (y : Int) := by rw [i64_nat _ (by omega) (by omega)]; omega
              have e2 : (f q : Int) % 128 = (x : Int) := by omega
              have e3 : IntKind.i64.wrap (x : Int) = (x : Int) := i64_nat _ (by omega) (by omega)
              have e4 : IntKind.i64.wrap ((y : Int) + (x : Int)) = (V2 : Int) := by rw [i64_nat _ (by omega) (by omega)]; omega
              have e5 : IntKind.i64.wrap ((q : Int) - 1) = (q : Int) - 1 := by simp [IntKind.wrap, IntKind.bits, IntKind.signed]; omega
              have HN := Lib.hid (show k + 1 ≤ i + 1 ∧ (q : Int) - 1 = (i : Int) - ((k + 1 : Nat) : Int) ∧ V2 = hv f i (k + 1) from ⟨by omega, by omega, by omega⟩)
              clear hk hq hk1 hz hV h5 hbd hbd2 hp hs hy hV2 hx
              go_wp2
              go_roundw
              case rel => exact ⟨k + 1, V2, _, rfl, rfl, HN, Lib.hid trivial⟩
              case measure => simp [intOf]
            · obtain ⟨hk1, hz, hV⟩ := HK.out
              obtain rfl : k = i + 1 := by omega
              obtain rfl : z = -1 := by omega
              rw [hv_full] at hV
              have HV := Lib.hid hV
              clear hk hk1 hz hV HK
              have e8 : IntKind.i64.wrap ((i : Int) + 1) = (i : Int) + 1 := i64_nat _ (by have := HI5.out.1; omega) (by have := HI5.out.1; omega)
              have HLI := Lib.hid (show i < min L 5 by have := HI5.out.1; have := HiL.out; omega)
              by_cases hbig : 4294967295 < V
              · have hbig1 : decide ((4294967295 : Int) < (V : Int)) = true := decide_eq_true (by omega)
                have HT := Lib.hid (Wire.tak_bad f L i HLI.out HJ.out HI5.out.2 (.inl (by rw [← HV.out]; exact hbig)))
                clear hbig
                go_wp2
                go_quiet (fail)
                go_wp2
                go_ret2
                exact ⟨by rw [HT.out]; rfl, ⟨rfl, rfl, rfl, Nat.le_refl _, fun _ _ => rfl⟩⟩
              · have hbig1 : decide ((4294967295 : Int) < (V : Int)) = false := decide_eq_false (by omega)
                have HBig := Lib.hid (show V ≤ 4294967295 by omega)
                clear hbig
                have HAB := Lib.hid (show AtB w ad (i + 1) f from fun j hj => by
                  obtain ⟨ad', e, hc⟩ := HA.out.1 j (by have := HiL.out; omega)
                  cases e
                  exact hc)
                go_wp2
                refine wp_region_held_drew (S := fun w' => Below w.heap.size w w') (by kernel_rfl) ((Below.refl _ _).drew) (fun hHeld => ?_)
                have HC := Lib.hid (show i + 1 ≤ c by have := HA.out.2.2; have := HiL.out; omega)
                refine wpAnyH_take (i := 0) (v := .int .i64 (V : Int)) rfl (by kernel_rfl) (by kernel_rfl) (by kernel_rfl) (fun _ _ _ h => h) (.inl ⟨rfl, fun w' hw' => by go_simp⟩) hHeld ?_
                refine wpAnyH_take (i := 1) (v := .bool false) rfl (by kernel_rfl) (by kernel_rfl) (by kernel_rfl) (fun _ _ _ h => h) (.inl ⟨rfl, fun w' hw' => by go_simp⟩) hHeld ?_
                simp only [List.getElem_toArray, List.getElem_cons_succ, List.getElem_cons_zero, Act.put, List.setIfInBounds_toArray, List.set_cons_zero, List.set_cons_succ]
                refine wpAnyH_take (i := 2) (v := .bool false) rfl (by kernel_rfl) (by kernel_rfl) (by kernel_rfl) (fun _ _ _ h => h) (.inl ⟨rfl, fun w' hw' => by go_simp⟩) hHeld ?_
                refine wpAnyH_take (i := 3) (v := .int .i64 (V : Int)) rfl (by kernel_rfl) (by kernel_rfl) (by kernel_rfl) (fun _ _ _ h => h) (.inl ⟨rfl, fun w' hw' => by go_simp⟩) hHeld ?_
                simp only [List.getElem_toArray, List.getElem_cons_succ, List.getElem_cons_zero, Act.put, List.setIfInBounds_toArray, List.set_cons_zero, List.set_cons_succ]
                refine wpAnyH_take (i := 6) (v := .slice (some ad) L c) rfl (by kernel_rfl) (by kernel_rfl) (by kernel_rfl) (fun _ _ _ h => h) (.inl ⟨rfl, fun w' hw' => by go_simp⟩) hHeld ?_
                refine wpAnyH_take (i := 7) (v := .int .i64 (i : Int)) rfl (by kernel_rfl) (by kernel_rfl) (by kernel_rfl) (fun _ _ _ h => h) (.inl ⟨rfl, fun w' hw' => by go_simp⟩) hHeld ?_
                simp only [List.getElem_toArray, List.getElem_cons_succ, List.getElem_cons_zero, Act.put, List.setIfInBounds_toArray, List.set_cons_zero, List.set_cons_succ]
                refine wpAnyH_take (i := 8) (v := .int .i64 ((i : Int) + 1)) rfl (by kernel_rfl) (by kernel_rfl) (by kernel_rfl) (fun _ _ _ h => h) (.inl ⟨rfl, fun w' hw' => by go_simp⟩) hHeld ?_
                refine wpAnyH_take (i := 9) (v := .slice (some ad) (i + 1) c) rfl (by kernel_rfl) (by kernel_rfl) (by kernel_rfl) (fun _ _ _ h => h) (.inl ⟨rfl, fun w' hw' => by
                  have hs : (Instr.slice 22 (.slice (some ad) L c) none (some (.int .i64 ((i : Int) + 1))) none).run Tryd.prog w' = .ok (.slice (some ad) (i + 1) c) w' := run_headB w' (some ad) L c (i + 1) HC.out
                  go_simp⟩) hHeld ?_
                simp only [List.getElem_toArray, List.getElem_cons_succ, List.getElem_cons_zero, Act.put, List.setIfInBounds_toArray, List.set_cons_zero, List.set_cons_succ]
                refine wpAnyH_take (i := 10) (v := .string (strB (i + 1) f)) rfl (by kernel_rfl) (by kernel_rfl) (by kernel_rfl) (fun _ _ _ h => h) (.inl ⟨rfl, fun w' hw' => by have := conv_B w' ad (i + 1) c f (AtB.below HAB.out hw') HA.out.2.1; go_simp⟩) hHeld ?_
                simp only [List.getElem_toArray, List.getElem_cons_succ, List.getElem_cons_zero, Act.put, List.setIfInBounds_toArray, List.set_cons_zero, List.set_cons_succ]
                refine wpAnyH_ready (rs := [4]) (by kernel_rfl) (by simp) ?_
                refine AllReadyH.cons rfl (fun K hK => ?_) AllReadyH.nil
                rw [if_pos (by rfl)]
                go_simp
                refine (rnumber_any V _ HBig.out).mono ?_
                rintro e w5 ⟨g, k5, rfl, hO, hb5⟩
                have hS5 : Below w.heap.size w w5 := hHeld.trans (hb5.mono hHeld.size)
                refine hK.out _ _ hS5 (fun hHeld2 => ?_)
                clear hK K hHeld hb5 hS5
                have hcv := conv_B w5 ⟨g, 0, none⟩ (Wire.nlen V) k5 (Wire.nat7 V) hO.lt.2.2.2.2 (Wire.nat7_lt V)
                have HTS := Lib.hid (tak_str f HA.out.2.1 i HJ.out HI5.out.2)
                rw [← HV.out] at HTS
                clear hO
                generalize strB (Wire.nlen V) (Wire.nat7 V) = s1 at hcv HTS
                generalize strB (i + 1) f = s2 at HTS ⊢
                refine wpAnyH_ready (rs := [5]) (by kernel_rfl) (by simp) ?_
                refine AllReadyH.cons rfl (fun K hK => ?_) AllReadyH.nil
                rw [if_pos (by rfl)]
                go_simp
                refine hK.out _ _ hHeld2 (fun hHeld3 => ?_)
                clear hK K hHeld2 hcv
                by_cases hcase : i = 0 ∨ f i ≠ 0
                · obtain rfl : s1 = s2 := HTS.out.2 hcase
                  have HT := Lib.hid (Wire.tak_some f L i HLI.out HJ.out HI5.out.2 (by rw [← HV.out]; exact HBig.out) hcase)
                  rw [← HV.out] at HT
                  clear hcase HTS
                  refine wpAnyH_take (i := 11) (v := .bool false) rfl (by kernel_rfl) (by kernel_rfl) (by kernel_rfl) (fun _ _ _ h => h) (.inl ⟨rfl, fun w' hw' => by go_simp⟩) hHeld3 ?_
                  refine wpAnyH_take (i := 12) (v := .bool false) rfl (by kernel_rfl) (by kernel_rfl) (by kernel_rfl) (fun _ _ _ h => h) (.inl ⟨rfl, fun w' hw' => by rfl⟩) hHeld3 ?_
                  refine wpAnyH_done (by kernel_rfl) ?_ _
                  simp only [List.getElem_toArray, List.getElem_cons_succ, List.getElem_cons_zero, Act.put, List.setIfInBounds_toArray, List.set_cons_zero, List.set_cons_succ]
                  have HH3 := Lib.hid hHeld3
                  clear hHeld3
                  go_wp2
                  go_ret2
                  exact ⟨by rw [HT.out]; rfl, HH3.out⟩
                · have hne := str_ne (fun h => hcase (HTS.out.1 h))
                  have HT := Lib.hid (Wire.tak_bad f L i HLI.out HJ.out HI5.out.2 (.inr (by omega)))
                  clear hcase HTS
                  refine wpAnyH_take (i := 11) (v := .bool true) rfl (by kernel_rfl) (by kernel_rfl) (by kernel_rfl) (fun _ _ _ h => h) (.inl ⟨rfl, fun w' hw' => by go_simp⟩) hHeld3 ?_
                  refine wpAnyH_take (i := 12) (v := .bool true) rfl (by kernel_rfl) (by kernel_rfl) (by kernel_rfl) (fun _ _ _ h => h) (.inl ⟨rfl, fun w' hw' => by rfl⟩) hHeld3 ?_
                  refine wpAnyH_done (by kernel_rfl) ?_ _
                  simp only [List.getElem_toArray, List.getElem_cons_succ, List.getElem_cons_zero, Act.put, List.setIfInBounds_toArray, List.set_cons_zero, List.set_cons_succ]
                  have HH3 := Lib.hid hHeld3
                  clear hHeld3 hne
                  go_wp2
                  go_ret2
                  exact ⟨by rw [HT.out]; rfl, HH3.out⟩
        · have hb1 : (128 : Int) ≤ (f i : Int) := by omega
          have e7 : IntKind.i64.wrap ((i : Int) + 1) = (i : Int) + 1 := i64_nat _ (by omega) (by omega)
          have HN := Lib.hid (show i + 1 ≤ min L 5 by have := HiL.out; omega)
          have HJ2 := Lib.hid (show ∀ j, j < i + 1 → 128 ≤ f j from fun j hj => by
            by_cases e : j = i
            · subst e; omega
            · exact HJ.out j (by omega))
          clear hb
          go_wp2
          go_roundw
          case rel => exact ⟨i + 1, by go_num, HN, HJ2, Lib.hid trivial⟩
          case measure => simp [intOf]; omega
      · have e5 : i = 5 := by have := HI.out; omega
        have n0 : decide ((i : Int) < 5) = false := decide_eq_false (by omega)
        have n0' : decide (i < 5) = false := decide_eq_false (by omega)
        have n1 : ((i : Int) == (L : Int)) = false := beq_false_of_ne (by omega)
        have n2 : ((i : Int) == 5) = true := by rw [e5]; rfl
        have HT := Lib.hid (Wire.tak_none f L (fun j hj => HJ.out j (by omega)))
        clear e5 hi5
        go_wp2
        go_ret2
        exact ⟨by rw [HT.out]; rfl, Below.refl _ _⟩
    · obtain rfl : i = L := by have := HI.out; omega
      have HT := Lib.hid (Wire.tak_none f i (fun j hj => HJ.out j (by omega)))
      go_wp2
      go_ret2
      exact ⟨by rw [HT.out]; rfl, Below.refl _ _⟩
end Go.Proofs.YtoeohodajoibjaaDoor
