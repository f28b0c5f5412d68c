/- Contract of strconv.ParseUint at digits; of lex's frontNumber. -/
import Derived.Test.YtkogbighpidfhaaDoorSS8
import Derived.Lib.ParseIntBCases
namespace Go.Proofs.YtkogbighpidfhaaDoor
open Go.RowKit
open Lx

theorem pd_step0 (M : Nat) (hM : M = 18446744073709551616) (c : UInt8) (r : List UInt8) (acc : Nat) : Lib.parseUint10 acc (c :: r) = if 48 ≤ c.toNat ∧ c.toNat ≤ 57 then (if 1844674407370955162 ≤ acc then .range else if M ≤ acc * 10 + (c.toNat - 48) then .range else Lib.parseUint10 (acc * 10 + (c.toNat - 48)) r) else .syntax := by subst hM; kernel_rfl
/-- Digits spell a value below the bound, or go beyond it. -/
def Spl (M acc : Nat) (l : List UInt8) : Prop := (val acc (l.map UInt8.toNat) < M → Lib.parseUint10 acc l = .ok (val acc (l.map UInt8.toNat))) ∧ (M ≤ val acc (l.map UInt8.toNat) → Lib.parseUint10 acc l = .range)
theorem spl_nil (M acc : Nat) (ha : acc < M) : Spl M acc [] := ⟨fun _ => rfl, fun h => absurd (show M ≤ acc from h) (Nat.not_le.2 ha)⟩
theorem spl_over (M acc : Nat) (l : List UInt8) (h : M ≤ val acc (l.map UInt8.toNat)) (h2 : Lib.parseUint10 acc l = .range) : Spl M acc l := ⟨fun h3 => absurd h3 (Nat.not_lt.2 h), fun _ => h2⟩
theorem spl_go (M acc acc' : Nat) (l l' : List UInt8) (h : Lib.parseUint10 acc l = Lib.parseUint10 acc' l') (h2 : val acc (l.map UInt8.toNat) = val acc' (l'.map UInt8.toNat)) (h3 : Spl M acc' l') : Spl M acc l := by
  unfold Spl at h3 ⊢
  rw [h, h2]
  exact h3
theorem parse_digits (M : Nat) (hM : M = 18446744073709551616) (l : List UInt8) : ∀ (acc : Nat), acc < M → (∀ c ∈ l, digit c.toNat = true) → Spl M acc l := by
  induction l with
  | nil => exact fun acc ha _ => spl_nil M acc ha
  | cons c r ih =>
    intro acc ha hd
    have hc := (digit_iff _).1 (hd c List.mem_cons_self)
    have e := (pd_step0 M hM c r acc).trans (if_pos hc)
    by_cases h1 : 1844674407370955162 ≤ acc
    · exact spl_over M acc _ (Nat.le_trans (show M ≤ acc * 10 + (c.toNat - 48) by omega) (val_ge _ _)) (e.trans (if_pos h1))
    · by_cases h2 : M ≤ acc * 10 + (c.toNat - 48)
      · exact spl_over M acc _ (Nat.le_trans h2 (val_ge _ _)) ((e.trans (if_neg h1)).trans (if_pos h2))
      · exact spl_go M acc _ _ r ((e.trans (if_neg h1)).trans (if_neg h2)) rfl (ih _ (Nat.not_le.1 h2) (fun d hm => hd d (List.mem_cons_of_mem _ hm)))
/-- The variable strconv.ErrRange holds an error, or none. -/
def ErrR (w : World) : Prop := ∃ ev, w.cell? ⟨2, 0, none⟩ = some ev ∧ (ev = .nilIface ∨ ∃ te pe, ev = .iface te pe)
theorem ErrR.below {w w' : World} {B : Nat} (h : ErrR w) (hb : Below B w w') (hB : 2 < B) : ErrR w' := by
  obtain ⟨ev, h1, h2⟩ := h
  exact ⟨ev, (hb.cell (p := ⟨2, 0, none⟩) hB).trans h1, h2⟩
theorem ErrR.lt {w : World} (h : ErrR w) : 2 < w.heap.size := by
  obtain ⟨ev, h1, _⟩ := h
  exact World.block_lt_of_cell? w ⟨2, 0, none⟩ h1
/-- ParseUint of digits: the number; or an error that isn't nil. -/
theorem parse_any (s : ByteArray) (w : World) (hne : s.size ≠ 0) (hd : ∀ c ∈ bts s, digit c = true) (hs : s.size ≤ 1000000) (hE : ErrR w) :
    (val 0 (bts s) < 18446744073709551616 → Calls Tryd.prog 40 #[.string s, .int .i64 10, .int .i64 64] w fun e w' => e = .returned (.tuple #[.int .u64 (val 0 (bts s) : Int), .nilIface]) ∧ Below w.heap.size w w') ∧
    (¬ val 0 (bts s) < 18446744073709551616 → Calls Tryd.prog 40 #[.string s, .int .i64 10, .int .i64 64] w fun e w' => (∃ x te pe, e = .returned (.tuple #[.int .u64 x, .iface te pe])) ∧ Below w.heap.size w w') := by
  obtain ⟨M, hM⟩ : ∃ M, M = 18446744073709551616 := ⟨_, rfl⟩
  have hp := parse_digits M hM s.data.toList 0 (by omega) (fun c hc => hd _ (List.mem_map.2 ⟨c, hc, rfl⟩))
  have hq : Lib.parseUintB 64 s.data.toList = Lib.parseUint10 0 s.data.toList := by
    rw [Lib.parseUintB_64]
    unfold Lib.parseMag
    rw [if_neg (by intro h; apply hne; rw [Lib.size_eq, h]; rfl)]
  unfold Spl at hp
  rw [← hq] at hp
  constructor
  · intro hv
    have := Any.strconv_ParseUint_10_at64_ok puL s (by omega) _ (hp.1 (by rw [hM]; exact hv)) w
    refine Calls.mono (show Calls Tryd.prog 40 _ w _ from this) fun e w' h => ⟨h.1, ?_⟩
    rcases h.2 with rfl | rfl
    · exact Below.refl _ _
    · exact Lib.bytesWorld_below _ _ _
  · intro hv
    obtain ⟨ev, h1, h2⟩ := hE
    have := Any.strconv_ParseUint_10_at64_range puL s (by omega) (hp.2 (by rw [hM]; exact Nat.not_lt.1 hv)) ev w h1 h2
    refine Calls.mono (show Calls Tryd.prog 40 _ w _ from this) fun e w' h => ?_
    obtain ⟨N, e1, _, _, hb⟩ := h
    exact ⟨⟨_, _, _, e1⟩, hb⟩
theorem run_name_digits (l : List Nat) : run namec l = run digit l + run namec (l.drop (run digit l)) :=
  run_drop_step namec l _ (by
    induction l with
    | nil => exact Nat.le_refl _
    | cons c l ih =>
      simp only [run]
      split
      · rename_i hc
        rw [if_pos (namec_digit hc)]
        omega
      · exact Nat.zero_le _)
theorem low_name {c : Nat} (h : digit c = false) : namec c = low c := by unfold namec low; rw [h, Bool.or_false]
/-- Behind a number's digits stands what may stand in a name, just if it may not stand there. -/
theorem behind_digits (l : List Nat) : run digit l < run namec l ↔ lowAt (l.drop (run digit l)) = true := by
  rw [run_name_digits l]
  by_cases h : run digit l < l.length
  · have he := run_end digit l h
    rw [List.drop_eq_getElem_cons h]
    simp only [run, lowAt]
    rw [low_name he]
    split
    · rename_i hl
      exact ⟨fun _ => hl, fun _ => by omega⟩
    · rename_i hl
      exact ⟨fun h => by omega, fun h => absurd h hl⟩
  · rw [List.drop_eq_nil_of_le (by omega)]
    simp [run, lowAt]
/-- What frontNumber takes. -/
def NumOk (c n : Nat) (l : List Nat) : Prop := val 0 (l.take n) < 18446744073709551616 ∧ (n = 1 ∨ c ≠ 48) ∧ lowAt (l.drop n) = false
instance (c n : Nat) (l : List Nat) : Decidable (NumOk c n l) := by unfold NumOk; infer_instance
end Go.Proofs.YtkogbighpidfhaaDoor
