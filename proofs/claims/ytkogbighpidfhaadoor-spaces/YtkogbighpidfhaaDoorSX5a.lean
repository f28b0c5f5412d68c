/- A text's tokens joined again with separators between: what is scanned of it. -/
import Derived.Test.YtkogbighpidfhaaDoorSX4
namespace Go.Proofs.YtkogbighpidfhaaDoor
open Go.RowKit
open Lx

/-- The text of token number i, the end's too. -/
def tX (s : ByteArray) (ts : List Tk) (i : Nat) : ByteArray := s.extract (ts.getD i (tkEnd s)).2.1 ((ts.getD i (tkEnd s)).2.1 + (ts.getD i (tkEnd s)).2.2.1)
/-- So many tokens' texts, each with its separator behind it. -/
def tJ (s : ByteArray) (ts : List Tk) (W : Nat → ByteArray) : Nat → ByteArray
  | 0 => ⟨#[]⟩
  | k + 1 => tJ s ts W k ++ (tX s ts k ++ W k)
theorem tk_end (s : ByteArray) (ts : List Tk) (i : Nat) (hi : ts.length ≤ i) : ts.getD i (tkEnd s) = tkEnd s := by
  rw [List.getD_eq_getElem?_getD, List.getElem?_eq_none hi]
  rfl
theorem tk_le {s : ByteArray} {ts : List Tk} (h : Toks (bts s) 0 ts) (i : Nat) : (ts.getD i (tkEnd s)).2.1 + (ts.getD i (tkEnd s)).2.2.1 ≤ s.size := by
  by_cases hi : i < ts.length
  · obtain ⟨t, ht, _, hle⟩ := tk_in h i hi
    rw [ht]
    exact hle
  · rw [tk_end s ts i (by omega)]
    exact Nat.le_refl _
theorem tX_size {s : ByteArray} {ts : List Tk} (h : Toks (bts s) 0 ts) (i : Nat) : (tX s ts i).size = (ts.getD i (tkEnd s)).2.2.1 := by
  have := tk_le h i
  unfold tX
  rw [ByteArray.size_extract]
  omega
theorem tX_le {s : ByteArray} {ts : List Tk} (h : Toks (bts s) 0 ts) (i : Nat) : (tX s ts i).size ≤ s.size := by
  rw [tX_size h]
  have := tk_le h i
  omega
theorem tJ_size {s : ByteArray} {ts : List Tk} (h : Toks (bts s) 0 ts) (hs : s.size ≤ 2000) (W : Nat → ByteArray) (hW : ∀ i, (W i).size ≤ 8) : ∀ k, (tJ s ts W k).size ≤ k * 3000
  | 0 => Nat.le_refl _
  | k + 1 => by
    have h1 := tJ_size h hs W hW k
    have h2 := tX_le h k
    have h3 := hW k
    show (tJ s ts W k ++ (tX s ts k ++ W k)).size ≤ _
    rw [ByteArray.size_append, ByteArray.size_append]
    omega
/-- The pieces. -/
def tPs (s : ByteArray) (ts : List Tk) (W : Nat → ByteArray) (k : Nat) : List (Nat × List Nat × Nat × List Nat) :=
  (List.range k).map fun i => ((ts.getD i (tkEnd s)).1, bts (tX s ts i), (ts.getD i (tkEnd s)).2.2.2, bts (W i))
theorem tPs_cat (s : ByteArray) (ts : List Tk) (W : Nat → ByteArray) : ∀ k, cat (tPs s ts W k) = bts (tJ s ts W k)
  | 0 => rfl
  | k + 1 => by
    have ih := tPs_cat s ts W k
    unfold tPs at ih ⊢
    rw [List.range_succ, List.map_append, List.map_singleton, cat_push, ih]
    show _ = bts (tJ s ts W k ++ (tX s ts k ++ W k))
    rw [bts_append, bts_append]
theorem tPs_len (s : ByteArray) (ts : List Tk) (W : Nat → ByteArray) (k : Nat) : (tPs s ts W k).length = k := by simp [tPs]
theorem tPs_get (s : ByteArray) (ts : List Tk) (W : Nat → ByteArray) (k i : Nat) (hi : i < (tPs s ts W k).length) : (tPs s ts W k)[i] = ((ts.getD i (tkEnd s)).1, bts (tX s ts i), (ts.getD i (tkEnd s)).2.2.2, bts (W i)) := by
  simp [tPs]
theorem tX_good {s : ByteArray} {ts : List Tk} (h : Toks (bts s) 0 ts) (i : Nat) (hi : i < ts.length) : GoodTok (ts.getD i (tkEnd s)).1 (bts (tX s ts i)) (ts.getD i (tkEnd s)).2.2.2 := by
  obtain ⟨t, ht, hm, _⟩ := tk_in h i hi
  have := (h.good (bts s) (by rw [List.drop_zero]) t hm).1
  unfold tX
  rw [ht, bts_extract, Nat.add_sub_cancel_left]
  exact this
/-- What is scanned of the joined text. -/
theorem join_res {s : ByteArray} {ts : List Tk} (h : Toks (bts s) 0 ts) (hn : ts.length ≤ 512) (W : Nat → ByteArray) (hW : ∀ i, Sep (bts (W i))) (J : ByteArray) (hJ : tJ s ts W (ts.length + 1) = J) (hz : J.size ≤ 4096) :
    ∃ us, res J = .ok us ∧ us.length = ts.length ∧ Toks (bts J) 0 us ∧ ∀ i, i < ts.length + 1 → (us.getD i (tkEnd J)).1 = (ts.getD i (tkEnd s)).1 ∧ (us.getD i (tkEnd J)).2.2.2 = (ts.getD i (tkEnd s)).2.2.2 ∧ tX J us i = tX s ts i := by
  have hb : bts J = cat (tPs s ts W ts.length) ++ bts (W ts.length) := by
    rw [tPs_cat, ← hJ]
    show bts (tJ s ts W ts.length ++ (tX s ts ts.length ++ W ts.length)) = _
    have : tX s ts ts.length = ⟨#[]⟩ := by
      unfold tX
      rw [end_new]
      exact ext_none s s.size
    rw [this, bts_append, bts_append]
    rfl
  have hg : ∀ p ∈ tPs s ts W ts.length, GoodTok p.1 p.2.1 p.2.2.1 ∧ Sep p.2.2.2 := by
    intro p hp
    obtain ⟨i, hi, rfl⟩ := List.mem_map.1 hp
    exact ⟨tX_good h i (List.mem_range.1 hi), hW i⟩
  have ht := toks_cat (bts (W ts.length)) (fun a => (hW ts.length).tail a) (tPs s ts W ts.length) 0 hg
  rw [← hb] at ht
  have hlen : (place 0 (tPs s ts W ts.length)).length = ts.length := by rw [place_length, tPs_len]
  refine ⟨_, ?_, hlen, ht, ?_⟩
  · unfold res
    rw [if_neg (by omega)]
    exact toks_of ht 0 (by rw [hlen]; omega)
  · intro i hi
    by_cases hlt : i < ts.length
    · have hi1 : i < (tPs s ts W ts.length).length := by rw [tPs_len]; exact hlt
      have hi2 : i < (place 0 (tPs s ts W ts.length)).length := by rw [hlen]; exact hlt
      obtain ⟨p1, p2, p3, p4⟩ := place_at (tPs s ts W ts.length) 0 (bts J) (bts (W ts.length)) (by rw [List.drop_zero]; exact hb) i hi1 hi2
      have hgd : (place 0 (tPs s ts W ts.length)).getD i (tkEnd J) = (place 0 (tPs s ts W ts.length))[i] := by
        rw [List.getD_eq_getElem?_getD, List.getElem?_eq_getElem hi2]
        rfl
      rw [tPs_get s ts W ts.length i hi1] at p1 p3 p4
      unfold tX
      rw [hgd]
      refine ⟨p1, p3, bts_inj ?_⟩
      rw [bts_extract, Nat.add_sub_cancel_left, p4]
      rfl
    · have e : i = ts.length := by omega
      subst e
      have h1 := tk_end J (place 0 (tPs s ts W ts.length)) ts.length (by rw [hlen]; exact Nat.le_refl _)
      unfold tX
      rw [h1, end_new]
      exact ⟨rfl, rfl, (ext_none J J.size).trans (ext_none s s.size).symm⟩
/-- A token's cells, by its parts. -/
theorem tk_cells (s : ByteArray) (ts : List Tk) (i : Nat) : tkF s ts (i * 4) = .int .i64 ((ts.getD i (tkEnd s)).1 : Int) ∧ tkF s ts (i * 4 + 1) = .string (tX s ts i) ∧ tkF s ts (i * 4 + 2) = .int .u64 ((ts.getD i (tkEnd s)).2.2.2 : Int) ∧ tkF s ts (i * 4 + 3) = .int .i64 ((ts.getD i (tkEnd s)).2.1 : Int) :=
  ⟨tkF_at0 s ts i, tkF_at s ts i 1 (by omega), tkF_at s ts i 2 (by omega), tkF_at s ts i 3 (by omega)⟩
end Go.Proofs.YtkogbighpidfhaaDoor
