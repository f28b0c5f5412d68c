/- What LexEnds' walk leans on: a list that Scan tells, by its cells; a text with a line more; the law's four words. -/
import Derived.Test.YtkogbighpidfhaaDoorSX3
namespace Go.Proofs.YtkogbighpidfhaaDoor
open Go.RowKit
open Lx

/-- A good text's list. -/
def ScOk (s : ByteArray) (ts : List Tk) (w : World) (e : Ending) (w' : World) : Prop :=
  ∃ ad c, ts.length + 1 ≤ c ∧ e = .returned (.tuple #[.slice (some ad) (ts.length + 1) c, .nilIface]) ∧ AtV w' (some ad) ((ts.length + 1) * 4) (tkF s ts) ∧ Below w.heap.size w w'
theorem scan_ok (s : ByteArray) (ts : List Tk) (w : World) (hs : s.size ≤ 1000000) (hr : res s = .ok ts) (hE : ErrR w) (hH : Handle w) :
    Calls Tryd.prog 9 #[.string s] w (ScOk s ts w) :=
  (scan_any s w hs hE hH).mono fun e w' h => by
    unfold ScAns at h
    rw [hr] at h
    obtain ⟨⟨g, c, rfl, _, hR⟩, hb⟩ := h
    obtain ⟨A, c', hv, hc, _, _, hA, _, _⟩ := hR.read
    injection hv with h1 h2 h3
    subst h1 h3
    exact ⟨⟨g, 0, none⟩, c, hc, rfl, hA, hb⟩
theorem ext_left (s t : ByteArray) (a b : Nat) (hb : b ≤ s.size) : (s ++ t).extract a b = s.extract a b := by
  apply bts_inj
  rw [bts_extract, bts_extract, bts_append]
  by_cases ha : a ≤ s.size
  · rw [List.drop_append_of_le_length (by rw [bts_length]; exact ha), List.take_append_of_le_length (by rw [List.length_drop, bts_length]; omega)]
  · rw [show b - a = 0 by omega, List.take_zero, List.take_zero]
theorem tk_in {s : ByteArray} {ts : List Tk} (h : Toks (bts s) 0 ts) (i : Nat) (hi : i < ts.length) : ∃ t, ts.getD i (tkEnd s) = t ∧ t ∈ ts ∧ t.2.1 + t.2.2.1 ≤ s.size := by
  have hm : ts[i] ∈ ts := List.getElem_mem hi
  refine ⟨ts[i], by rw [List.getD_eq_getElem?_getD, List.getElem?_eq_getElem hi]; rfl, hm, ?_⟩
  have := (h.good (bts s) (by rw [List.drop_zero]) _ hm).2.1
  rw [bts_length] at this
  exact this
/-- The tokens of a text's beginning lie alike. -/
theorem tkF_left (s t : ByteArray) (ts us : List Tk) (h : Toks (bts s) 0 ts) (i : Nat) (hi : i < ts.length * 4) : tkF (s ++ t) (ts ++ us) i = tkF s ts i := by
  have hq : i / 4 < ts.length := by omega
  obtain ⟨x, hx, hm, hle⟩ := tk_in h (i / 4) hq
  unfold tkF
  have h2 : (ts ++ us).getD (i / 4) (tkEnd (s ++ t)) = x := by
    rw [List.getD_eq_getElem?_getD, List.getElem?_append_left hq]
    rw [List.getD_eq_getElem?_getD] at hx
    rw [List.getElem?_eq_getElem hq] at hx ⊢
    exact hx
  rw [hx, h2]
  unfold tkOf
  rw [ext_left s t _ _ hle]
/-- The text with a line more. -/
theorem res_line (s wd : ByteArray) (ts : List Tk) (kind num : Nat) (h : Toks (bts s) 0 ts) (hn : ts.length < 512) (hs : s.size ≤ 2000) (hw : wd.size ≤ 3) (hk : ∀ a, Toks (bts wd) a [(kind, a, wd.size, num)]) :
    res (s ++ (⟨#[10]⟩ ++ wd)) = .ok (ts ++ [(kind, s.size + 1, wd.size, num)]) := by
  have hz : (s ++ ((⟨#[10]⟩ : ByteArray) ++ wd)).size = s.size + 1 + wd.size := by
    rw [ByteArray.size_append, ByteArray.size_append, ← Nat.add_assoc]
    rfl
  have hb : bts (s ++ ((⟨#[10]⟩ : ByteArray) ++ wd)) = bts s ++ 10 :: bts wd := by
    rw [bts_append, bts_append]
    rfl
  unfold res
  rw [hz, if_neg (by omega), hb]
  refine toks_of (h.line (bts wd) _ (fun a' ha => ?_)) 0 ?_
  · rw [bts_length, Nat.zero_add] at ha
    subst ha
    exact hk _
  · rw [List.length_append]
    simp
    omega
theorem toks_one {l : List Nat} {kind num : Nat} (hl : gap false l = 0) (h : Lx.tok l = some (kind, l.length, num)) (a : Nat) : Toks l a [(kind, a, l.length, num)] := by
  have := Toks.cons (l := l) (a := a) (kind := kind) (len := l.length) (num := num) (ts := []) (by rw [hl, List.drop_zero]; exact h) (.nil (by rw [hl, List.drop_zero, List.drop_length]; rfl))
  rw [hl, Nat.add_zero] at this
  exact this
/-- The law's words. -/
abbrev wordsV : Value := .agg #[.string ⟨#[108, 101, 116]⟩, .string ⟨#[122, 122]⟩, .string ⟨#[55]⟩, .string ⟨#[62, 62]⟩]
theorem word_of (k : Nat) (hk : k < 4) : ∃ (wd : ByteArray) (kind num : Nat), (∀ w, (Instr.index 44 wordsV (.int .i64 (k : Int))).run Tryd.prog w = .ok (.string wd) w) ∧ wd.size ≤ 3 ∧ ∀ a, Toks (bts wd) a [(kind, a, wd.size, num)] := by
  rcases (show k = 0 ∨ k = 1 ∨ k = 2 ∨ k = 3 by omega) with rfl | rfl | rfl | rfl
  · exact ⟨⟨#[108, 101, 116]⟩, 4, 0, fun w => by kernel_rfl, by decide, toks_one (l := [108, 101, 116]) (by rfl) (by kernel_rfl)⟩
  · exact ⟨⟨#[122, 122]⟩, 1, 0, fun w => by kernel_rfl, by decide, toks_one (l := [122, 122]) (by rfl) (by kernel_rfl)⟩
  · exact ⟨⟨#[55]⟩, 2, 7, fun w => by kernel_rfl, by decide, toks_one (l := [55]) (by rfl) (by kernel_rfl)⟩
  · exact ⟨⟨#[62, 62]⟩, 3, 0, fun w => by kernel_rfl, by decide, toks_one (l := [62, 62]) (by rfl) (by kernel_rfl)⟩
end Go.Proofs.YtkogbighpidfhaaDoor
