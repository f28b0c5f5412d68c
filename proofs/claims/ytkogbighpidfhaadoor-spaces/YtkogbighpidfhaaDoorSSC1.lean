/- Lists of tokens in memory; what Scan tells. -/
import Derived.Test.YtkogbighpidfhaaDoorSSB
import Derived.Test.YtkogbighpidfhaaDoorCV2
import Derived.Test.YtkogbighpidfhaaDoorE7
import Derived.Test.YtkogbighpidfhaaDoorEI
namespace Go.Proofs.YtkogbighpidfhaaDoor
open Go.RowKit
open Lx

theorem gap_drop : ∀ (l : List Nat) (b : Bool), gap false (l.drop (gap b l)) = 0
  | [], b => by cases b <;> rfl
  | c :: l, true => by
    simp only [gap, List.drop_succ_cons]
    exact gap_drop l _
  | c :: l, false => by
    simp only [gap]
    split
    · rw [List.drop_succ_cons]; exact gap_drop l true
    · rename_i h
      split
      · rw [List.drop_succ_cons]; exact gap_drop l false
      · rename_i h2
        rw [List.drop_zero]
        simp only [gap]
        rw [if_neg h, if_neg h2]
theorem toks_skip (l : List Nat) (a cnt : Nat) : toks l a cnt = toks (l.drop (gap false l)) (a + gap false l) cnt := by
  have hg := gap_drop l false
  have hd : (l.drop (gap false l)).drop (gap false (l.drop (gap false l))) = l.drop (gap false l) := by rw [hg, List.drop_zero]
  by_cases h0 : l.drop (gap false l) = []
  · rw [toks_nil h0, toks_nil (hd.trans h0)]
  · generalize ht : tok (l.drop (gap false l)) = t
    rcases t with _ | ⟨kind, len, num⟩
    · rw [toks_none h0 ht, toks_none (by rw [hd]; exact h0) (by rw [hd]; exact ht), hg, Nat.add_zero]
    · by_cases hc : 512 ≤ cnt
      · rw [toks_full ht hc, toks_full (by rw [hd]; exact ht) hc, hg, Nat.add_zero]
      · have h2 := toks_cons (l := l.drop (gap false l)) (a := a + gap false l) (cnt := cnt) (by rw [hd]; exact ht) (by omega)
        rw [toks_cons ht (by omega), h2, hd, hg]
        simp only [Nat.add_zero]
theorem pre_pre (ts us : List Tk) (x : Except (Nat × Nat) (List Tk)) : pre ts (pre us x) = pre (ts ++ us) x := by
  rcases x with e | vs
  · rfl
  · simp only [pre, List.append_assoc]
/-- A token, and what stands behind it. -/
theorem toks_step {l : List Nat} {a cnt kind len num : Nat} (hg : gap false l = 0) (h : tok l = some (kind, len, num)) (hc : cnt < 512) :
    toks l a cnt = pre [(kind, a, len, num)] (toks ((l.drop len).drop (gap false (l.drop len))) (a + len + gap false (l.drop len)) (cnt + 1)) := by
  rw [← toks_skip]
  have h' : tok (l.drop (gap false l)) = some (kind, len, num) := by rw [hg, List.drop_zero]; exact h
  rw [toks_cons h' hc, hg, Nat.add_zero, List.drop_zero]
  cases toks (l.drop len) (a + len) (cnt + 1) <;> rfl
/-- What is to be told of a text. -/
def res (s : ByteArray) : Except (Nat × Nat) (List Tk) := if 4096 < s.size then .error (3, s.size) else toks (bts s) 0 0
theorem ext_ext (s : ByteArray) (a n : Nat) : (s.extract a s.size).extract 0 n = s.extract a (a + n) := by
  apply bts_inj
  rw [bts_to, bts_from, bts_extract, Nat.add_sub_cancel_left]
theorem ext_none (s : ByteArray) (a : Nat) : s.extract a (a + 0) = ⟨#[]⟩ := by
  apply bts_inj
  rw [bts_extract, Nat.add_zero, Nat.sub_self, List.take_zero]
  rfl
/-- A token's cells, out of the text. -/
def tkOf (s : ByteArray) (t : Tk) (j : Nat) : Value :=
  if j = 0 then .int .i64 (t.1 : Int) else if j = 1 then .string (s.extract t.2.1 (t.2.1 + t.2.2.1)) else if j = 2 then .int .u64 (t.2.2.2 : Int) else .int .i64 (t.2.1 : Int)
/-- The end's. -/
abbrev tkEnd (s : ByteArray) : Tk := (0, s.size, 0, 0)
def tkF (s : ByteArray) (ts : List Tk) (i : Nat) : Value := tkOf s (ts.getD (i / 4) (tkEnd s)) (i % 4)
theorem tkOf_one (s : ByteArray) (t : Tk) : ∀ j, (tkOf s t j).oneCell' = true := fun j => by
  unfold tkOf
  split
  · rfl
  · split
    · rfl
    · split <;> rfl
theorem tkF_one (s : ByteArray) (ts : List Tk) : ∀ j, (tkF s ts j).oneCell' = true := fun _ => tkOf_one _ _ _
theorem eltK : Elt 23 37 (tkV 0 ⟨#[]⟩ 0 0) 4 40 := ⟨by kernel_rfl, Tryd.underlying23, info_parts (by kernel_rfl), rfl, by omega⟩
/-- A token is appended. -/
theorem append_tk (w : World) (B : Nat) (v : Value) (s : ByteArray) (ts us : List Tk) (n : Nat) (t : Tk) (cs : Array Value) (hR : Row w B 37 4 v n (tkF s ts)) (hcs : ∀ j, j < 4 → cs[j]? = some (tkOf s t j))
    (hu : ∀ i, i < n → us.getD i (tkEnd s) = ts.getD i (tkEnd s)) (ht : us.getD n (tkEnd s) = t) (hn : n ≤ 1000) (hB : B ≤ w.heap.size) :
    ∃ g k w', (∀ ty, (Builtin.append_ #[23, 23] ty #[v, .slice (some ⟨w.heap.size, 0, none⟩) 1 1]).run Tryd.prog (w.alloc (.cells cs 37)) = .ok (.slice (some ⟨g, 0, none⟩) (n + 1) k) w') ∧ B ≤ g ∧
      Row w' B 37 4 (.slice (some ⟨g, 0, none⟩) (n + 1) k) (n + 1) (tkF s us) ∧ (w.alloc (.cells cs 37)).grownBy w' v.ownBlock ∧ (v.ownBlock = some g ∨ w.heap.size ≤ g) := by
  obtain ⟨g, k, w', hr, hgB, hR2, hg, hor⟩ := append_one eltK w B v n (tkF s ts) (tkOf s t) cs hR hcs (tkOf_one s t) (by omega) (by unfold maxLen; omega) hB
  refine ⟨g, k, w', hr, hgB, hR2.congr (fun i hi => ?_), hg, hor⟩
  by_cases h : i < n * 4
  · rw [if_pos h]
    unfold tkF
    rw [hu (i / 4) (by omega)]
  · rw [if_neg h]
    unfold tkF
    have e1 : i / 4 = n := by omega
    have e2 : i % 4 = i - n * 4 := by omega
    rw [e1, ht, e2]
theorem push_old (s : ByteArray) (ts : List Tk) (t : Tk) : ∀ i, i < ts.length → (ts ++ [t]).getD i (tkEnd s) = ts.getD i (tkEnd s) := fun i hi => by
  rw [List.getD_eq_getElem?_getD, List.getD_eq_getElem?_getD, List.getElem?_append_left hi]
theorem push_new (s : ByteArray) (ts : List Tk) (t : Tk) : (ts ++ [t]).getD ts.length (tkEnd s) = t := by
  rw [List.getD_eq_getElem?_getD, List.getElem?_append_right (Nat.le_refl _), Nat.sub_self]
  rfl
theorem end_new (s : ByteArray) (ts : List Tk) : ts.getD ts.length (tkEnd s) = tkEnd s := by
  rw [List.getD_eq_getElem?_getD, List.getElem?_eq_none (Nat.le_refl _)]
  rfl
/-- The place an error of Scan is wrapped in. -/
abbrev lexB : ByteArray := ⟨#[108, 101, 120]⟩
/-- What Scan answers. -/
def ScAns (s : ByteArray) (w : World) (e : Ending) (w' : World) : Prop :=
  (match res s with
    | .ok ts => ∃ g c, e = .returned (.tuple #[.slice (some ⟨g, 0, none⟩) (ts.length + 1) c, .nilIface]) ∧ w.heap.size ≤ g ∧ Row w' w.heap.size 37 4 (.slice (some ⟨g, 0, none⟩) (ts.length + 1) c) (ts.length + 1) (tkF s ts)
    | .error (code, a) => e = .returned (.tuple #[.slice none 0 0, chain [(lexB, (a : Int))] (code : Int)])) ∧ Below w.heap.size w w'
end Go.Proofs.YtkogbighpidfhaaDoor
