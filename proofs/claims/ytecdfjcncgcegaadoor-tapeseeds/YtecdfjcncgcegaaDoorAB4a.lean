/- A cipher's block made; bytes copied. -/
import Derived.Test.YtecdfjcncgcegaaDoorAB3
import Derived.Laws.CopyOwn
namespace Go.Proofs.YtecdfjcncgcegaaDoor
open Go.RowKit

theorem built_cipher (f : Nat → Nat) : Tryd.prog.built 70 [(0, .agg (bys 256 f))] = some (bys 432 fun q => if q < 256 then f q else 0) := by kernel_rfl
theorem bd_cipher {ops : Array Oper} {rest : List Oper} {o : Oper} {a : Act} {w : World} {Q : Exit → Act → World → Prop} (hg : o.guard = none) (x : Operand) (ho : o.op = .build 70 #[(0, x)]) {f : Nat → Nat} (hx : a.eval x = .agg (bys 256 f))
    (k : wpList Tryd.prog ops Q rest (a.put o.dst (.agg (bys 432 fun q => if q < 256 then f q else 0))) w) : wpList Tryd.prog ops Q (o :: rest) a w := by
  have e : ((#[(0, x)] : Array (Nat × Operand)).map fun (i, x) => (i, a.eval x)).toList = [(0, Value.agg (bys 256 f))] := by simp [hx]
  refine wpList_build hg _ _ ho ?_ ?_
  · rw [e, built_cipher]; rfl
  · rw [e, built_cipher]; exact k
/-- n bytes h laid over F from off on. -/
def spl (F : Nat → Nat) (off n : Nat) (h : Nat → Nat) (q : Nat) : Nat := if off ≤ q ∧ q < off + n then h (q - off) else F q
theorem bys_splice (N off n : Nat) (F h : Nat → Nat) (hfit : off + n ≤ N) : ((bys N F).toList.take off ++ ((bys n h).toList ++ (bys N F).toList.drop (off + (bys n h).toList.length))).toArray = bys N (spl F off n h) := by
  apply Array.ext_getElem?
  intro j
  have hl : (bys n h).toList.length = n := by simp [bys_size]
  have hL : (bys N F).toList.length = N := by simp [bys_size]
  rw [List.getElem?_toArray, hl]
  by_cases h1 : j < off
  · rw [List.getElem?_append_left (by rw [List.length_take, hL]; omega), List.getElem?_take, if_pos h1, Array.getElem?_toList, bys_get _ _ _ (by omega), bys_get _ _ _ (by omega)]
    unfold spl; rw [if_neg (by omega)]
  · rw [List.getElem?_append_right (by rw [List.length_take, hL]; omega), List.length_take, hL, Nat.min_eq_left (by omega)]
    by_cases h2 : j < off + n
    · rw [List.getElem?_append_left (by rw [hl]; omega), Array.getElem?_toList, bys_get _ _ _ (by omega), bys_get _ _ _ (by omega)]
      unfold spl; rw [if_pos (by omega)]
    · rw [List.getElem?_append_right (by rw [hl]; omega), hl, List.getElem?_drop, Array.getElem?_toList, show off + n + (j - off - n) = j by omega]
      by_cases h3 : j < N
      · rw [bys_get _ _ _ h3, bys_get _ _ _ h3]; unfold spl; rw [if_neg (by omega)]
      · rw [bys_none _ _ _ (by omega), bys_none _ _ _ (by omega)]
theorem bys_mem (n : Nat) (h : Nat → Nat) : ∀ v ∈ (bys n h).toList, v.oneCell' = true := by
  intro v hv
  have := Array.all_eq_true_iff_forall_mem.1 (bys_one n h) v (by simpa using hv)
  exact this
theorem info5 : (Tryd.prog.info? 5).map (·.size) = some 1 := by kernel_rfl
theorem cp_bytes {ops : Array Oper} {rest : List Oper} {o : Oper} {a : Act} {w : World} {Q : Exit → Act → World → Prop} (hgd : o.guard = none) (d s : Operand) (ho : o.op = .call { callee := .builtin .copy, args := #[d, s], argTypes := #[32, 32] })
    (g off dLen dCap : Nat) (ad : Addr) (sLen sCap n : Nat) (hd : a.eval d = .slice (some ⟨g, off, none⟩) dLen dCap) (hs : a.eval s = .slice (some ad) sLen sCap) {N t : Nat} {F h : Nat → Nat} (hg : OwnB w g N t F) (hn : n = Nat.min sLen dLen)
    (hsrc : ∀ j, j < n → w.cell? (ad.add j) = some (.int .u8 (h j : Int))) (hfit : off + n ≤ N)
    (k : wpList Tryd.prog ops Q rest (a.put o.dst (goInt n)) (w.setRow g (bys N (spl F off n h)))) : wpList Tryd.prog ops Q (o :: rest) a w := by
  have hl : (bys n h).toList.length = n := by simp [bys_size]
  refine wpList_copy_own hgd d s _ _ ho _ Tryd.underlying32 info5 g off dLen dCap ad sLen sCap hd hs (bys N F) t hg (bys n h).toList (by rw [hl, hn]) ?_ (by rw [hl, bys_size]; exact hfit) (bys_mem n h) ?_
  · intro j v hv
    have hj : j < n := by have := (List.getElem?_eq_some_iff.1 hv).1; omega
    rw [Array.getElem?_toList, bys_get _ _ _ hj] at hv
    rw [hsrc j hj, hv]
  · rw [bys_splice N off n F h hfit, hl]; exact k
theorem OwnB.cell' {w : World} {g N t : Nat} {f : Nat → Nat} (h : OwnB w g N t f) (o j : Nat) (hj : o + j < N) : w.cell? ((⟨g, o, none⟩ : Addr).add j) = some (.int .u8 (f (o + j) : Int)) := by
  rw [Addr.add_mid]; exact h.cell _ hj
end Go.Proofs.YtecdfjcncgcegaaDoor
