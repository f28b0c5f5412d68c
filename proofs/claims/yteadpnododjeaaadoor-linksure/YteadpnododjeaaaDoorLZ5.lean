/- LinkSure's walk: a round's state; what each way through the switch leaves; a text of a list, read, set, taken out; what is taken, and what came held against what was sent. -/
import Derived.Test.YteadpnododjeaaaDoorLZ4a
import Derived.Test.YteadpnododjeaaaDoorBQ3
namespace Go.Proofs.YteadpnododjeaaaDoor
open Go.RowKit

/-- Within a round: the state, and what happens. -/
structure Rd (w w1 : World) (ge ga g : Nat) (s : Nat → En) (v : Nat → Nat → Value) (L : Lists) (N : Nat) (kd z b : Int) (B : Option Addr) (n d : Nat) : Prop where
  st : Z w w1 ge ga s v L N
  o : OpIn w1 g kd z b B n d
section
variable {w w1 w2 : World} {ge ga g : Nat} {s : Nat → En} {v : Nat → Nat → Value} {L : Lists} {N : Nat} {kd z b : Int} {B : Option Addr} {n d : Nat}
theorem Rd.below (h : Rd w w1 ge ga g s v L N kd z b B n d) (hb : Below w1.heap.size w1 w2) : Rd w w2 ge ga g s v L N kd z b B n d := ⟨h.st.below hb, (hb.block g (Array.getElem?_eq_some_iff.1 h.o).1).trans h.o⟩
theorem Rd.o0 (h : Rd w w1 ge ga g s v L N kd z b B n d) : w1.cell? ⟨g, 0, none⟩ = some (.int .i64 kd) := by rw [cell_of_row w1 g 0 _ _ (0, 0) h.o]; rfl
theorem Rd.o2 (h : Rd w w1 ge ga g s v L N kd z b B n d) : w1.cell? ⟨g, 2, none⟩ = some (.int .i64 b) := by rw [cell_of_row w1 g 2 _ _ (0, 0) h.o]; rfl
theorem Rd.o3 (h : Rd w w1 ge ga g s v L N kd z b B n d) : w1.cell? ⟨g, 3, none⟩ = some (.slice B n d) := by rw [cell_of_row w1 g 3 _ _ (0, 0) h.o]; rfl
end
/-- A list of texts, told by its place, count and room. -/
theorem Z.strs {w w1 : World} {ge ga : Nat} {s : Nat → En} {v : Nat → Nat → Value} {L : Lists} {N j k : Nat} (h : Z w w1 ge ga s v L N) (hj : j < 3) (hk : k < 2) : ∃ A c, v j k = .slice A (L j k).length c ∧ w1.cell? ⟨ga + j, k, none⟩ = some (.slice A (L j k).length c) ∧ (L j k).length ≤ c ∧ (A = none → L j k = [] ∧ c = 0) ∧ SrcS w1 A (L j k) := by
  obtain ⟨A, c, h1, h2, h3, h4⟩ := (h.mem.r j k hj hk).slice
  exact ⟨A, c, h1, by rw [← h1]; exact h.mem.cell hj hk, h2, h3, h4⟩
theorem OpIn.goes {w w1 : World} {base g : Nat} {t t' : En} {kd z b : Int} {B : Option Addr} {n d : Nat} (h : OpIn w g kd z b B n d) (hE : EndAt w base t) (hg : Goes w base t w1 t') : OpIn w1 g kd z b B n d :=
  (hg.kept.block g (Array.getElem?_eq_some_iff.1 h).1 (hE.foreign h (.inr (.inr (.inr rfl))))).trans h
theorem OpIn.cell {w : World} {g : Nat} {kd z b : Int} {B : Option Addr} {n d : Nat} (h : OpIn w g kd z b B n d) : w.cell? ⟨g, 3, none⟩ = some (.slice B n d) := by rw [cell_of_row w g 3 _ _ (0, 0) h]; rfl
/-- An end has gone on, and a text is added to a list. -/
theorem Z.push {w0 w w' w1 : World} {ge ga k j q N M : Nat} {s : Nat → En} {v : Nat → Nat → Value} {L : Lists} {t : En} (h : Z w0 w ge ga s v L N) (hk : k < 2) (g : Goes w w0.heap.size (s k) w' t) (hF : Fine t M) (hM : N ≤ M) (hM5 : M ≤ 1000) (hj : j < 3) (hq : q < 2) (x : ByteArray) (hl : (L j q).length + 1 ≤ 400 * M)
    (hI : Inv (put1 s k t) (put2 L j q (L j q ++ [x]))) (hb : Below w'.heap.size w' w1) :
    ∃ v' w3, (Builtin.append_ #[36, 36] 36 #[v j q, .slice (some ⟨w1.heap.size, 0, none⟩) 1 1]).run Tryd.prog (w1.alloc (.cells #[.string x] 9)) = .ok v' w3 ∧
      Z w0 (w3.setCell ⟨ga + j, q, none⟩ v') ge ga (put1 s k t) (put2 v j q v') (put2 L j q (L j q ++ [x])) M ∧ (∃ A c, v' = .slice A ((L j q).length + 1) c) ∧ w3.cell? ⟨ga + j, q, none⟩ = some (v j q) ∧ w3.frozen? ⟨ga + j, q, none⟩ = false ∧ Only w1 (w3.setCell ⟨ga + j, q, none⟩ v') ∧ Only w1 w3 ∧ Below w0.heap.size w0 w3 := by
  have hD : Duo w0 w' (put1 s k t 0) (put1 s k t 1) M := by
    rcases (show k = 0 ∨ k = 1 by omega) with rfl | rfl
    · exact h.duo.left g hF hM
    · exact h.duo.right g hF hM
  have hD1 := hD.below hb
  have hM1 := (h.mem.kept (h.end hk).1 g.kept).below hb
  obtain ⟨v', w3, hr, hMm, hO, hB, hsl, hrow, hB3, hO3, hc, hf⟩ := hM1.push (base := w0.heap.size) (w0 := w0) hj hq x (by omega) hD1.size hD1.blw h.lo (fun b hb => h.row j q b hj hq hb)
  refine ⟨v', w3, hr, ⟨hD1.only hB hO, hMm, hI, fun i hi => ?_, fun a b e ha hb he => ?_, h.lo, fun a b ha hb => ?_⟩, hsl, hc, hf, hO, hO3, hB3⟩
  · by_cases e : i = k
    · subst e; rw [put1_same, g.same]; exact h.ps i hi
    · rw [put1_other _ _ _ _ e]; exact h.ps i hi
  · by_cases e2 : a = j ∧ b = q
    · obtain ⟨rfl, rfl⟩ := e2
      rw [put2_same] at he
      exact hrow e he
    · rw [put2_other _ _ _ _ _ _ e2] at he
      exact h.row a b e ha hb he
  · by_cases e2 : a = j ∧ b = q
    · obtain ⟨rfl, rfl⟩ := e2
      rw [put2_same, List.length_append]
      exact hl
    · rw [put2_other _ _ _ _ _ _ e2]
      have := h.len a b ha hb
      omega
/-- No end has changed. -/
theorem Z.push0 {w0 w w1 : World} {ge ga j q N M : Nat} {s : Nat → En} {v : Nat → Nat → Value} {L : Lists} (h : Z w0 w ge ga s v L N) (hM : N ≤ M) (hM5 : M ≤ 1000) (hj : j < 3) (hq : q < 2) (x : ByteArray) (hl : (L j q).length + 1 ≤ 400 * M)
    (hI : Inv s (put2 L j q (L j q ++ [x]))) (hb : Below w.heap.size w w1) :
    ∃ v' w3, (Builtin.append_ #[36, 36] 36 #[v j q, .slice (some ⟨w1.heap.size, 0, none⟩) 1 1]).run Tryd.prog (w1.alloc (.cells #[.string x] 9)) = .ok v' w3 ∧
      Z w0 (w3.setCell ⟨ga + j, q, none⟩ v') ge ga s (put2 v j q v') (put2 L j q (L j q ++ [x])) M ∧ (∃ A c, v' = .slice A ((L j q).length + 1) c) ∧ w3.cell? ⟨ga + j, q, none⟩ = some (v j q) ∧ w3.frozen? ⟨ga + j, q, none⟩ = false ∧ Only w1 (w3.setCell ⟨ga + j, q, none⟩ v') ∧ Only w1 w3 ∧ Below w0.heap.size w0 w3 := by
  have := h.push (k := 0) (by omega) (Goes.refl (h.end (k := 0) (by omega)).1) ((h.end (k := 0) (by omega)).2.mono hM) hM hM5 hj hq x hl (by rw [put1_self]; exact hI) hb
  rw [put1_self] at this
  exact this
end Go.Proofs.YteadpnododjeaaaDoor
namespace Go.Proofs.YteadpnododjeaaaDoor
open Go.RowKit

/-- A byte of a text. -/
def byteAt (t : ByteArray) (i : Nat) : Nat := (t.data.toList.getD i 0).toNat
theorem byteAt_strB (n : Nat) (f : Nat → Nat) (i : Nat) (hi : i < n) (hf : f i < 256) : byteAt (strB n f) i = f i := by
  simp [byteAt, strB, List.getD, hi]
  exact hf
theorem size_strB (n : Nat) (f : Nat → Nat) : (strB n f).size = n := by simp [strB, ByteArray.size]
/-- []byte(t). -/
theorem conv_SF (w : World) (n : Nat) (F : Nat → Nat) (hF : ∀ i, F i < 256) : ∃ c wb, (convert 9 23 (.string (strB n F))).run Tryd.prog w = .ok (sl8 w.heap.size n c) wb ∧ AtB wb ⟨w.heap.size, 0, none⟩ n F ∧ (∀ q, q < n → wb.frozen? ⟨w.heap.size, q, none⟩ = false) ∧ Below w.heap.size w wb ∧ n ≤ c ∧ ∃ cur f, wb.heap[w.heap.size]? = some (.cells cur 5 f) := by
  obtain ⟨t, ht⟩ : ∃ t, t = strB n F := ⟨_, rfl⟩
  have hts : t.size = n := by rw [ht, size_strB]
  have hr := run_bytes_of_string (P := Tryd.prog) w 9 23 5 t (by kernel_rfl) Tryd.underlying23 (by kernel_rfl)
  have hh : (w.drew.alloc (.cells (bytesRow t (grownCap w t.size 0 5)) 5 ((bytesRow t (grownCap w t.size 0 5)).size, (bytesRow t (grownCap w t.size 0 5)).size + 1))).heap[w.heap.size]? = some (.cells (bytesRow t (grownCap w t.size 0 5)) 5 ((bytesRow t (grownCap w t.size 0 5)).size, (bytesRow t (grownCap w t.size 0 5)).size + 1)) := heap_alloc_new w.drew _
  have hsz : t.size ≤ (bytesRow t (grownCap w t.size 0 5)).size := by
    unfold bytesRow
    rw [Array.size_append, Array.size_map]
    exact Nat.le_add_right _ _
  have hcap := grownCap_ge w t.size 0 5
  subst hts
  rw [← ht]
  refine ⟨_, _, hr, fun i hi => ?_, fun q hq => ?_, ((Below.refl w.heap.size w).drew).alloc (Nat.le_refl _) _, hcap, _, _, hh⟩
  · rw [Addr.add_mid, Nat.zero_add, cell_of_row _ _ i _ _ _ hh, bytesRow_at t _ i hi]
    have hi' : i < t.data.size := hi
    have e : t.data.toList.getD i 0 = t.data[i] := by rw [List.getD, Array.getElem?_toList, Array.getElem?_eq_getElem hi']; rfl
    have e2 := byteAt_strB t.size F i hi (hF i)
    rw [← ht] at e2
    unfold byteAt at e2
    rw [e] at e2
    rw [e2]
  · simp only [World.frozen?, hh]
    rw [Bool.and_eq_false_iff]
    exact .inl (decide_eq_false (by omega))
section
variable {w w1 w' : World} {ge ga g : Nat} {s : Nat → En} {v : Nat → Nat → Value} {L : Lists} {N M j k t : Nat}
/-- A list of texts that isn't empty. -/
theorem Strs.form {u : Value} {l : List ByteArray} (h : Strs w u l) (ht : t < l.length) : ∃ gq c cur, u = .slice (some ⟨gq, 0, none⟩) l.length c ∧ l.length ≤ c ∧ w.heap[gq]? = some (.cells cur 9 (0, 0)) ∧ (∀ i x, l[i]? = some x → w.cell? ⟨gq, i, none⟩ = some (.string x)) ∧ ∀ i, w.frozen? ⟨gq, i, none⟩ = false := by
  obtain ⟨A, c, h1, h2, h3, h4⟩ := h.slice
  rcases h.2 with ⟨rfl, h0⟩ | ⟨gq, cap, cur, rfl, hx, hy, _⟩
  · omega
  · injection h1 with e1 e2 e3
    subst e1 e3
    refine ⟨gq, cap, cur, rfl, h2, hy, fun i x hi => ?_, fun i => by simp [World.frozen?, hy]⟩
    obtain ⟨ad, e, hc⟩ := h4 i x hi
    injection e with e
    subst e
    rw [Addr.add_mid, Nat.zero_add] at hc
    exact hc
/-- A text is set. -/
theorem Strs.set {u : Value} {l : List ByteArray} {gq c : Nat} {n : Nat} (h : Strs w u l) (hu : u = .slice (some ⟨gq, 0, none⟩) n c) (y : ByteArray) : Strs (w.setCell ⟨gq, t, none⟩ (.string y)) u (l.set t y) := by
  refine ⟨by simp, ?_⟩
  rcases h.2 with ⟨e, _⟩ | ⟨g', cap, cur, e, h1, h2, h3, h4, h5, h6⟩
  · rw [hu] at e; cases e
  · rw [hu] at e
    injection e with e1 e2 e3
    injection e1 with e1
    injection e1 with e1
    subst e1 e3
    refine .inr ⟨gq, c, cur.setIfInBounds t (.string y), by rw [hu, e2, List.length_set], h1, setCell_row _ h2, by simpa using h3, by simpa using h4, by simpa using h5, ?_⟩
    rw [Nat.mul_one] at h6 ⊢
    rw [Array.toList_setIfInBounds, List.length_set, List.take_set, h6, List.map_set]
end
end Go.Proofs.YteadpnododjeaaaDoor
namespace Go.Proofs.YteadpnododjeaaaDoor
open Go.RowKit

theorem elemS : Tryd.prog.elem 36 = 9 := by kernel_rfl
theorem sizeS (w : World) : (sizeOf (Tryd.prog.elem 36)).run Tryd.prog w = .ok 1 w := by
  obtain ⟨i0, hi, _, hz1, _⟩ := infoS
  rw [elemS]
  simp [sizeOf, typeInfo, hi, hz1]
theorem undS : Tryd.prog.underlying 36 = some (.slice (Tryd.prog.elem 36)) := by rw [elemS]; exact Tryd.underlying36
theorem run_tailS (w : World) (A : Option Addr) (n c i : Nat) (hl : i < n) :
    (Instr.slice 36 (.slice A n c) (some (.int .i64 ((i : Int) + 1))) none none).run Tryd.prog w = .ok (.slice (tl A c (i + 1)) (n - (i + 1)) (c - (i + 1))) w := by
  have hr := run_slice_l w 36 A n c undS .i64 ((i : Int) + 1) (by omega) (by omega)
  rw [sizeS] at hr
  rw [hr]
  have e : ((i : Int) + 1).toNat = i + 1 := by omega
  simp only [Result.andThen, sliced, e, Nat.mul_one]
  rfl
theorem run_headS (w : World) (A : Option Addr) (n c h : Nat) (hc : h ≤ c) :
    (Instr.slice 36 (.slice A n c) none (some (.int .i64 (h : Int))) none).run Tryd.prog w = .ok (.slice A h c) w := by
  have hr := run_slice_h w 36 A n c undS .i64 (h : Int) (by omega) (by omega)
  rw [sizeS] at hr
  rw [hr]
  simp only [Result.andThen, sliced, Int.toNat_natCast, Nat.sub_zero, Nat.zero_mul]
  rcases A with _ | ad
  · simp
  · simp [Addr.add]
theorem SrcS.take {w : World} {A : Option Addr} {l : List ByteArray} (h : SrcS w A l) (i : Nat) : SrcS w A (l.take i) := fun j t ht => by
  rw [List.getElem?_take] at ht
  split at ht
  · exact h j t ht
  · cases ht
theorem SrcS.drop {w : World} {A : Option Addr} {l : List ByteArray} {c : Nat} (h : SrcS w A l) (i : Nat) (hc : l.length ≤ c) : SrcS w (tl A c i) (l.drop i) := fun j t ht => by
  rw [List.getElem?_drop] at ht
  obtain ⟨ad, rfl, hcl⟩ := h _ t ht
  have hlt := (List.getElem?_eq_some_iff.1 ht).1
  refine ⟨ad.add i, ?_, by rw [add_add]; exact hcl⟩
  unfold tl
  rw [if_neg (by omega)]
  rfl
theorem emptyS (w : World) : (w.alloc (.cells #[] 9)).ownsRow w.heap.size 9 1 (.slice (some ⟨w.heap.size, 0, none⟩) 0 0) ([] : List ByteArray).length (([] : List ByteArray).map Value.string) :=
  ⟨rfl, .inr ⟨w.heap.size, 0, #[], rfl, Nat.le_refl _, heap_alloc_new w _, Nat.le_refl _, by decide, rfl, rfl⟩⟩
theorem ownsRow_blk {w : World} {base n : Nat} {v : Value} {xs : List Value} (h : w.ownsRow base 9 1 v n xs) {b : Nat} (hb : v.ownBlock = some b) : base ≤ b := by
  rcases h.2 with ⟨rfl, _⟩ | ⟨g, cap, cur, rfl, h1, _⟩
  · cases hb
  · have : g = b := by simpa [Value.ownBlock] using hb
    omega
theorem ownsRow_val {w : World} {base : Nat} {v : Value} {xs : List ByteArray} (h : w.ownsRow base 9 1 v xs.length (xs.map Value.string)) : ∃ A c, v = .slice A xs.length c := by
  rcases h.2 with ⟨rfl, h0⟩ | ⟨g, cap, cur, rfl, h1, _⟩
  · exact ⟨none, 0, by rw [h0]⟩
  · exact ⟨_, _, rfl⟩
theorem ownsRow_strs {w : World} {base : Nat} {v : Value} {xs : List ByteArray} (h : w.ownsRow base 9 1 v xs.length (xs.map Value.string)) : Strs w v xs :=
  ⟨h.1, h.2.imp id fun ⟨g, cap, cur, h1, _, h3⟩ => ⟨g, cap, cur, h1, Nat.zero_le _, h3⟩⟩
section
variable {w0 w wd : World} {ge ga g : Nat} {s : Nat → En} {v : Nat → Nat → Value} {L : Lists} {N M k t gq cq : Nat}
/-- One is taken out, by way of a new list. -/
theorem Z.remove (h : Z w0 w ge ga s v L N) (hk : k < 2) (ht : t < (L 0 k).length) (hv : v 0 k = .slice (some ⟨gq, 0, none⟩) (L 0 k).length cq) (hlc : (L 0 k).length ≤ cq) (hL : (L 0 k).length ≤ 500000) (hb : Below w.heap.size w wd) :
    ∃ A7 c7 w7 A8 c8 w8, (Builtin.append_ #[36, 36] 36 #[.slice (some ⟨wd.heap.size, 0, none⟩) 0 0, .slice (some ⟨gq, 0, none⟩) t cq]).run Tryd.prog (wd.alloc (.cells #[] 9)) = .ok (.slice A7 t c7) w7 ∧ Below w.heap.size w w7 ∧
      (Builtin.append_ #[36, 36] 36 #[.slice A7 t c7, .slice (tl (some ⟨gq, 0, none⟩) cq (t + 1)) ((L 0 k).length - (t + 1)) (cq - (t + 1))]).run Tryd.prog w7 = .ok (.slice A8 ((L 0 k).length - 1) c8) w8 ∧
      Z w0 (w8.setCell ⟨ga, k, none⟩ (.slice A8 ((L 0 k).length - 1) c8)) ge ga s (put2 v 0 k (.slice A8 ((L 0 k).length - 1) c8)) (put2 L 0 k ((L 0 k).take t ++ (L 0 k).drop (t + 1))) N ∧ w8.cell? ⟨ga, k, none⟩ = some (v 0 k) ∧ w8.frozen? ⟨ga, k, none⟩ = false ∧ Only w (w8.setCell ⟨ga, k, none⟩ (.slice A8 ((L 0 k).length - 1) c8)) := by
  obtain ⟨A, c, h1, h2, h3, hsrc⟩ := (h.mem.r 0 k (by omega) hk).slice
  rw [hv] at h1
  injection h1 with e1 _ e3
  subst e1 e3
  have hb1 : Below w.heap.size w (wd.alloc (.cells #[] 9)) := hb.alloc hb.size _
  have hlt : ((L 0 k).take t).length = t := by rw [List.length_take]; omega
  have hld : ((L 0 k).drop (t + 1)).length = (L 0 k).length - (t + 1) := by rw [List.length_drop]
  obtain ⟨v7, w7, hr7, own7, hg7, _⟩ := append_G (wd.alloc (.cells #[] 9)) wd.heap.size _ [] ((L 0 k).take t) (some ⟨gq, 0, none⟩) t cq (emptyS wd) hlt.symm ((hsrc.below hb1).take t) (fun e => by cases e) (by rw [hlt]; simp; omega) (by simp)
  rw [List.nil_append] at own7
  have hb17 : Below wd.heap.size (wd.alloc (.cells #[] 9)) w7 := ⟨hg7.os, hg7.tape, hg7.output, hg7.size, fun b hbb => hg7.block b (by simp; omega) (fun e => absurd (ownsRow_blk (emptyS wd) (b := b) e.symm) (by omega))⟩
  have hb7 : Below wd.heap.size wd w7 := ((Below.refl _ _).alloc (Nat.le_refl wd.heap.size) _).trans hb17
  have hbw7 : Below w.heap.size w w7 := hb.trans (hb7.mono hb.size)
  obtain ⟨A7, c7, rfl⟩ := ownsRow_val own7
  rw [hlt] at hr7
  obtain ⟨v8, w8, hr8, own8, hg8, _⟩ := append_G w7 wd.heap.size _ ((L 0 k).take t) ((L 0 k).drop (t + 1)) (tl (some ⟨gq, 0, none⟩) cq (t + 1)) ((L 0 k).length - (t + 1)) (cq - (t + 1)) own7 hld.symm ((hsrc.below hbw7).drop (t + 1) hlc) (fun e => by
    unfold tl at e
    split at e <;> cases e) (by rw [hlt, hld]; omega) hb7.size
  rw [hlt] at hr8
  have hb8 : Below wd.heap.size wd w8 := hb7.trans ⟨hg8.os, hg8.tape, hg8.output, hg8.size, fun b hbb => hg8.block b (Nat.lt_of_lt_of_le hbb hb7.size) (fun e => by have := ownsRow_blk own7 e.symm; omega)⟩
  have hbw8 : Below w.heap.size w w8 := hb.trans (hb8.mono hb.size)
  obtain ⟨A8, c8, rfl⟩ := ownsRow_val own8
  have hl8 : ((L 0 k).take t ++ (L 0 k).drop (t + 1)).length = (L 0 k).length - 1 := by rw [List.length_append, hlt, hld]; omega
  rw [hl8] at hr8
  have hS8 := ownsRow_strs own8
  rw [hl8] at hS8
  have hgr : w.grownBy w8 (v 0 k).ownBlock := ⟨hbw8.os, hbw8.tape, hbw8.output, hbw8.size, fun b hbb _ => hbw8.block b hbb⟩
  obtain ⟨hM, hO⟩ := h.mem.list (j := 0) (k := k) (by omega) hk hgr _ _ hS8 (fun b e => .inr (by
    have := ownsRow_blk own8 (b := b) (by rw [hl8]; exact e)
    exact Nat.le_trans hb.size this))
  have hga := (Array.getElem?_eq_some_iff.1 (h.mem.a 0 (by omega))).1
  refine ⟨A7, c7, w7, A8, c8, w8, hr7, hbw7, hr8, ?_, (hbw8.cell (p := ⟨ga, k, none⟩) hga).trans (h.mem.cell (j := 0) (by omega) hk), (World.frozen?_of_block (a := ⟨ga, k, none⟩) (hbw8.block ga hga)).trans (h.mem.frozen (j := 0) (by omega) k), hO⟩
  refine h.memo hM ((h.duo.blw.trans (hbw8.mono h.duo.size)).setCell (p := ⟨ga, k, none⟩) h.lo _) hO (h.inv.way _ fun fr hfr => h.inv.f k hk fr ?_) (fun a b e ha hb2 he => ?_) (fun a b ha hb2 => ?_) (Nat.le_refl _)
  · rcases List.mem_append.1 hfr with hfr | hfr
    · exact List.mem_of_mem_take hfr
    · exact List.mem_of_mem_drop hfr
  · by_cases e2 : a = 0 ∧ b = k
    · obtain ⟨rfl, rfl⟩ := e2
      rw [put2_same] at he
      have := ownsRow_blk own8 (b := e) (by rw [hl8]; exact he)
      have := h.duo.size
      have := hb.size
      omega
    · rw [put2_other _ _ _ _ _ _ e2] at he
      exact h.row a b e ha hb2 he
  · by_cases e2 : a = 0 ∧ b = k
    · obtain ⟨rfl, rfl⟩ := e2
      rw [put2_same, hl8]
      have := h.len 0 b (by omega) hk
      omega
    · rw [put2_other _ _ _ _ _ _ e2]
      exact h.len a b ha hb2
/-- One is set. -/
theorem Z.setElem (h : Z w0 w ge ga s v L N) (hk : k < 2) (hv : v 0 k = .slice (some ⟨gq, 0, none⟩) (L 0 k).length cq) (y : ByteArray) (hy : Okf (L 1 (1 - k)) (s (1 - k)).num (s (1 - k)).want y) : Z w0 (w.setCell ⟨gq, t, none⟩ (.string y)) ge ga s v (put2 L 0 k ((L 0 k).set t y)) N := by
  have hob : (v 0 k).ownBlock = some gq := by rw [hv]; rfl
  obtain ⟨cur, hc⟩ := (h.mem.r 0 k (by omega) hk).block hob
  have hset : ∀ b, b ≠ gq → (w.setCell ⟨gq, t, none⟩ (.string y)).heap[b]? = w.heap[b]? := fun b hb => Below.heap_setCell w _ _ b hb
  have hne : ∀ (b : Nat) (cu : Array Value) (u : TypeId) (f : Nat × Nat), w.heap[b]? = some (.cells cu u f) → u ≠ 9 → b ≠ gq := fun b cu u f hb hu => heap_ne hb hc hu
  refine h.memo ⟨?_, fun j hj => ?_, fun i q hi hq => ?_, h.mem.ap⟩ (h.duo.blw.setCell (p := ⟨gq, t, none⟩) (h.row 0 k gq (by omega) hk hob) _) (fun b cu u f hb _ h2 => hset b (hne b cu u f hb h2)) (h.inv.way _ fun fr hfr => ?_) h.row (fun a b ha hb2 => ?_) (Nat.le_refl _)
  · exact (hset _ (hne _ _ _ _ h.mem.e (by decide))).trans h.mem.e
  · exact (hset _ (hne _ _ _ _ (h.mem.a j hj) (by decide))).trans (h.mem.a j hj)
  · by_cases e : i = 0 ∧ q = k
    · obtain ⟨rfl, rfl⟩ := e
      rw [put2_same]
      exact (h.mem.r 0 q hi hq).set hv y
    · rw [put2_other _ _ _ _ _ _ e]
      refine (h.mem.r i q hi hq).heap fun b hb => hset b fun e2 => ?_
      subst e2
      exact h.mem.ap i q 0 k b hi hq (by omega) hk e hb hob
  · rcases List.mem_or_eq_of_mem_set hfr with h1 | h1
    · exact h.inv.f k hk fr h1
    · rw [h1]; exact hy
  · by_cases e2 : a = 0 ∧ b = k
    · obtain ⟨rfl, rfl⟩ := e2
      rw [put2_same, List.length_set]
      exact h.len 0 b (by omega) hk
    · rw [put2_other _ _ _ _ _ _ e2]
      exact h.len a b ha hb2
end
theorem AtB.setByte {w : World} {g n q y : Nat} {F : Nat → Nat} (h : AtB w ⟨g, 0, none⟩ n F) (hq : q < n) : AtB (w.setCell ⟨g, q, none⟩ (.int .u8 (y : Int))) ⟨g, 0, none⟩ n (fun i => if i = q then y else F i) := fun i hi => by
  have h0 := h i hi
  rw [Addr.add_mid, Nat.zero_add] at h0 ⊢
  dsimp only
  by_cases e : i = q
  · subst e
    rw [if_pos rfl]
    exact World.cell?_setCell_same _ _ _ h0
  · rw [if_neg e, World.cell?_setCell_other _ _ _ _ (fun e2 => e (by injection e2 with _ e2 _; exact e2.symm))]
    exact h0
/-- Frames that were answered, where only lists of texts have changed. -/
theorem Outs.only {w w' : World} {B : Nat} {v : Value} {S : List (Nat × (Nat → Nat))} (h : Outs w B v S) (ho : Only w w') : Outs w' B v S := by
  obtain ⟨F, h1, h2, h3⟩ := h
  refine ⟨F, h1.heap fun b e => ?_, fun x hx => ?_, h3⟩
  · obtain ⟨_, cur, hc⟩ := h1.block e
    exact ho _ _ _ _ hc (by decide) (by decide)
  · obtain ⟨cur, hc⟩ := (h2 x hx).block
    exact (h2 x hx).heap (ho _ _ _ _ hc (by decide) (by decide))
theorem Lies.only {w w' : World} {B : Nat} {x : Fr} (h : Lies w B x) (ho : Only w w') : Lies w' B x := by
  obtain ⟨cur, hc⟩ := h.block
  exact h.heap (ho _ _ _ _ hc (by decide) (by decide))
theorem Only.trans {w w' w'' : World} (h : Only w w') (h2 : Only w' w'') : Only w w'' := fun b cur t f hc h1 h3 => (h2 b cur t f ((h b cur t f hc h1 h3).trans hc) h1 h3).trans (h b cur t f hc h1 h3)
theorem Only.of_below {w w' : World} (h : Below w.heap.size w w') : Only w w' := fun b _ _ _ hc _ _ => h.block b (Array.getElem?_eq_some_iff.1 hc).1
/-- While Step's frames are put under way. -/
def Pt (w w1 : World) (ge ga : Nat) (s : Nat → En) (L : Lists) (k i j : Nat) (B : Nat) (u : Value) (S : List (Nat × (Nat → Nat))) : Prop :=
  ∃ v' L', Z w w1 ge ga s v' L' (i + 1) ∧ (L' 0 (1 - k)).length ≤ 400 * i + j ∧ L' 1 k = L 1 k ∧ Outs w1 B u S
/-- One more is put under way. -/
theorem Pt.next {w w1 : World} {ge ga : Nat} {s : Nat → En} {L : Lists} {k i j B : Nat} {u : Value} {S : List (Nat × (Nat → Nat))} (h : Pt w w1 ge ga s L k i j B u S) (hk : k < 2) (hi : i < 360) {n : Nat} {f : Nat → Nat} (hj : S[j]? = some (n, f)) (hS : S.length ≤ i + 1) (hok : ∀ y ∈ S, Okf (L 1 k) (s k).num (s k).want (strB y.1 y.2)) :
    ∃ A1 m1 c1 A2 c2 w3, w1.cell? ⟨ga, 1 - k, none⟩ = some (.slice A1 m1 c1) ∧ (Builtin.append_ #[36, 36] 36 #[.slice A1 m1 c1, .slice (some ⟨w1.heap.size, 0, none⟩) 1 1]).run Tryd.prog (w1.drew.alloc (.cells #[.string (strB n f)] 9)) = .ok (.slice A2 (m1 + 1) c2) w3 ∧
      Pt w (w3.setCell ⟨ga, 1 - k, none⟩ (.slice A2 (m1 + 1) c2)) ge ga s L k i (j + 1) B u S ∧ w3.cell? ⟨ga, 1 - k, none⟩ = some (.slice A1 m1 c1) ∧ w3.frozen? ⟨ga, 1 - k, none⟩ = false := by
  obtain ⟨v', L', hZ, hl, hL1, hO⟩ := h
  have hjl := (List.getElem?_eq_some_iff.1 hj).1
  obtain ⟨A1, c1, hv1, hc1, _⟩ := hZ.strs (j := 0) (k := 1 - k) (by omega) (by omega)
  obtain ⟨v2, w3, hr, hZ3, ⟨A2, c2, hv2⟩, hc4, hf4, hO3, _⟩ := hZ.push0 (w1 := w1.drew) (Nat.le_refl _) (by omega) (show 0 < 3 by omega) (show 1 - k < 2 by omega) (strB n f) (by omega) (hZ.inv.way _ (fun fr hfr => by
    rw [show 1 - (1 - k) = k by omega]
    rcases List.mem_append.1 hfr with hfr | hfr
    · have := hZ.inv.f (1 - k) (by omega) fr hfr
      rw [show 1 - (1 - k) = k by omega] at this
      exact this
    · obtain rfl := List.mem_singleton.1 hfr
      rw [hL1]
      exact hok _ (List.mem_of_getElem? hj))) ((Below.refl _ _).drew)
  subst hv2
  rw [hv1] at hr hc4
  refine ⟨A1, _, c1, A2, c2, w3, hc1, hr, ⟨_, _, hZ3, ?_, ?_, ?_⟩, hc4, hf4⟩
  · rw [put2_same, List.length_append]; show _ + 1 ≤ _; omega
  · rw [put2_other _ _ _ _ _ _ (by omega)]; exact hL1
  · exact (hO.below (Below.refl _ _).drew).only hO3
end Go.Proofs.YteadpnododjeaaaDoor
namespace Go.Proofs.YteadpnododjeaaaDoor
open Go.RowKit

/-- While payloads are taken: the loop's two variables; gh more may come. -/
def Tk (w wr : World) (ge ga k M : Nat) (p ok : Value) (gh : Nat) : Prop :=
  (ok = .bool false ∧ ZZ w wr ge ga M) ∨ (ok = .bool true ∧ ∃ wp s v L x C u, p = .slice (some ⟨x.blk, 0, none⟩) x.len x.cap ∧ Z w wp ge ga s v L M ∧ (s k).C = x :: C ∧ Goes wp w.heap.size (s k) wr { s k with cv := u, C := C } ∧ Lies wr w.heap.size x ∧ gh = C.length + 1)
theorem Tk.of_take {w w1 w' : World} {ge ga k M : Nat} {s : Nat → En} {v : Nat → Nat → Value} {L : Lists} {e : Ending} (h : Z w w1 ge ga s v L M) (ht : TookZ w w1 (s k) e w') : ∃ p ok gh, e = .returned (.tuple #[p, .bool ok]) ∧ Tk w w' ge ga k M p (.bool ok) gh ∧ gh ≤ (s k).C.length := by
  rcases ht with ⟨hC, rfl, rfl⟩ | ⟨x, C, u, hC, rfl, hG, hl⟩
  · exact ⟨_, _, 0, rfl, .inl ⟨rfl, _, _, _, h⟩, Nat.zero_le _⟩
  · exact ⟨_, _, C.length + 1, rfl, .inr ⟨rfl, w1, s, v, L, x, C, u, rfl, h, hC, hG, hl, rfl⟩, by rw [hC]; exact Nat.le_refl _⟩
/-- A payload is added to what came. -/
theorem Z.came {w wp wr : World} {ge ga k M : Nat} {s : Nat → En} {v : Nat → Nat → Value} {L : Lists} {x : Fr} {C : List Fr} {u : Value} (h : Z w wp ge ga s v L M) (hk : k < 2) (hM : M ≤ 1000) (hC : (s k).C = x :: C) (hG : Goes wp w.heap.size (s k) wr { s k with cv := u, C := C }) :
    ∃ A1 m1 c1 A2 c2 w3, wr.cell? ⟨ga + 1 + 1, k, none⟩ = some (.slice A1 m1 c1) ∧ (Builtin.append_ #[36, 36] 36 #[.slice A1 m1 c1, .slice (some ⟨wr.drew.heap.size, 0, none⟩) 1 1]).run Tryd.prog (wr.drew.alloc (.cells #[.string (strB x.len x.dat)] 9)) = .ok (.slice A2 (m1 + 1) c2) w3 ∧
      (∃ s' v' L', Z w (w3.setCell ⟨ga + 1 + 1, k, none⟩ (.slice A2 (m1 + 1) c2)) ge ga s' v' L' M ∧ (s' k).C = C) ∧ w3.cell? ⟨ga + 1 + 1, k, none⟩ = some (.slice A1 m1 c1) ∧ w3.frozen? ⟨ga + 1 + 1, k, none⟩ = false := by
  obtain ⟨A1, c1, hv1, _, _⟩ := h.strs (j := 2) (k := k) (by omega) hk
  have hc1 := (h.mem.kept (h.end hk).1 hG.kept).cell (j := 2) (k := k) (by omega) hk
  have hI := h.inv.take hk u x C hC
  have hl : (L 2 k).length + 1 ≤ 400 * M := by
    have h1 := (hI.sure hk).1
    rw [put2_same, put2_other _ _ _ _ _ _ (by omega), List.length_append] at h1
    have h2 := h.len 1 (1 - k) (by omega) (by omega)
    have : [x.txt].length = 1 := rfl
    omega
  obtain ⟨v', w3, hr, hZ, ⟨A2, c2, hv2⟩, hc4, hf4, _⟩ := h.push (w1 := wr.drew) hk hG ((h.end hk).2.took u x C hC) (Nat.le_refl M) hM (show 2 < 3 by omega) hk x.txt hl hI ((Below.refl _ _).drew)
  subst hv2
  rw [hv1] at hr hc1 hc4
  exact ⟨A1, _, c1, A2, c2, w3, hc1, hr, ⟨_, _, _, hZ, by rw [put1_same]⟩, hc4, hf4⟩
/-- What came beside what was sent. -/
theorem Z.cmp {w w1 : World} {ge ga k N : Nat} {s : Nat → En} {v : Nat → Nat → Value} {L : Lists} (h : Z w w1 ge ga s v L N) (hk : k < 2) :
    ∃ A2 c2 A1 c1, w1.cell? ⟨ga + 1 + 1, k, none⟩ = some (.slice A2 (L 2 k).length c2) ∧ w1.cell? ⟨ga + 1, 1 - k, none⟩ = some (.slice A1 (L 1 (1 - k)).length c1) ∧ (L 2 k).length ≤ (L 1 (1 - k)).length ∧
      ∀ j, j < (L 2 k).length → ∃ g2 g1 x, A2 = some ⟨g2, 0, none⟩ ∧ A1 = some ⟨g1, 0, none⟩ ∧ w1.cell? ⟨g2, j, none⟩ = some (.string x) ∧ w1.cell? ⟨g1, j, none⟩ = some (.string x) := by
  obtain ⟨A2, c2, hv2, hc2, _⟩ := h.strs (j := 2) (k := k) (by omega) hk
  obtain ⟨A1, c1, hv1, hc1, _⟩ := h.strs (j := 1) (k := 1 - k) (by omega) (by omega)
  have hs := h.inv.sure hk
  refine ⟨A2, c2, A1, c1, hc2, hc1, hs.1, fun j hj => ?_⟩
  obtain ⟨g2, c2', _, hv2', _, _, he2, _⟩ := (h.mem.r 2 k (by omega) hk).form hj
  obtain ⟨g1, c1', _, hv1', _, _, he1, _⟩ := (h.mem.r 1 (1 - k) (by omega) (by omega)).form (t := j) (by have := hs.1; omega)
  rw [hv2] at hv2'
  rw [hv1] at hv1'
  injection hv2' with e2 _ _
  injection hv1' with e1 _ _
  obtain ⟨x, hx⟩ : ∃ x, (L 2 k)[j]? = some x := ⟨_, List.getElem?_eq_getElem hj⟩
  exact ⟨g2, g1, x, e2, e1, he2 j x hx, he1 j x (hs.2 j x hx)⟩
end Go.Proofs.YteadpnododjeaaaDoor
