/- A circuit that lies in memory goes on: a gate more, an out written. -/
import Derived.Test.YtoldgiejblekaaaDoorRCX7a
namespace Go.Proofs.YtoldgiejblekaaaDoorR
open Go.RowKit

section
variable {b b2 : Nat} {N N2 : Int} {w : World} {g n k g' m k' h n2 kk h' m2 kk' : Nat} {y y2 : Nat → Nat → Int} {o o2 : Nat → Int}
theorem Co.gblk (H : Co b N g n k g' m k' y o w) : ∃ cur, Blk w g 41 cur := (H.r.g.own g rfl).2.2
theorem Co.oblk (H : Co b N g n k g' m k' y o w) : ∃ cur, Blk w g' 3 cur := (H.r.o.own g' rfl).2.2
/-- Two circuits' blocks are apart. -/
theorem Co.apart (H : Co b N g n k g' m k' y o w) (H2 : Co b2 N2 h n2 kk h' m2 kk' y2 o2 w) (e1 : b ≠ b2) (e2 : g ≠ h) (e3 : g' ≠ h') :
    (b2 ≠ b ∧ b2 ≠ g ∧ b2 ≠ g') ∧ (h ≠ b ∧ h ≠ g ∧ h ≠ g') ∧ (h' ≠ b ∧ h' ≠ g ∧ h' ≠ g') := by
  obtain ⟨c1, B1⟩ := H.gblk
  obtain ⟨c2, B2⟩ := H.oblk
  obtain ⟨c3, B3⟩ := H2.gblk
  obtain ⟨c4, B4⟩ := H2.oblk
  exact ⟨⟨fun e => e1 e.symm, blk_ne H2.c B1 (by decide), blk_ne H2.c B2 (by decide)⟩, ⟨blk_ne B3 H.c (by decide), fun e => e2 e.symm, blk_ne B3 B2 (by decide)⟩, ⟨blk_ne B4 H.c (by decide), blk_ne B4 B1 (by decide), fun e => e3 e.symm⟩⟩
theorem Co.self (H : Co b N g n k g' m k' y o w) : b ≠ g ∧ b ≠ g' ∧ g ≠ g' := by
  obtain ⟨c1, B1⟩ := H.gblk
  obtain ⟨c2, B2⟩ := H.oblk
  exact ⟨blk_ne H.c B1 (by decide), blk_ne H.c B2 (by decide), blk_ne B1 B2 (by decide)⟩
/-- One gate more. -/
theorem Co.grow (H : Co b N g n k g' m k' y o w) (x0 x1 x2 : Int) (hn : n ≤ 1000000) :
    ∃ gg kk w1, (∀ ty, (Builtin.append_ #[22, 22] ty #[.slice (some ⟨g, 0, none⟩) n k, .slice (some ⟨w.heap.size, 0, none⟩) 1 1]).run Tryd.prog (w.alloc (.cells #[.int .i64 x0, .int .i64 x1, .int .i64 x2] 41)) = .ok (.slice (some ⟨gg, 0, none⟩) (n + 1) kk) w1) ∧
      Co b N gg (n + 1) kk g' m k' (fun i j => if i < n then y i j else if j = 0 then x0 else if j = 1 then x1 else x2) o (w1.setCell ⟨b, 1, none⟩ (.slice (some ⟨gg, 0, none⟩) (n + 1) kk)) ∧
      Chg (fun q => q = b ∨ q = g) w (w1.setCell ⟨b, 1, none⟩ (.slice (some ⟨gg, 0, none⟩) (n + 1) kk)) ∧ (gg = g ∨ w.heap.size ≤ gg) ∧ Blk w1 b 25 #[.int .i64 N, .slice (some ⟨g, 0, none⟩) n k, .slice (some ⟨g', 0, none⟩) m k'] := by
  obtain ⟨s1, s2, s3⟩ := H.self
  have hlt := H.c.lt
  obtain ⟨gg, kk, w1, hr, _, hR, hgr, hor⟩ := append_one eltG w 0 (.slice (some ⟨g, 0, none⟩) n k) n (gv y) (fun j => .int .i64 (if j = 0 then x0 else if j = 1 then x1 else x2)) #[.int .i64 x0, .int .i64 x1, .int .i64 x2] H.r.g (fun j hj => by
    rcases (show j = 0 ∨ j = 1 ∨ j = 2 by omega) with rfl | rfl | rfl <;> rfl) (fun _ => rfl) (by omega) (by unfold maxLen; omega) (Nat.zero_le _)
  have hor2 : gg = g ∨ w.heap.size ≤ gg := by
    rcases hor with h | h
    · exact .inl (Option.some.inj h).symm
    · exact .inr h
  have hc1 : Chg (fun q => q = b ∨ q = g) w w1 := ((Chg.refl (fun q => q = b ∨ q = g) w).alloc (.cells #[.int .i64 x0, .int .i64 x1, .int .i64 x2] 41)).grown hgr fun q hq => .inr (.inr (Option.some.inj hq).symm)
  have hcg : Chg (fun q => q = g) w w1 := ((Chg.refl (fun q => q = g) w).alloc (.cells #[.int .i64 x0, .int .i64 x1, .int .i64 x2] 41)).grown hgr fun q hq => .inr (Option.some.inj hq).symm
  have hB1 : Blk w1 b 25 #[.int .i64 N, .slice (some ⟨g, 0, none⟩) n k, .slice (some ⟨g', 0, none⟩) m k'] := H.c.chg hcg s1
  have hO1 := H.r.o.chg hcg fun q e => by
    obtain rfl : g' = q := Option.some.inj e
    exact fun e => s3 e.symm
  obtain ⟨_, _, cur, hGb⟩ := hR.own gg rfl
  have hne : gg ≠ b := blk_ne hGb hB1 (by decide)
  have hcb := (Chg.refl (fun q => q = b) w1).set (p := ⟨b, 1, none⟩) (.inr rfl) (.slice (some ⟨gg, 0, none⟩) (n + 1) kk)
  refine ⟨gg, kk, w1, hr, ⟨hB1.set 1 _, ⟨(hR.congr fun i hi => ?_).chg hcb fun q e => ?_, hO1.chg hcb fun q e => ?_⟩⟩, hc1.set (p := ⟨b, 1, none⟩) (.inr (.inl rfl)) _, hor2, hB1⟩
  · dsimp only [gv]
    by_cases h : i < n * 3
    · rw [if_pos h, if_pos (by omega)]
    · have h2 : ¬ i / 3 < n := by omega
      rw [if_neg h, if_neg h2, show i % 3 = i - n * 3 by omega]
  · obtain rfl : gg = q := Option.some.inj e
    exact hne
  · obtain rfl : g' = q := Option.some.inj e
    exact fun e => s2 e.symm
/-- An out is written. -/
theorem Co.setOut (H : Co b N g n k g' m k' y o w) (i : Nat) (hi : i < m) (x : Int) :
    Co b N g n k g' m k' y (fun q => if q = i then x else o q) (w.setCell ⟨g', i, none⟩ (.int .i64 x)) ∧ Chg (fun q => q = g') w (w.setCell ⟨g', i, none⟩ (.int .i64 x)) := by
  obtain ⟨s1, s2, s3⟩ := H.self
  have hc := (Chg.refl (fun q => q = g') w).set (p := ⟨g', i, none⟩) (.inr rfl) (.int .i64 x)
  refine ⟨⟨H.c.chg hc s2, H.r.g.chg hc fun q e => ?_, (H.r.o.set i hi (.int .i64 x)).congr fun q _ => ?_⟩, hc⟩
  · obtain rfl : g = q := Option.some.inj e
    exact s3
  · dsimp only [iv]
    by_cases h : q = i
    · rw [if_pos h, if_pos h]
    · rw [if_neg h, if_neg h]
end
theorem Co.congr {b : Nat} {N : Int} {w : World} {g n k g' m k' : Nat} {y y' : Nat → Nat → Int} {o o' : Nat → Int} (H : Co b N g n k g' m k' y o w) (hy : ∀ i j, i < n → y i j = y' i j) (ho : ∀ i, i < m → o i = o' i) : Co b N g n k g' m k' y' o' w :=
  ⟨H.c, H.r.g.congr fun i hi => by unfold gv; rw [hy _ _ (by omega)], H.r.o.congr fun i hi => by unfold iv; rw [ho _ (by omega)]⟩
theorem more_step3 (y : Nat → Nat → Int) (M t : Nat) (o : Nat → Int) (i j : Nat) (hi : i < M + t + 1) : (if i < M + t then Circ.more y M o 3 false i j else if j = 0 then (3 : Int) else if j = 1 then o t else 0) = Circ.more y M o 3 false i j := by
  by_cases h : i < M + t
  · rw [if_pos h]
  · obtain rfl : i = M + t := by omega
    have h2 : ¬ M + t < M := by omega
    rw [if_neg h]
    unfold Circ.more
    rw [if_neg h2, show M + t - M = t by omega]
    simp
theorem more_step1 (y : Nat → Nat → Int) (M t : Nat) (o : Nat → Int) (i j : Nat) (hi : i < M + t + 1) : (if i < M + t then Circ.more y M o 1 true i j else if j = 0 then (1 : Int) else if j = 1 then o t else o t) = Circ.more y M o 1 true i j := by
  by_cases h : i < M + t
  · rw [if_pos h]
  · obtain rfl : i = M + t := by omega
    have h2 : ¬ M + t < M := by omega
    rw [if_neg h]
    unfold Circ.more
    rw [if_neg h2, show M + t - M = t by omega]
    simp
theorem outs_step (N : Int) (M t : Nat) (o : Nat → Int) (q : Nat) : (if q = t then N + M + t else Circ.outs' N M o t q) = Circ.outs' N M o (t + 1) q := by
  unfold Circ.outs'
  by_cases h : q = t
  · subst h
    rw [if_pos rfl, if_pos (by omega)]
  · rw [if_neg h]
    by_cases h2 : q < t
    · rw [if_pos h2, if_pos (by omega)]
    · rw [if_neg h2, if_neg (by omega)]
end Go.Proofs.YtoldgiejblekaaaDoorR
