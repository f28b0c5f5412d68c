/- The document's own New: S of each byte. -/
import Derived.Test.YtecdfjcncgcegaaDoorAR1
import Derived.Test.YtecdfjcncgcegaaDoorAR2
import Derived.Test.YtecdfjcncgcegaaDoorAQ1
namespace Go.Proofs.YtecdfjcncgcegaaDoor
open Go.RowKit

/-- Block g is a struct of two lists. -/
def CB (w : World) (g : Nat) (k b : Value) : Prop := w.heap[g]? = some (.cells #[k, b] 53 (0, 0))
section
variable {w w' : World} {g : Nat} {k b : Value}
theorem CB.lt (h : CB w g k b) : g < w.heap.size := (Array.getElem?_eq_some_iff.1 h).1
theorem CB.cell0 (h : CB w g k b) : w.cell? ⟨g, 0, none⟩ = some k := by rw [cell_of_row w g 0 _ 53 (0, 0) h]; rfl
theorem CB.cell1 (h : CB w g k b) : w.cell? ⟨g, 1, none⟩ = some b := by rw [cell_of_row w g 1 _ 53 (0, 0) h]; rfl
theorem CB.frozen (h : CB w g k b) (i : Nat) : w.frozen? ⟨g, i, none⟩ = false := by unfold CB at h; simp [World.frozen?, h]
theorem CB.set0 (h : CB w g k b) (x : Value) : CB (w.setCell ⟨g, 0, none⟩ x) g x b := by
  unfold CB at h ⊢
  simp [World.setCell, Array.getElem?_modify, h]
theorem CB.set1 (h : CB w g k b) (x : Value) : CB (w.setCell ⟨g, 1, none⟩ x) g k x := by
  unfold CB at h ⊢
  simp [World.setCell, Array.getElem?_modify, h]
theorem CB.far (h : CB w g k b) {p : Addr} (hp : g ≠ p.block) (u : Value) : CB (w.setCell p u) g k b := (Below.heap_setCell w p u g hp).trans h
theorem CB.drew (h : CB w g k b) : CB w.drew g k b := h
theorem CB.alloc (h : CB w g k b) (o : Obj) : CB (w.alloc o) g k b := (Below.heap_alloc w o g h.lt).trans h
theorem CB.new (w : World) (k b : Value) : CB (w.alloc (.cells #[k, b] 53)) w.heap.size k b := heap_alloc_new w _
theorem CB.below {B : Nat} (h : CB w g k b) (hb : Below B w w') (hg : g < B) : CB w' g k b := (hb.block g hg).trans h
theorem CB.keep {d : Nat} (h : CB w g k b) (hb : Keep d w w') (hg : g ≠ d) : CB w' g k b := (hb.block g h.lt hg).trans h
end
abbrev nil8 : Value := .slice none 0 0
/-- Behind i rounds of the first loop. -/
def RN1 (w : World) (i : Nat) (v : Value) (wr : World) : Prop := Below w.heap.size w wr ∧ CB wr w.heap.size nil8 nil8 ∧ CB wr (w.heap.size + 1) nil8 v ∧ OR wr (w.heap.size + 2) v i Aes.sb
theorem RN1.start (w : World) : RN1 w 0 nil8 ((w.alloc (.cells #[nil8, nil8] 53)).alloc (.cells #[nil8, nil8] 53)) := by
  refine ⟨((Below.refl _ _).alloc (Nat.le_refl _) _).alloc (by simp) _, (CB.new w nil8 nil8).alloc _, ?_, OR.nil _ _ _⟩
  have := CB.new (w.alloc (.cells #[nil8, nil8] 53)) nil8 nil8
  simp only [World.size_alloc] at this
  exact this
theorem RN1.step {w wr : World} {i : Nat} {v : Value} (h : RN1 w i v wr) (hi : i < 256) :
    ∃ g c w', (Builtin.append_ #[32, 32] 32 #[v, .slice (some ⟨wr.heap.size, 0, none⟩) 1 1]).run Tryd.prog (wr.drew.alloc (.cells #[.int .u8 (Aes.sb i : Int)] 5)) = .ok (.slice (some ⟨g, 0, none⟩) (i + 1) c) w' ∧
      w'.cell? ⟨w.heap.size + 1, 1, none⟩ = some v ∧ w'.frozen? ⟨w.heap.size + 1, 1, none⟩ = false ∧ RN1 w (i + 1) (.slice (some ⟨g, 0, none⟩) (i + 1) c) (w'.setCell ⟨w.heap.size + 1, 1, none⟩ (.slice (some ⟨g, 0, none⟩) (i + 1) c)) := by
  obtain ⟨h0, h1, h2, h3⟩ := h
  have hl := h2.lt
  obtain ⟨v', w', hr, ho, hb⟩ := append_ownB (wr.drew.alloc (.cells #[.int .u8 (Aes.sb i : Int)] 5)) (w.heap.size + 2) v i 1 Aes.sb (fun _ => Aes.sb i) ⟨wr.heap.size, 0, none⟩ 1 (h3.drew.alloc _) (OR.one wr.drew (Aes.sb i)) (by omega) (by simp; omega)
  have c1 : CB w' w.heap.size nil8 nil8 := ((h1.drew).alloc _).below hb (by omega)
  have c2 : CB w' (w.heap.size + 1) nil8 v := ((h2.drew).alloc _).below hb (by omega)
  have hb' : Below w.heap.size w w' := (h0.drew.alloc (by have := h0.size; simpa using this) _).trans (hb.mono (by omega))
  obtain ⟨g, c, rfl, _, _, _, _⟩ := ho.read (by omega)
  refine ⟨g, c, w', hr, c2.cell1, c2.frozen 1, hb'.setCell (by simp) _, c1.far (by simp) _, c2.set1 _, ?_⟩
  refine OR.congr (ho.set (by simp) _) fun j hj => ?_
  unfold thenB
  split
  · rfl
  · rw [show j = i by omega]
abbrev sl8 (g n c : Nat) : Value := .slice (some ⟨g, 0, none⟩) n c
/-- The keys' first n bytes are made. -/
def RK (w : World) (key : Nat → Nat) (n g c gb cb : Nat) (wr : World) : Prop :=
  Below w.heap.size w wr ∧ CB wr w.heap.size nil8 nil8 ∧ CB wr (w.heap.size + 1) (sl8 g n c) (sl8 gb 256 cb) ∧ OR wr (w.heap.size + 2) (sl8 g n c) n (Aes.ks key) ∧ AtB wr ⟨gb, 0, none⟩ 256 Aes.sb ∧ w.heap.size + 2 ≤ gb ∧ gb < wr.heap.size ∧ gb ≠ g ∧ 256 ≤ cb ∧ cb ≤ maxLen
theorem RN1.keys {w wr : World} {v : Value} {key : Nat → Nat} {g0 c0 : Nat} (h : RN1 w 256 v wr) (hA : AtB w ⟨g0, 0, none⟩ 16 key) :
    ∃ gb cb, v = sl8 gb 256 cb ∧ ∃ g c w', (Builtin.append_ #[32, 32] 32 #[nil8, .slice (some ⟨g0, 0, none⟩) 16 c0]).run Tryd.prog wr.drew = .ok (sl8 g 16 c) w' ∧
      w'.cell? ⟨w.heap.size + 1, 0, none⟩ = some nil8 ∧ w'.frozen? ⟨w.heap.size + 1, 0, none⟩ = false ∧ RK w key 16 g c gb cb (w'.setCell ⟨w.heap.size + 1, 0, none⟩ (sl8 g 16 c)) := by
  obtain ⟨h0, h1, h2, h3⟩ := h
  have hl := h2.lt
  have hg0 : g0 < w.heap.size := by have := World.block_lt_of_cell? _ _ (hA 0 (by omega)); simpa [Addr.add] using this
  have hA' : AtB wr.drew ⟨g0, 0, none⟩ 16 key := AtB.below hA h0.drew
  obtain ⟨gb, cb, rfl, hgb, hcb, hcm, hB⟩ := h3.read (by omega)
  have hgl := (OR.lt h3).2.1
  obtain ⟨g, c, w', hr, ho, hb, rfl⟩ := append_nil wr.drew (w.heap.size + 2) 16 key ⟨g0, 0, none⟩ c0 hA' (by omega) (by omega) (by simp; omega)
  have c1 : CB w' w.heap.size nil8 nil8 := h1.drew.below hb (by simp; omega)
  have c2 : CB w' (w.heap.size + 1) nil8 (sl8 gb 256 cb) := h2.drew.below hb (by simp; omega)
  have b1 : Below w.heap.size w w' := h0.drew.trans (hb.mono (by have := h0.size; simpa using this))
  have hB' : AtB w' ⟨gb, 0, none⟩ 256 Aes.sb := AtB.below (w := wr.drew) hB hb
  refine ⟨gb, cb, rfl, _, c, w', hr, c2.cell0, c2.frozen 0, b1.setCell (by simp) _, c1.far (by simp) _, c2.set0 _, ?_, ?_, hgb, ?_, ?_, hcb, hcm⟩
  · exact OR.congr (ho.set (by simp) _) fun j hj => (Aes.ks_lo key j hj).symm
  · intro j hj
    rw [World.cell?_setCell_other _ _ _ _ (fun e => by have := congrArg Addr.block e; simp [Addr.add_mid] at this; omega)]
    exact hB' j hj
  · have := hb.size; simp at this ⊢; omega
  · simp; omega
theorem OR.empty (w : World) (f : Nat → Nat) : OR (w.alloc (.cells #[] 5)) w.heap.size (sl8 w.heap.size 0 0) 0 f := by
  refine ⟨by simp [bys_size], .inr ⟨w.heap.size, 0, #[], rfl, Nat.le_refl _, heap_alloc_new w _, Nat.le_refl _, Nat.zero_le _, rfl, ?_⟩⟩
  simp [bys]
theorem OR.keep {w w' : World} {base g n c d : Nat} {f : Nat → Nat} (h : OR w base (sl8 g n c) n f) (hk : Keep d w w') (hg : g ≠ d) : OR w' base (sl8 g n c) n f := by
  have hl := (OR.lt h).2.1
  refine ⟨h.1, ?_⟩
  rcases h.2 with hx | ⟨g', cap, cur, hv, hb, hh, r⟩
  · exact .inl hx
  · refine .inr ⟨g', cap, cur, hv, hb, ?_, r⟩
    injection hv with e1 _ _
    injection e1 with e1
    injection e1 with e1
    subst e1
    rw [hk.block _ hl hg]; exact hh
/-- .. and t lies in block gt. -/
def RT (w : World) (key : Nat → Nat) (n g c gb cb gt ct : Nat) (tf : Nat → Nat) (wr : World) : Prop :=
  RK w key n g c gb cb wr ∧ AtB wr ⟨gt, 0, none⟩ 4 tf ∧ gt ≠ g ∧ gt ≠ gb ∧ w.heap.size + 2 ≤ gt ∧ gt < wr.heap.size ∧ 4 ≤ ct ∧ ct ≤ maxLen
theorem RK.keep {w wr w' : World} {key : Nat → Nat} {n g c gb cb d : Nat} (h : RK w key n g c gb cb wr) (hk : Keep d wr w') (hd : wr.heap.size ≤ d) : RK w key n g c gb cb w' := by
  obtain ⟨h0, h1, h2, h3, h4, h5, h6, h7, h8⟩ := h
  have hg := (OR.lt h3).2.1
  have l2 := h2.lt
  exact ⟨hk.below h0 (by omega) (by omega), h1.keep hk (by omega), h2.keep hk (by omega), h3.keep hk (by omega), hk.atB h4 (by simp; omega), h5, by have := hk.size; omega, h7, h8⟩
theorem RK.keep' {w wr w' : World} {key : Nat → Nat} {n g c gb cb d : Nat} (h : RK w key n g c gb cb wr) (hk : Keep d wr w') (h1' : d ≠ g) (h2' : d ≠ gb) (h3' : w.heap.size + 1 < d) (hs : w.heap.size + 1 < wr.heap.size) : RK w key n g c gb cb w' := by
  obtain ⟨h0, h1, h2, h3, h4, h5, h6, h7, h8⟩ := h
  exact ⟨hk.below h0 (by omega) (by omega), h1.keep hk (by omega), h2.keep hk (by omega), h3.keep hk (by omega), hk.atB h4 (by simp; omega), h5, by have := hk.size; omega, h7, h8⟩
theorem RK.alloc {w wr : World} {key : Nat → Nat} {n g c gb cb : Nat} (h : RK w key n g c gb cb wr) (o : Obj) : RK w key n g c gb cb (wr.alloc o) := by
  obtain ⟨h0, h1, h2, h3, h4, h5, h6, h7, h8⟩ := h
  exact ⟨h0.alloc h0.size o, h1.alloc o, h2.alloc o, h3.alloc o, AtB.below h4 ((Below.refl _ _).alloc (Nat.le_refl _) _), h5, by simp; omega, h7, h8⟩
theorem RK.drew {w wr : World} {key : Nat → Nat} {n g c gb cb : Nat} (h : RK w key n g c gb cb wr) : RK w key n g c gb cb wr.drew := by
  obtain ⟨h0, h1, h2, h3, h4, h5, h6, h7, h8⟩ := h
  exact ⟨h0.drew, h1, h2, h3.drew, h4, h5, h6, h7, h8⟩
theorem RK.copied {w wr : World} {key : Nat → Nat} {i g c gb cb d : Nat} (h : RK w key (4 * i) g c gb cb wr) (hi : 4 ≤ i) :
    ∃ gt ct w', (Builtin.append_ #[32, 32] 32 #[sl8 wr.heap.size 0 0, .slice (some ⟨g, 4 * i - 4, none⟩) (4 * i - (4 * i - 4)) d]).run Tryd.prog (wr.alloc (.cells #[] 5)) = .ok (sl8 gt 4 ct) w' ∧ RT w key (4 * i) g c gb cb gt ct (fun j => Aes.ks key (4 * i - 4 + j)) w' := by
  rw [show 4 * i - (4 * i - 4) = 4 by omega]
  have h3 := h.2.2.2.1
  have hg := OR.lt h3
  have hA : AtB (wr.alloc (.cells #[] 5)) ⟨g, 4 * i - 4, none⟩ 4 (fun j => Aes.ks key (4 * i - 4 + j)) := by
    have := AtB.sub (AtB.below hg.2.2.2.2 ((Below.refl _ _).alloc (Nat.le_refl _) (.cells #[] 5))) (4 * i - 4) 4 (by omega)
    rwa [Nat.zero_add] at this
  obtain ⟨gt, ct, w', hr, ho, hk, hgt, _⟩ := append_at (wr.alloc (.cells #[] 5)) wr.heap.size wr.heap.size 0 0 4 (fun _ => 0) _ _ d (OR.empty wr _) hA (by omega) (by simp)
  have hl := OR.lt ho
  simp only [World.size_alloc] at hgt
  have h5 := h.2.2.2.2.2.1
  have h6 := h.2.2.2.2.2.2.1
  have l2 := h.2.2.1.lt
  refine ⟨gt, ct, w', hr, (h.alloc _).keep' hk (by omega) (by omega) (by omega) (by simp; omega), ?_, by omega, by omega, by omega, hl.2.1, hl.2.2.1, hl.2.2.2.1⟩
  refine AtB.congr hl.2.2.2.2 fun j hj => ?_
  unfold thenB; rw [if_neg (by omega), Nat.sub_zero]
theorem RT.drew {w wr : World} {key tf : Nat → Nat} {n g c gb cb gt ct : Nat} (h : RT w key n g c gb cb gt ct tf wr) : RT w key n g c gb cb gt ct tf wr.drew := ⟨h.1.drew, h.2⟩
theorem RT.app {w wr : World} {key tf : Nat → Nat} {i r g c gb cb gt ct : Nat} {X : Int} (h : RT w key (4 * i + r) g c gb cb gt ct tf wr) (hi : 4 ≤ i ∧ i < 44) (hr4 : r < 4) (hX : X = (Aes.ks key (4 * i + r) : Int)) :
    ∃ g' c' w', (Builtin.append_ #[32, 32] 32 #[sl8 g (4 * i + r) c, .slice (some ⟨wr.heap.size, 0, none⟩) 1 1]).run Tryd.prog (wr.drew.alloc (.cells #[.int .u8 X] 5)) = .ok (sl8 g' (4 * i + r + 1) c') w' ∧
      w'.cell? ⟨w.heap.size + 1, 0, none⟩ = some (sl8 g (4 * i + r) c) ∧ w'.frozen? ⟨w.heap.size + 1, 0, none⟩ = false ∧ (∀ q, q < 4 * i + r → w'.cell? ⟨g, q, none⟩ = some (.int .u8 (Aes.ks key q : Int))) ∧ w'.cell? ⟨gt, r, none⟩ = some (.int .u8 (tf r : Int)) ∧ RT w key (4 * i + (r + 1)) g' c' gb cb gt ct tf (w'.setCell ⟨w.heap.size + 1, 0, none⟩ (sl8 g' (4 * i + r + 1) c')) := by
  subst hX
  obtain ⟨⟨h0, h1, h2, h3, h4, h5, h6, h7, h8⟩, t1, t2, t3, t4, t5, t6⟩ := h
  have hg := OR.lt h3
  have l2 := h2.lt
  have hA := OR.one wr.drew (Aes.ks key (4 * i + r))
  obtain ⟨g', c', w', hr, ho, hk, hgt, hold⟩ := append_at (wr.drew.alloc (.cells #[.int .u8 (Aes.ks key (4 * i + r) : Int)] 5)) (w.heap.size + 2) g c (4 * i + r) 1 (Aes.ks key) _ ⟨wr.heap.size, 0, none⟩ 1 (h3.drew.alloc _) hA (by omega) (by simp; omega)
  simp only [World.size_alloc, World.size_drew] at hgt
  have c1 : CB w' w.heap.size nil8 nil8 := (h1.drew.alloc _).keep hk (by omega)
  have c2 : CB w' (w.heap.size + 1) (sl8 g (4 * i + r) c) (sl8 gb 256 cb) := (h2.drew.alloc _).keep hk (by omega)
  have b1 : Below w.heap.size w w' := hk.below (h0.drew.alloc (by have := h0.size; simpa using this) _) (by omega) (by have := h0.size; simp; omega)
  have far : ∀ (ad : Addr) (n : Nat) (f : Nat → Nat), ad.block ≠ w.heap.size + 1 → ad.block ≠ g → AtB wr ad n f → AtB (w'.setCell ⟨w.heap.size + 1, 0, none⟩ (sl8 g' (4 * i + r + 1) c')) ad n f := fun ad n f e1 e2 ha j hj => by
    have ha' : AtB (wr.drew.alloc (.cells #[.int .u8 (Aes.ks key (4 * i + r) : Int)] 5)) ad n f := AtB.below (w := wr.drew) ha ((Below.refl _ _).alloc (Nat.le_refl _) _)
    have hb : (ad.add j).block = ad.block := by unfold Addr.add; split <;> rfl
    rw [World.cell?_setCell_other _ _ _ _ (fun e => e1 (by rw [← hb, ← e]))]
    exact hk.atB ha' e2 j hj
  have hs' := hk.size
  simp at hs'
  have ht' : AtB w' ⟨gt, 0, none⟩ 4 tf := hk.atB (AtB.below (w := wr.drew) t1 ((Below.refl _ _).alloc (Nat.le_refl _) _)) (by simp; omega)
  refine ⟨g', c', w', hr, c2.cell0, c2.frozen 0, hold, by have := AtB.cell ht' r hr4; rwa [Nat.zero_add] at this, ⟨b1.setCell (by simp) _, c1.far (by simp) _, ?_, ?_, far _ _ _ (by simp; omega) (by simp; omega) h4, h5, ?_, ?_, h8⟩, far _ _ _ (by simp; omega) (by simp; omega) t1, ?_, t3, t4, ?_, t6⟩
  · have := c2.set0 (sl8 g' (4 * i + r + 1) c')
    rw [show 4 * i + (r + 1) = 4 * i + r + 1 by omega]
    exact this
  · rw [show 4 * i + (r + 1) = 4 * i + r + 1 by omega]
    refine OR.congr (ho.set (by simp) _) fun j hj => ?_
    unfold thenB
    split
    · rfl
    · rw [show j = 4 * i + r by omega]
  · simp; omega
  · omega
  · omega
  · simp; omega
theorem ks_next (key : Nat → Nat) (i r : Nat) (hi : 4 ≤ i) (hr : r < 4) (tf : Nat → Nat) (htf : tf r = if i % 4 = 0 then Aes.sb (Aes.ks key (4 * i - 4 + (r + 1) % 4)) ^^^ (if r = 0 then Aes.pw (i / 4 - 1) else 0) else Aes.ks key (4 * i - 4 + r)) : Aes.ks key (4 * i - 16 + r) ^^^ tf r = Aes.ks key (4 * i + r) := by
  rw [Aes.ks_hi key (4 * i + r) (by omega), htf, show 4 * i + r - 16 = 4 * i - 16 + r by omega, show (4 * i + r) / 4 = i by omega, show (4 * i + r) % 4 = r by omega, show 4 * (i - 1) = 4 * i - 4 by omega, show 4 * i + r - 4 = 4 * i - 4 + r by omega]
theorem times_two (a : Nat) (w : World) (ha : a < 256) :
    Calls Tryd.prog 24 #[.int .u8 (a : Int), .int .u8 2] w fun e w' => e = .returned (.int .u8 (Aes.xt a : Int)) ∧ w = w' :=
  (times_any a 2 w ha (by omega)).mono fun _ _ ⟨h, hw⟩ => ⟨by rw [h, Aes.tm_two a ha], hw⟩
theorem RT.fresh {w w1 : World} {key tf0 : Nat → Nat} {i g c gb cb gt ct k0 k1 k2 k3 : Nat} (h : RT w key (4 * i) g c gb cb gt ct tf0 w1) (hi : 4 ≤ i) (h0 : i % 4 = 0)
    (e : Aes.ks key (4 * i - 4) = k0 ∧ Aes.ks key (4 * i - 4 + 1) = k1 ∧ Aes.ks key (4 * i - 4 + 2) = k2 ∧ Aes.ks key (4 * i - 4 + 3) = k3) :
    ∃ tf : Nat → Nat, ((∀ r, tf r < 256) ∧ ∀ r, tf r = Aes.sb (Aes.ks key (4 * i - 4 + (r + 1) % 4)) ^^^ (if r = 0 then Aes.pw (i / 4 - 1) else 0)) ∧
      RT w key (4 * i) g c gb cb w1.heap.size 4 tf (w1.drew.alloc (.cells #[.int .u8 (bits .xor .u8 (Aes.sb k1 : Int) (Aes.pw ((i - 1) / 4) : Int)), .int .u8 (Aes.sb k2 : Int), .int .u8 (Aes.sb k3 : Int), .int .u8 (Aes.sb k0 : Int)] 5)) := by
  obtain ⟨rfl, rfl, rfl, rfl⟩ := e
  obtain ⟨h1, _⟩ := h
  have hg := (OR.lt h1.2.2.2.1).2.1
  have h6 := h1.2.2.2.2.2.2.1
  have l2 := h1.2.2.1.lt
  refine ⟨fun r => Aes.sb (Aes.ks key (4 * i - 4 + (r + 1) % 4)) ^^^ (if r = 0 then Aes.pw (i / 4 - 1) else 0), ⟨fun r => Aes.byte_xor (Aes.sb_lt _) (by split; exact Aes.pw_lt _; omega), fun r => rfl⟩, h1.drew.alloc _, ?_, by omega, by omega, by omega, by simp, by omega, by decide⟩
  rw [bits8_xor _ _ (Aes.sb_lt _) (Aes.pw_lt _), show (i - 1) / 4 = i / 4 - 1 by omega]
  intro r hr
  rw [Addr.add_mid, Nat.zero_add]
  have hb := heap_alloc_new w1.drew (.cells #[.int .u8 ((Aes.sb (Aes.ks key (4 * i - 4 + 1)) ^^^ Aes.pw (i / 4 - 1) : Nat) : Int), .int .u8 (Aes.sb (Aes.ks key (4 * i - 4 + 2)) : Int), .int .u8 (Aes.sb (Aes.ks key (4 * i - 4 + 3)) : Int), .int .u8 (Aes.sb (Aes.ks key (4 * i - 4)) : Int)] 5)
  rw [cell_of_row _ w1.heap.size r _ 5 (0, 0) hb]
  rcases (show r = 0 ∨ r = 1 ∨ r = 2 ∨ r = 3 by omega) with rfl | rfl | rfl | rfl
  · simp
  · simp
  · simp
  · simp
/-- A cipher of the document's own. -/
def RCi (w : World) (key : Nat → Nat) (g c gb cb : Nat) : Prop := AtB w ⟨g, 0, none⟩ 176 (Aes.ks key) ∧ AtB w ⟨gb, 0, none⟩ 256 Aes.sb ∧ 176 ≤ c ∧ c ≤ maxLen ∧ 256 ≤ cb ∧ cb ≤ maxLen
abbrev rci (g c gb cb : Nat) : Value := .agg #[sl8 g 176 c, sl8 gb 256 cb]
def RNewE (w : World) (key : Nat → Nat) (e : Ending) (w' : World) : Prop := ∃ g c gb cb, e = .returned (rci g c gb cb) ∧ RCi w' key g c gb cb ∧ Below w.heap.size w w'
theorem infoRC : (Tryd.prog.info? 53).map (·.size) = some 2 := by kernel_rfl
theorem RK.ends {w wr : World} {key : Nat → Nat} {g c gb cb : Nat} (h : RK w key 176 g c gb cb wr) :
    CB ((wr.setCell ⟨w.heap.size, 0, none⟩ (sl8 g 176 c)).setCell ⟨w.heap.size, 1, none⟩ (sl8 gb 256 cb)) w.heap.size (sl8 g 176 c) (sl8 gb 256 cb) ∧ RCi ((wr.setCell ⟨w.heap.size, 0, none⟩ (sl8 g 176 c)).setCell ⟨w.heap.size, 1, none⟩ (sl8 gb 256 cb)) key g c gb cb ∧
      Below w.heap.size w ((wr.setCell ⟨w.heap.size, 0, none⟩ (sl8 g 176 c)).setCell ⟨w.heap.size, 1, none⟩ (sl8 gb 256 cb)) := by
  obtain ⟨h0, h1, h2, h3, h4, h5, h6, h7, h8⟩ := h
  have hg := OR.lt h3
  have far : ∀ (b n : Nat) (f : Nat → Nat), b ≠ w.heap.size → AtB wr ⟨b, 0, none⟩ n f → AtB ((wr.setCell ⟨w.heap.size, 0, none⟩ (sl8 g 176 c)).setCell ⟨w.heap.size, 1, none⟩ (sl8 gb 256 cb)) ⟨b, 0, none⟩ n f := fun b n f hb ha j hj => by
    have ne : ∀ o, (⟨w.heap.size, o, none⟩ : Addr) ≠ (⟨b, 0, none⟩ : Addr).add j := fun o e => by
      rw [Addr.add_mid] at e
      injection e with e1
      exact hb e1.symm
    rw [World.cell?_setCell_other _ _ _ _ (ne 1), World.cell?_setCell_other _ _ _ _ (ne 0)]
    exact ha j hj
  exact ⟨(h1.set0 _).set1 _, ⟨far _ _ _ (by omega) hg.2.2.2.2, far _ _ _ (by omega) h4, hg.2.2.1, hg.2.2.2.1, h8.1, h8.2⟩, (h0.setCell (Nat.le_refl _) _).setCell (Nat.le_refl _) _⟩
set_option maxHeartbeats 8000000 in
set_option maxRecDepth 100000 in
theorem rnew_any (key : Nat → Nat) (g0 : Nat) (c0 : Nat) (w : World) (hk : ∀ i, key i < 256) (hA : AtB w ⟨g0, 0, none⟩ 16 key) (hc : 16 ≤ c0 ∧ c0 ≤ maxLen) :
    Calls Tryd.prog 17 #[.slice (some ⟨g0, 0, none⟩) 16 c0] w (RNewE w key) := by
  have HA := Lib.hid hA
  have HK := Lib.hid hk
  clear hA hk
  go_enter Tryd.func17, Tryd.ntmps17
  go_wp2
  go_loopw [4] (fun t wr => ∃ i v, i ≤ 256 ∧ t = .int .i64 (i : Nat) ∧ Hid (RN1 w i v wr)) (fun t _ => 256 - (intOf t).toNat)
  case atStart => exact ⟨0, nil8, by omega, rfl, RN1.start w⟩
  case round =>
    obtain ⟨i, v, hi, rfl, HR⟩ := hrel
    by_cases hlt : i < 256
    · have c1 := HR.out.2.2.1.cell1
      have hsz : w.heap.size + 1 < wr.heap.size := HR.out.2.2.1.lt
      have z1 : IntKind.u8.wrap (i : Int) = (i : Int) := by rw [u8w]; omega
      obtain ⟨g', c', w', hr, c2, c3, hR⟩ := RN1.step HR.out hlt
      have HQ := Lib.hid hr
      have HN := Lib.hid hR
      clear hr hR
      go_wp2
      go_region_law (first | (refine step_append_eq rfl _ _ 32 rfl _ _ _ w' rfl rfl HQ.out ?_) | (go_simp; go_at_call 23; refine (s_any i _ hlt).mono ?_; rintro e w2 ⟨rfl, rfl⟩))
      all_goals
        go_wp2
        go_roundw
        case rel => exact ⟨i + 1, _, by omega, by go_num, HN⟩
        case measure => simp [intOf]; omega
    · obtain rfl : i = 256 := by omega
      obtain ⟨gb, cb, rfl, g, c, w', hr, c2, c3, hR⟩ := RN1.keys (c0 := c0) HR.out HA.out
      have c1 := HR.out.2.2.1.cell0
      have HQ := Lib.hid hr
      have HN := Lib.hid hR
      have hc1 : (16 : Int) ≤ (c0 : Int) := by omega
      clear hr hR HR
      go_wp2
      go_region_law (first | (refine step_append_eq rfl _ _ 32 rfl _ _ _ w' rfl rfl HQ.out ?_))
      go_wp2
      go_loopw [5, 6] (fun p t wr => ∃ i g c gb cb : Nat, (4 ≤ i ∧ i ≤ 44) ∧ t = .int .i64 i ∧ p = .int .u8 (Aes.pw ((i - 1) / 4) : Int) ∧ Hid (RK w key (4 * i) g c gb cb wr)) (fun _ t _ => 44 - (intOf t).toNat)
      case atStart => exact ⟨4, g, c, gb, cb, by omega, rfl, rfl, HN⟩
      case round =>
        clear HN HQ c1 c2 c3
        obtain ⟨i, g, c, gb, cb, hi, rfl, rfl, HR⟩ := hrel
        by_cases hlt : i < 44
        · have c1 := HR.out.2.2.1.cell0
          have hsz : w.heap.size + 1 < wr.heap.size := HR.out.2.2.1.lt
          have hg := OR.lt HR.out.2.2.2.1
          have hcm := hg.2.2.2.1
          have hcn := hg.2.2.1
          unfold maxLen at hcm
          clear hg
          obtain ⟨gt, ct, w1, hr, hT⟩ := RK.copied (d := c - (4 * i - 4)) HR.out hi.1
          have HQ := Lib.hid hr
          have HT := Lib.hid hT
          clear hr hT
          by_cases h0 : i % 4 = 0
          · have h0' : ((i : Int) % 4 == 0) = true := by simp; omega
            go_wp2_with (at_builtin; refine wpList_append_run rfl _ _ 32 rfl _ _ _ w1 rfl rfl HQ.out ?_)
            clear HQ c1 hcm hcn hsz
            have t0 := HT.out.2.1
            have u0 : w1.cell? ⟨gt, 0, none⟩ = some (.int .u8 (Aes.ks key (4 * i - 4) : Int)) := AtB.cell t0 0 (by omega)
            have u1 : w1.cell? ⟨gt, 1, none⟩ = some (.int .u8 (Aes.ks key (4 * i - 4 + 1) : Int)) := AtB.cell t0 1 (by omega)
            have u2 : w1.cell? ⟨gt, 2, none⟩ = some (.int .u8 (Aes.ks key (4 * i - 4 + 2) : Int)) := AtB.cell t0 2 (by omega)
            have u3 : w1.cell? ⟨gt, 3, none⟩ = some (.int .u8 (Aes.ks key (4 * i - 4 + 3) : Int)) := AtB.cell t0 3 (by omega)
            have b0 := Aes.ks_lt key HK.out (4 * i - 4)
            have b1 := Aes.ks_lt key HK.out (4 * i - 4 + 1)
            have b2 := Aes.ks_lt key HK.out (4 * i - 4 + 2)
            have b3 := Aes.ks_lt key HK.out (4 * i - 4 + 3)
            have HKS := Lib.hid (show ∃ k0 k1 k2 k3 : Nat, Aes.ks key (4 * i - 4) = k0 ∧ Aes.ks key (4 * i - 4 + 1) = k1 ∧ Aes.ks key (4 * i - 4 + 2) = k2 ∧ Aes.ks key (4 * i - 4 + 3) = k3 from ⟨_, _, _, _, rfl, rfl, rfl, rfl⟩)
            obtain ⟨k0, k1, k2, k3, e0, e1, e2, e3⟩ := HKS.out
            rw [e0] at u0 b0
            rw [e1] at u1 b1
            rw [e2] at u2 b2
            rw [e3] at u3 b3
            have HKE := Lib.hid (And.intro e0 (And.intro e1 (And.intro e2 e3)))
            clear e0 e1 e2 e3 HKS t0
            have hB := HT.out.1.2.2.2.2.1
            have y0 : w1.cell? ⟨gb, k0, none⟩ = some (.int .u8 (Aes.sb k0 : Int)) := by have := AtB.cell hB k0 b0; rwa [Nat.zero_add] at this
            have y1 : w1.cell? ⟨gb, k1, none⟩ = some (.int .u8 (Aes.sb k1 : Int)) := by have := AtB.cell hB k1 b1; rwa [Nat.zero_add] at this
            have y2 : w1.cell? ⟨gb, k2, none⟩ = some (.int .u8 (Aes.sb k2 : Int)) := by have := AtB.cell hB k2 b2; rwa [Nat.zero_add] at this
            have y3 : w1.cell? ⟨gb, k3, none⟩ = some (.int .u8 (Aes.sb k3 : Int)) := by have := AtB.cell hB k3 b3; rwa [Nat.zero_add] at this
            have cb1 := HT.out.1.2.2.1.cell1
            have i0 : (k0 : Int) < 256 := by omega
            have i1 : (k1 : Int) < 256 := by omega
            have i2 : (k2 : Int) < 256 := by omega
            have i3 : (k3 : Int) < 256 := by omega
            clear hB b0 b1 b2 b3
            go_still_tail 30, (by kernel_rfl)
            change wpList _ _ _ _ _ w1.drew
            have hpl := Aes.pw_lt ((i - 1) / 4)
            go_wp2_with (go_at_call 24; refine (times_two _ _ hpl).mono ?_; rintro e w2 ⟨rfl, rfl⟩)
            clear u0 u1 u2 u3 y0 y1 y2 y3 cb1 i0 i1 i2 i3 hpl
            obtain ⟨tf, htf, HT2⟩ := RT.fresh HT.out hi.1 h0 HKE.out
            have HTF := Lib.hid htf
            have HT3 := Lib.hid HT2
            clear HT HT2 htf HKE
            generalize w1.heap.size = gt2 at HT3 ⊢
            have HT := HT3
            clear HT3
            go_loopw [8] (fun t w3 => ∃ r g c : Nat, r ≤ 4 ∧ t = .int .i64 r ∧ Hid (RT w key (4 * i + r) g c gb cb gt2 4 tf w3)) (fun t _ => 4 - (intOf t).toNat)
            case atStart => exact ⟨0, g, c, by omega, rfl, HT⟩
            case round =>
              clear HT
              obtain ⟨r, g, c, hr, rfl, HT⟩ := hrel
              by_cases hlr : r < 4
              · obtain ⟨q, hq⟩ : ∃ q, q = 4 * i - 16 + r := ⟨_, rfl⟩
                have hg := OR.lt HT.out.1.2.2.2.1
                have hsz : w.heap.size + 1 < wr.heap.size := HT.out.1.2.2.1.lt
                have c1 := HT.out.1.2.2.1.cell0
                have c4 : wr.cell? ⟨g, q, none⟩ = some (.int .u8 (Aes.ks key q : Int)) := by have := AtB.cell hg.2.2.2.2 q (by omega); rwa [Nat.zero_add] at this
                have c5 : wr.cell? ⟨gt2, r, none⟩ = some (.int .u8 (tf r : Int)) := by have := AtB.cell HT.out.2.1 r hlr; rwa [Nat.zero_add] at this
                have hX : bits .xor .u8 (Aes.ks key q : Int) (tf r : Int) = (Aes.ks key (4 * i + r) : Int) := by
                  rw [bits8_xor _ _ (Aes.ks_lt key HK.out _) (HTF.out.1 r), hq]
                  exact congrArg _ (ks_next key i r hi.1 hlr tf (by rw [if_pos h0]; exact HTF.out.2 r))
                obtain ⟨g', c', w', hr', c2, c3, c6, c7, hR⟩ := RT.app HT.out ⟨hi.1, hlt⟩ hlr hX
                have c6' := c6 q (by omega)
                have e1 : IntKind.i64.wrap (4 * (i : Int)) = 4 * (i : Int) := i64_nat _ (by omega) (by omega)
                have e2 : IntKind.i64.wrap (4 * (i : Int) - 16) = 4 * (i : Int) - 16 := i64_nat _ (by omega) (by omega)
                have e3 : IntKind.i64.wrap (4 * (i : Int) - 16 + (r : Int)) = (q : Int) := by rw [i64_nat _ (by omega) (by omega)]; omega
                have e4 : (q : Int) < 4 * (i : Int) + (r : Int) := by omega
                have e5 : (r : Int) < 4 := by omega
                have HQ := Lib.hid hr'
                have HN := Lib.hid hR
                have HX := Lib.hid (And.intro hq hX)
                have hgl : g < wr.heap.size := hg.2.1
                have hgt : gt2 < wr.heap.size := HT.out.2.2.2.2.2.1
                clear hr' hR HT hg hq hX c6
                go_wp2
                refine region_z 19 (fun w' => w'.cell? ⟨w.heap.size + 1, 0, none⟩ = some (sl8 g (4 * i + r) c) ∧ w'.cell? ⟨g, q, none⟩ = some (.int .u8 (Aes.ks key q : Int)) ∧ w'.cell? ⟨gt2, r, none⟩ = some (.int .u8 (tf r : Int))) (by kernel_rfl) ?_
                have hS : wr.drew.cell? ⟨w.heap.size + 1, 0, none⟩ = some (sl8 g (4 * i + r) c) ∧ wr.drew.cell? ⟨g, q, none⟩ = some (.int .u8 (Aes.ks key q : Int)) ∧ wr.drew.cell? ⟨gt2, r, none⟩ = some (.int .u8 (tf r : Int)) := ⟨c1, c4, c5⟩
                refine zt (i := 0) rfl (.pointer (some ⟨w.heap.size + 1, 0, none⟩)) (by kernel_rfl) (by kernel_rfl) (by kernel_rfl) (by kernel_rfl) (fun _ _ _ h => h) hS (fun w' ⟨d1, d2, d3⟩ => by go_simp) ?_
                simp only [Act.put, List.setIfInBounds_toArray, List.set_cons_zero, List.set_cons_succ]
                refine zt (i := 1) rfl (sl8 g (4 * i + r) c) (by kernel_rfl) (by kernel_rfl) (by kernel_rfl) (by kernel_rfl) (fun _ _ _ h => h) hS (fun w' ⟨d1, d2, d3⟩ => by go_simp) ?_
                simp only [Act.put, List.setIfInBounds_toArray, List.set_cons_zero, List.set_cons_succ]
                refine zt (i := 2) rfl (.pointer (some ⟨w.heap.size + 1, 0, none⟩)) (by kernel_rfl) (by kernel_rfl) (by kernel_rfl) (by kernel_rfl) (fun _ _ _ h => h) hS (fun w' ⟨d1, d2, d3⟩ => by go_simp) ?_
                simp only [Act.put, List.setIfInBounds_toArray, List.set_cons_zero, List.set_cons_succ]
                refine zt (i := 3) rfl (sl8 g (4 * i + r) c) (by kernel_rfl) (by kernel_rfl) (by kernel_rfl) (by kernel_rfl) (fun _ _ _ h => h) hS (fun w' ⟨d1, d2, d3⟩ => by go_simp) ?_
                simp only [Act.put, List.setIfInBounds_toArray, List.set_cons_zero, List.set_cons_succ]
                refine zt (i := 4) rfl (.int .i64 (i : Int)) (by kernel_rfl) (by kernel_rfl) (by kernel_rfl) (by kernel_rfl) (fun _ _ _ h => h) hS (fun w' ⟨d1, d2, d3⟩ => by go_simp) ?_
                simp only [Act.put, List.setIfInBounds_toArray, List.set_cons_zero, List.set_cons_succ]
                refine zt (i := 5) rfl (.int .i64 (4 * (i : Int))) (by kernel_rfl) (by kernel_rfl) (by kernel_rfl) (by kernel_rfl) (fun _ _ _ h => h) hS (fun w' ⟨d1, d2, d3⟩ => by go_simp) ?_
                simp only [Act.put, List.setIfInBounds_toArray, List.set_cons_zero, List.set_cons_succ]
                refine zt (i := 6) rfl (.int .i64 (4 * (i : Int) - 16)) (by kernel_rfl) (by kernel_rfl) (by kernel_rfl) (by kernel_rfl) (fun _ _ _ h => h) hS (fun w' ⟨d1, d2, d3⟩ => by go_simp) ?_
                simp only [Act.put, List.setIfInBounds_toArray, List.set_cons_zero, List.set_cons_succ]
                refine zt (i := 7) rfl (.int .i64 (r : Int)) (by kernel_rfl) (by kernel_rfl) (by kernel_rfl) (by kernel_rfl) (fun _ _ _ h => h) hS (fun w' ⟨d1, d2, d3⟩ => by go_simp) ?_
                simp only [Act.put, List.setIfInBounds_toArray, List.set_cons_zero, List.set_cons_succ]
                refine zt (i := 8) rfl (.int .i64 (q : Int)) (by kernel_rfl) (by kernel_rfl) (by kernel_rfl) (by kernel_rfl) (fun _ _ _ h => h) hS (fun w' ⟨d1, d2, d3⟩ => by go_simp) ?_
                simp only [Act.put, List.setIfInBounds_toArray, List.set_cons_zero, List.set_cons_succ]
                refine zt (i := 9) rfl (.pointer (some ⟨g, q, none⟩)) (by kernel_rfl) (by kernel_rfl) (by kernel_rfl) (by kernel_rfl) (fun _ _ _ h => h) hS (fun w' ⟨d1, d2, d3⟩ => by go_simp) ?_
                simp only [Act.put, List.setIfInBounds_toArray, List.set_cons_zero, List.set_cons_succ]
                refine zt (i := 10) rfl (.int .u8 (Aes.ks key q : Int)) (by kernel_rfl) (by kernel_rfl) (by kernel_rfl) (by kernel_rfl) (fun _ _ _ h => h) hS (fun w' ⟨d1, d2, d3⟩ => by go_simp) ?_
                simp only [Act.put, List.setIfInBounds_toArray, List.set_cons_zero, List.set_cons_succ]
                refine zt (i := 11) rfl (sl8 gt2 4 4) (by kernel_rfl) (by kernel_rfl) (by kernel_rfl) (by kernel_rfl) (fun _ _ _ h => h) hS (fun w' ⟨d1, d2, d3⟩ => by go_simp) ?_
                simp only [Act.put, List.setIfInBounds_toArray, List.set_cons_zero, List.set_cons_succ]
                refine zt (i := 12) rfl (.int .i64 (r : Int)) (by kernel_rfl) (by kernel_rfl) (by kernel_rfl) (by kernel_rfl) (fun _ _ _ h => h) hS (fun w' ⟨d1, d2, d3⟩ => by go_simp) ?_
                simp only [Act.put, List.setIfInBounds_toArray, List.set_cons_zero, List.set_cons_succ]
                refine zt (i := 13) rfl (.pointer (some ⟨gt2, r, none⟩)) (by kernel_rfl) (by kernel_rfl) (by kernel_rfl) (by kernel_rfl) (fun _ _ _ h => h) hS (fun w' ⟨d1, d2, d3⟩ => by go_simp) ?_
                simp only [Act.put, List.setIfInBounds_toArray, List.set_cons_zero, List.set_cons_succ]
                refine zt (i := 14) rfl (.int .u8 (tf r : Int)) (by kernel_rfl) (by kernel_rfl) (by kernel_rfl) (by kernel_rfl) (fun _ _ _ h => h) hS (fun w' ⟨d1, d2, d3⟩ => by go_simp) ?_
                simp only [Act.put, List.setIfInBounds_toArray, List.set_cons_zero, List.set_cons_succ]
                refine zt (i := 15) rfl (.int .u8 (bits .xor .u8 (Aes.ks key q : Int) (tf r : Int))) (by kernel_rfl) (by kernel_rfl) (by kernel_rfl) (by kernel_rfl) (fun _ _ _ h => h) hS (fun w' ⟨d1, d2, d3⟩ => by go_simp) ?_
                simp only [Act.put, List.setIfInBounds_toArray, List.set_cons_zero, List.set_cons_succ]
                have al : ∀ (o : Obj) (b j : Nat), b < wr.heap.size → (wr.drew.alloc o).cell? ⟨b, j, none⟩ = wr.drew.cell? ⟨b, j, none⟩ := fun o b j h => World.cell?_alloc_lt _ _ _ (by simpa using h)
                refine z1 (i := 16) (by kernel_rfl) rfl (fun K hK => ?_)
                go_simp
                refine hK.out _ _ (.inr ⟨(al _ _ _ hsz).trans hS.1, (al _ _ _ hgl).trans hS.2.1, (al _ _ _ hgt).trans hS.2.2⟩) ?_
                clear hK K
                refine z1 (i := 17) (by kernel_rfl) rfl (fun K hK => ?_)
                refine wp_append_run _ _ 32 rfl _ _ _ w' rfl rfl HQ.out ?_
                refine hK.out _ _ (.inr ⟨c2, c6', c7⟩) ?_
                clear hK K
                simp only [Act.put, List.setIfInBounds_toArray, List.set_cons_zero, List.set_cons_succ]
                refine z1 (i := 18) (by kernel_rfl) rfl (fun K hK => ?_)
                go_simp
                refine hK.out _ _ (.inr ⟨c2, c6', c7⟩) ?_
                clear hK K
                refine z1 (i := 19) (by kernel_rfl) rfl (fun K hK => ?_)
                go_simp
                refine hK.out _ _ (.inl rfl) ?_
                clear hK K
                refine wpAnyZ_done (by kernel_rfl) ?_ _
                clear hS al c1 c2 c3 c4 c5 c6' c7 HQ
                go_wp2
                go_roundw
                case rel => exact ⟨r + 1, g', c', by omega, by go_num, HN⟩
                case measure => simp [intOf]; omega
              · obtain rfl : r = 4 := by omega
                have HE := Lib.hid (show RK w key (4 * (i + 1)) g c gb cb wr from HT.out.1)
                clear HT
                go_wp2
                go_roundw
                case rel => exact ⟨i + 1, g, c, gb, cb, by omega, by go_num, by rw [show (i + 1 - 1) / 4 = (i - 1) / 4 + 1 by omega]; rfl, HE⟩
                case measure => simp [intOf]; omega
          · have h0' : ((i : Int) % 4 == 0) = false := by simp; omega
            go_wp2_with (at_builtin; refine wpList_append_run rfl _ _ 32 rfl _ _ _ w1 rfl rfl HQ.out ?_)
            clear HQ c1 hcm hcn hsz
            go_loopw [8] (fun t w3 => ∃ r g c : Nat, r ≤ 4 ∧ t = .int .i64 r ∧ Hid (RT w key (4 * i + r) g c gb cb gt ct (fun j => Aes.ks key (4 * i - 4 + j)) w3)) (fun t _ => 4 - (intOf t).toNat)
            case atStart => exact ⟨0, g, c, by omega, rfl, HT⟩
            case round =>
              clear HT
              obtain ⟨r, g, c, hr, rfl, HT⟩ := hrel
              by_cases hlr : r < 4
              · obtain ⟨q, hq⟩ : ∃ q, q = 4 * i - 16 + r := ⟨_, rfl⟩
                have hg := OR.lt HT.out.1.2.2.2.1
                have hsz : w.heap.size + 1 < wr.heap.size := HT.out.1.2.2.1.lt
                have c1 := HT.out.1.2.2.1.cell0
                have c4 : wr.cell? ⟨g, q, none⟩ = some (.int .u8 (Aes.ks key q : Int)) := by have := AtB.cell hg.2.2.2.2 q (by omega); rwa [Nat.zero_add] at this
                have c5 : wr.cell? ⟨gt, r, none⟩ = some (.int .u8 (Aes.ks key (4 * i - 4 + r) : Int)) := by have := AtB.cell HT.out.2.1 r hlr; rwa [Nat.zero_add] at this
                have hX : bits .xor .u8 (Aes.ks key q : Int) (Aes.ks key (4 * i - 4 + r) : Int) = (Aes.ks key (4 * i + r) : Int) := by
                  rw [bits8_xor _ _ (Aes.ks_lt key HK.out _) (Aes.ks_lt key HK.out _), hq]
                  exact congrArg _ (ks_next key i r hi.1 hlr (fun j => Aes.ks key (4 * i - 4 + j)) (by rw [if_neg h0]))
                obtain ⟨g', c', w', hr', c2, c3, c6, c7, hR⟩ := RT.app HT.out ⟨hi.1, hlt⟩ hlr hX
                have c6' := c6 q (by omega)
                have e1 : IntKind.i64.wrap (4 * (i : Int)) = 4 * (i : Int) := i64_nat _ (by omega) (by omega)
                have e2 : IntKind.i64.wrap (4 * (i : Int) - 16) = 4 * (i : Int) - 16 := i64_nat _ (by omega) (by omega)
                have e3 : IntKind.i64.wrap (4 * (i : Int) - 16 + (r : Int)) = (q : Int) := by rw [i64_nat _ (by omega) (by omega)]; omega
                have e4 : (q : Int) < 4 * (i : Int) + (r : Int) := by omega
                have e5 : (r : Int) < 4 := by omega
                have HQ := Lib.hid hr'
                have HN := Lib.hid hR
                have HX := Lib.hid (And.intro hq hX)
                have hgl : g < wr.heap.size := hg.2.1
                have hgt : gt < wr.heap.size := HT.out.2.2.2.2.2.1
                clear hr' hR HT hg hq hX c6
                go_wp2
                refine region_z 19 (fun w' => w'.cell? ⟨w.heap.size + 1, 0, none⟩ = some (sl8 g (4 * i + r) c) ∧ w'.cell? ⟨g, q, none⟩ = some (.int .u8 (Aes.ks key q : Int)) ∧ w'.cell? ⟨gt, r, none⟩ = some (.int .u8 (Aes.ks key (4 * i - 4 + r) : Int))) (by kernel_rfl) ?_
                have hS : wr.drew.cell? ⟨w.heap.size + 1, 0, none⟩ = some (sl8 g (4 * i + r) c) ∧ wr.drew.cell? ⟨g, q, none⟩ = some (.int .u8 (Aes.ks key q : Int)) ∧ wr.drew.cell? ⟨gt, r, none⟩ = some (.int .u8 (Aes.ks key (4 * i - 4 + r) : Int)) := ⟨c1, c4, c5⟩
                refine zt (i := 0) rfl (.pointer (some ⟨w.heap.size + 1, 0, none⟩)) (by kernel_rfl) (by kernel_rfl) (by kernel_rfl) (by kernel_rfl) (fun _ _ _ h => h) hS (fun w' ⟨d1, d2, d3⟩ => by go_simp) ?_
                simp only [Act.put, List.setIfInBounds_toArray, List.set_cons_zero, List.set_cons_succ]
                refine zt (i := 1) rfl (sl8 g (4 * i + r) c) (by kernel_rfl) (by kernel_rfl) (by kernel_rfl) (by kernel_rfl) (fun _ _ _ h => h) hS (fun w' ⟨d1, d2, d3⟩ => by go_simp) ?_
                simp only [Act.put, List.setIfInBounds_toArray, List.set_cons_zero, List.set_cons_succ]
                refine zt (i := 2) rfl (.pointer (some ⟨w.heap.size + 1, 0, none⟩)) (by kernel_rfl) (by kernel_rfl) (by kernel_rfl) (by kernel_rfl) (fun _ _ _ h => h) hS (fun w' ⟨d1, d2, d3⟩ => by go_simp) ?_
                simp only [Act.put, List.setIfInBounds_toArray, List.set_cons_zero, List.set_cons_succ]
                refine zt (i := 3) rfl (sl8 g (4 * i + r) c) (by kernel_rfl) (by kernel_rfl) (by kernel_rfl) (by kernel_rfl) (fun _ _ _ h => h) hS (fun w' ⟨d1, d2, d3⟩ => by go_simp) ?_
                simp only [Act.put, List.setIfInBounds_toArray, List.set_cons_zero, List.set_cons_succ]
                refine zt (i := 4) rfl (.int .i64 (i : Int)) (by kernel_rfl) (by kernel_rfl) (by kernel_rfl) (by kernel_rfl) (fun _ _ _ h => h) hS (fun w' ⟨d1, d2, d3⟩ => by go_simp) ?_
                simp only [Act.put, List.setIfInBounds_toArray, List.set_cons_zero, List.set_cons_succ]
                refine zt (i := 5) rfl (.int .i64 (4 * (i : Int))) (by kernel_rfl) (by kernel_rfl) (by kernel_rfl) (by kernel_rfl) (fun _ _ _ h => h) hS (fun w' ⟨d1, d2, d3⟩ => by go_simp) ?_
                simp only [Act.put, List.setIfInBounds_toArray, List.set_cons_zero, List.set_cons_succ]
                refine zt (i := 6) rfl (.int .i64 (4 * (i : Int) - 16)) (by kernel_rfl) (by kernel_rfl) (by kernel_rfl) (by kernel_rfl) (fun _ _ _ h => h) hS (fun w' ⟨d1, d2, d3⟩ => by go_simp) ?_
                simp only [Act.put, List.setIfInBounds_toArray, List.set_cons_zero, List.set_cons_succ]
                refine zt (i := 7) rfl (.int .i64 (r : Int)) (by kernel_rfl) (by kernel_rfl) (by kernel_rfl) (by kernel_rfl) (fun _ _ _ h => h) hS (fun w' ⟨d1, d2, d3⟩ => by go_simp) ?_
                simp only [Act.put, List.setIfInBounds_toArray, List.set_cons_zero, List.set_cons_succ]
                refine zt (i := 8) rfl (.int .i64 (q : Int)) (by kernel_rfl) (by kernel_rfl) (by kernel_rfl) (by kernel_rfl) (fun _ _ _ h => h) hS (fun w' ⟨d1, d2, d3⟩ => by go_simp) ?_
                simp only [Act.put, List.setIfInBounds_toArray, List.set_cons_zero, List.set_cons_succ]
                refine zt (i := 9) rfl (.pointer (some ⟨g, q, none⟩)) (by kernel_rfl) (by kernel_rfl) (by kernel_rfl) (by kernel_rfl) (fun _ _ _ h => h) hS (fun w' ⟨d1, d2, d3⟩ => by go_simp) ?_
                simp only [Act.put, List.setIfInBounds_toArray, List.set_cons_zero, List.set_cons_succ]
                refine zt (i := 10) rfl (.int .u8 (Aes.ks key q : Int)) (by kernel_rfl) (by kernel_rfl) (by kernel_rfl) (by kernel_rfl) (fun _ _ _ h => h) hS (fun w' ⟨d1, d2, d3⟩ => by go_simp) ?_
                simp only [Act.put, List.setIfInBounds_toArray, List.set_cons_zero, List.set_cons_succ]
                refine zt (i := 11) rfl (sl8 gt 4 ct) (by kernel_rfl) (by kernel_rfl) (by kernel_rfl) (by kernel_rfl) (fun _ _ _ h => h) hS (fun w' ⟨d1, d2, d3⟩ => by go_simp) ?_
                simp only [Act.put, List.setIfInBounds_toArray, List.set_cons_zero, List.set_cons_succ]
                refine zt (i := 12) rfl (.int .i64 (r : Int)) (by kernel_rfl) (by kernel_rfl) (by kernel_rfl) (by kernel_rfl) (fun _ _ _ h => h) hS (fun w' ⟨d1, d2, d3⟩ => by go_simp) ?_
                simp only [Act.put, List.setIfInBounds_toArray, List.set_cons_zero, List.set_cons_succ]
                refine zt (i := 13) rfl (.pointer (some ⟨gt, r, none⟩)) (by kernel_rfl) (by kernel_rfl) (by kernel_rfl) (by kernel_rfl) (fun _ _ _ h => h) hS (fun w' ⟨d1, d2, d3⟩ => by go_simp) ?_
                simp only [Act.put, List.setIfInBounds_toArray, List.set_cons_zero, List.set_cons_succ]
                refine zt (i := 14) rfl (.int .u8 (Aes.ks key (4 * i - 4 + r) : Int)) (by kernel_rfl) (by kernel_rfl) (by kernel_rfl) (by kernel_rfl) (fun _ _ _ h => h) hS (fun w' ⟨d1, d2, d3⟩ => by go_simp) ?_
                simp only [Act.put, List.setIfInBounds_toArray, List.set_cons_zero, List.set_cons_succ]
                refine zt (i := 15) rfl (.int .u8 (bits .xor .u8 (Aes.ks key q : Int) (Aes.ks key (4 * i - 4 + r) : Int))) (by kernel_rfl) (by kernel_rfl) (by kernel_rfl) (by kernel_rfl) (fun _ _ _ h => h) hS (fun w' ⟨d1, d2, d3⟩ => by go_simp) ?_
                simp only [Act.put, List.setIfInBounds_toArray, List.set_cons_zero, List.set_cons_succ]
                have al : ∀ (o : Obj) (b j : Nat), b < wr.heap.size → (wr.drew.alloc o).cell? ⟨b, j, none⟩ = wr.drew.cell? ⟨b, j, none⟩ := fun o b j h => World.cell?_alloc_lt _ _ _ (by simpa using h)
                refine z1 (i := 16) (by kernel_rfl) rfl (fun K hK => ?_)
                go_simp
                refine hK.out _ _ (.inr ⟨(al _ _ _ hsz).trans hS.1, (al _ _ _ hgl).trans hS.2.1, (al _ _ _ hgt).trans hS.2.2⟩) ?_
                clear hK K
                refine z1 (i := 17) (by kernel_rfl) rfl (fun K hK => ?_)
                refine wp_append_run _ _ 32 rfl _ _ _ w' rfl rfl HQ.out ?_
                refine hK.out _ _ (.inr ⟨c2, c6', c7⟩) ?_
                clear hK K
                simp only [Act.put, List.setIfInBounds_toArray, List.set_cons_zero, List.set_cons_succ]
                refine z1 (i := 18) (by kernel_rfl) rfl (fun K hK => ?_)
                go_simp
                refine hK.out _ _ (.inr ⟨c2, c6', c7⟩) ?_
                clear hK K
                refine z1 (i := 19) (by kernel_rfl) rfl (fun K hK => ?_)
                go_simp
                refine hK.out _ _ (.inl rfl) ?_
                clear hK K
                refine wpAnyZ_done (by kernel_rfl) ?_ _
                clear hS al c1 c2 c3 c4 c5 c6' c7 HQ
                go_wp2
                go_roundw
                case rel => exact ⟨r + 1, g', c', by omega, by go_num, HN⟩
                case measure => simp [intOf]; omega
              · obtain rfl : r = 4 := by omega
                have HE := Lib.hid (show RK w key (4 * (i + 1)) g c gb cb wr from HT.out.1)
                clear HT
                go_wp2
                go_roundw
                case rel => exact ⟨i + 1, g, c, gb, cb, by omega, by go_num, by rw [show (i + 1 - 1) / 4 = (i - 1) / 4 by omega], HE⟩
                case measure => simp [intOf]; omega
        · obtain rfl : i = 44 := by omega
          have c1 := HR.out.2.2.1.cell0
          have c2 := HR.out.2.2.1.cell1
          have c3 := HR.out.2.1.cell0
          have c4 := HR.out.2.1.cell1
          have c5 := HR.out.2.1.frozen 0
          have c6 := HR.out.2.1.frozen 1
          go_wp2
          have HE := RK.ends HR.out
          exact bodyPost_ret (v := rci g c gb cb) (results_cell_row rfl _ _ w.heap.size _ _ _ _ rfl HE.1 Tryd.underlying53 rfl infoRC) rfl ⟨g, c, gb, cb, rfl, HE.2.1, HE.2.2⟩
end Go.Proofs.YtecdfjcncgcegaaDoor
