/- NetOwn: blocks that may be written; two frames and a bit turned; the document's answer beside it. -/
import Derived.Test.YtfilhlilagmhlaaDoorNR5
namespace Go.Proofs.YtfilhlilagmhlaaDoor
open Go.RowKit

/-- Block g has n cells at least that may be written. -/
def Room (w : World) (t g n : Nat) : Prop := ∃ cur, w.heap[g]? = some (.cells cur t (0, 0)) ∧ n ≤ cur.size
theorem Room.cell {w : World} {t g n : Nat} (h : Room w t g n) (i : Nat) (hi : i < n) : ∃ v, w.cell? ⟨g, i, none⟩ = some v := by
  obtain ⟨cur, hg, hs⟩ := h
  rw [cell_of_row w g i cur t (0, 0) hg]
  exact ⟨_, Array.getElem?_eq_getElem (by omega)⟩
theorem Room.frozen {w : World} {t g n : Nat} (h : Room w t g n) (i : Nat) : w.frozen? ⟨g, i, none⟩ = false := by
  obtain ⟨cur, hg, _⟩ := h
  simp [World.frozen?, hg]
theorem Room.set {w : World} {t g n : Nat} (h : Room w t g n) (i : Nat) (v : Value) : Room (w.setCell ⟨g, i, none⟩ v) t g n := by
  obtain ⟨cur, hg, hs⟩ := h
  exact ⟨cur.setIfInBounds i v, by simp [World.setCell, Array.getElem?_modify, hg], by simpa using hs⟩
theorem Room.block {w w' : World} {t g n : Nat} (h : Room w t g n) (hb : w'.heap[g]? = w.heap[g]?) : Room w' t g n := by
  obtain ⟨cur, hg, hs⟩ := h
  exact ⟨cur, hb.trans hg, hs⟩
theorem Keep.refl (g : Nat) (w : World) : Keep g w w := ⟨rfl, rfl, rfl, Nat.le_refl _, fun _ _ _ => rfl⟩
theorem Keep.set {g : Nat} {w w' : World} (h : Keep g w w') {p : Addr} (hp : p.block = g) (v : Value) : Keep g w (w'.setCell p v) :=
  ⟨h.os, h.tape, h.output, by have := h.size; simpa [World.setCell] using this, fun k hk hg => (Below.heap_setCell w' p v k (by omega)).trans (h.block k hk hg)⟩
theorem OR.room {w : World} {base g n k : Nat} {f : Nat → Nat} (h : OR w base (sl8 g n k) n f) : Room w 5 g n := by
  rcases h.2 with ⟨hx, _⟩ | ⟨g', cap, cur, hv, hb, hg, hnc, hm, hsz, ht⟩
  · cases hx
  · injection hv with e1 e2 e3
    injection e1 with e1
    injection e1 with e1
    subst e1 e3
    exact ⟨cur, hg, by rw [hsz, Nat.mul_one]; exact hnc⟩
/-- The first n words and the seven behind them. -/
def andOne (n : Nat) (f : Nat → Int) (x : Int) (i : Nat) : Int := if i < n then f i else x
theorem Keep.own {g : Nat} {w w' : World} (h : Keep g w w') {k N t : Nat} {f : Nat → Nat} (ho : OwnB w k N t f) (hk : k ≠ g) : OwnB w' k N t f := (h.block k ho.lt hk).trans ho
theorem Keep.net {g base : Nat} {w w' : World} {s : St} (h : Keep g w w') (hN : NetAt w base s) (hg : ¬ s.own g) : NetAt w' base s := hN.heap fun b ho => h.block b (hN.own_lt ho).1 (fun e => hg (e ▸ ho))
theorem OwnB.room {w : World} {g n : Nat} {f : Nat → Nat} (h : OwnB w g n 5 f) : Room w 5 g n := ⟨_, h, by rw [bys_size]; exact Nat.le_refl _⟩
theorem not_own {s s' : St} {w : World} {b : Nat} (h : ¬ s.own b) (hb : b < w.heap.size) (hg : Grows s w s') : ¬ s'.own b := fun ho => (hg b ho).elim h (fun h2 => by omega)
theorem Kept.atB {s : St} {w w' : World} (h : Kept s w w') {g n : Nat} {f : Nat → Nat} (ha : AtB w ⟨g, 0, none⟩ n f) (hg : ¬ s.own g) : AtB w' ⟨g, 0, none⟩ n f := fun i hi => by
  have hc := ha i hi
  rw [Addr.add_mid] at hc ⊢
  rw [World.cell?_of_block (w := w) (h.block _ (World.block_lt_of_cell? _ _ hc) hg)]
  exact hc
/-- Blocks of bytes stay as they are where a frame is taken out. -/
theorem Removed.bytes {w w' : World} {base : Nat} {s : St} {k i : Nat} (hN : NetAt w base s) (hk : k < 2) (h : Removed w base s k i w') {g n : Nat} {f : Nat → Nat} (ho : OwnB w g n 5 f) : OwnB w' g n 5 f := by
  obtain ⟨v, _, _, _, _, hold⟩ := h
  refine (hold g ho.lt (heap_ne ho hN.net (by decide)) fun e => ?_).trans ho
  obtain ⟨_, cur, h2⟩ := (hN.way k hk).block e
  exact heap_ne ho h2 (by decide) rfl
/-- Two frames on the way 0: bytes fd, bytes f. -/
structure Two2 (w : World) (base p n : Nat) (fd f : Nat → Nat) (s : St) : Prop where
  net : NetAt w base s
  hp : s.p = p
  two : ∃ x0 x1, s.L 0 = [x0, x1] ∧ x0.len = n ∧ x0.dat = fd ∧ x1.len = n ∧ x1.dat = f
/-- A bit of the first frame turned, or not: beside the document's. -/
theorem own_flip {w : World} {base p n : Nat} {f : Nat → Nat} {s : St} (z : Int) (h : Two2 w base p n f f s) (hg : Handle w) (hbase : base ≤ w.heap.size) (hz : z < 9223372036854775808) : ∃ fd : Nat → Nat, (∀ i, fd i < 256) ∧
    Calls Tryd.prog 16 #[.pointer (some ⟨p, 0, none⟩), .int .i64 0, .int .i64 0, .int .i64 z] w (fun e w' => ∃ ev s', e = .returned ev ∧ Two2 w' base p n fd f s' ∧ Below base w w') ∧
    ∀ (w2 : World) v2, Rf w2 v2 (upd T0 0 [strB n f]) → Calls Tryd.prog 18 #[rvf v2, .int .i64 0, .int .i64 0, .int .i64 z] w2 (fun e w' => ∃ (cd : Int) (T' : Txt), RRes w2 T' cd e w' ∧ ((cd = 0 ∧ (T' 0)[0]? = some (strB n fd)) ∨ (cd = 1 ∧ fd = f))) := by
  obtain ⟨hN, rfl, x0, x1, hL, hn0, hd0, hn1, hd1⟩ := h
  have hx : (s.L 0)[0]? = some x0 := by rw [hL]; rfl
  have hl := hN.fr 0 (by omega) x0 (List.mem_of_getElem? hx)
  have hlt : ∀ i, f i < 256 := fun i => by rw [← hd0]; exact hl.lt i
  by_cases hB : z < 0 ∨ 8 * (n : Int) ≤ z
  · refine ⟨f, hlt, (flip_range base s 0 0 z x0 w hN (by omega) hx hg (by rw [hn0]; exact hB)).mono ?_, fun w2 v2 hR => (rflip_range v2 _ 0 0 z (strB n f) hR (by omega) rfl (by rw [strB_size]; exact hB) hz).mono fun e w' h => ⟨1, _, h, .inr ⟨rfl, rfl⟩⟩⟩
    rintro e w' ⟨ps, rfl, hb⟩
    exact ⟨_, s, rfl, ⟨hN.below hb, rfl, x0, x1, hL, hn0, hd0, hn1, hd1⟩, hb.mono hbase⟩
  · obtain ⟨B, rfl⟩ := Int.eq_ofNat_of_zero_le (show 0 ≤ z by omega)
    refine ⟨flipD f B, flipD_lt hlt B, (flip_ok base s 0 0 B x0 w hN (by omega) hx (by rw [hn0]; omega)).mono ?_, fun w2 v2 hR => (rflip_ok v2 _ 0 0 B (strB n f) hR (by omega) rfl (by simp [upd]) (by rw [strB_size]; omega) (by omega)).mono fun e w' h => ⟨0, _, h, .inl ⟨rfl, by rw [flipT_strB n f B hlt]; rfl⟩⟩⟩
    rintro e w' ⟨rfl, hN', _, hK⟩
    refine ⟨_, _, rfl, ⟨hN', rfl, x0.turn B, x1, by rw [St.put_L, hL]; rfl, hn0, ?_, hn1, hd1⟩, hK.below hN (Below.refl _ _) hbase⟩
    show flipD x0.dat B = flipD f B
    rw [hd0]
end Go.Proofs.YtfilhlilagmhlaaDoor
