/- The net as two lists of texts: the contracts once more, by texts. -/
import Derived.Test.YtfilhlilagmhlaaDoorNN6
namespace Go.Proofs.YtfilhlilagmhlaaDoor
open Go.RowKit

def txt (x : Fr) : ByteArray := strB x.len x.dat
abbrev Txt := Nat → List ByteArray
def Net (w : World) (base p : Nat) (T : Txt) : Prop := ∃ s : St, NetAt w base s ∧ s.p = p ∧ ∀ k, k < 2 → (s.L k).map txt = T k
def upd (T : Txt) (k : Nat) (l : List ByteArray) : Txt := fun q => if q = k then l else T q
theorem upd_same (T : Txt) (k : Nat) (l : List ByteArray) : upd T k l k = l := by simp [upd]
theorem upd_other (T : Txt) (k q : Nat) (l : List ByteArray) (h : q ≠ k) : upd T k l q = T q := by simp [upd, h]
/-- What a call leaves: blocks ahead of base, and all that are none of bytes, of lists of bytes, and no net. -/
structure Step (base : Nat) (w w' : World) : Prop where
  below : Below base w w'
  oth : ∀ (b : Nat) cur (t : TypeId) f, w.heap[b]? = some (.cells cur t f) → t ≠ 5 → t ≠ 32 → t ≠ 55 → w'.heap[b]? = w.heap[b]?
section
variable {w w' w2 : World} {base p k i n : Nat} {T : Txt} {s : St}
theorem Step.of_below (h : Below w.heap.size w w') (hb : base ≤ w.heap.size) : Step base w w' := ⟨h.mono hb, fun b _ _ _ hc _ _ _ => h.block b (Array.getElem?_eq_some_iff.1 hc).1⟩
theorem Step.trans (h : Step base w w') (h2 : Step base w' w2) : Step base w w2 := ⟨h.below.trans h2.below, fun b cur t f hc h3 h4 h5 => (h2.oth b cur t f ((h.oth b cur t f hc h3 h4 h5).trans hc) h3 h4 h5).trans (h.oth b cur t f hc h3 h4 h5)⟩
theorem Step.refl (base : Nat) (w : World) : Step base w w := ⟨Below.refl _ _, fun _ _ _ _ _ _ _ _ => rfl⟩
theorem Step.of_kept (hN : NetAt w base s) (hk : Kept s w w') (hb : base ≤ w.heap.size) : Step base w w' := by
  refine ⟨hk.below hN (Below.refl _ _) hb, fun b cur t f hc h3 h4 h5 => hk.block b (Array.getElem?_eq_some_iff.1 hc).1 fun ho => ?_⟩
  rcases ho with rfl | ⟨q, hq, hb | ⟨x, hx, rfl⟩⟩
  · exact heap_ne hc hN.net h5 rfl
  · obtain ⟨_, cur', h2⟩ := (hN.way q hq).block hb
    exact heap_ne hc h2 h4 rfl
  · exact heap_ne hc (hN.fr q hq x hx).own h3 rfl
theorem Net.below (h : Net w base p T) (hb : Below w.heap.size w w') : Net w' base p T := let ⟨s, h1, h2, h3⟩ := h; ⟨s, h1.below hb, h2, h3⟩
theorem Net.short (h : Net w base p T) (hk : k < 2) : (T k).length ≤ 64 := by
  obtain ⟨s, h1, _, h3⟩ := h
  rw [← h3 k hk, List.length_map]
  exact h1.short k hk
theorem Net.len (h3 : ∀ k, k < 2 → (s.L k).map txt = T k) (hk : k < 2) : (s.L k).length = (T k).length := by rw [← h3 k hk, List.length_map]
theorem net_put {v : Value} {l : List Fr} (hN : NetAt w' base (s.put k v l)) (hp : s.p = p) (h3 : ∀ k, k < 2 → (s.L k).map txt = T k) (t : List ByteArray) (ht : l.map txt = t) : Net w' base p (upd T k t) := by
  refine ⟨_, hN, hp, fun q hq => ?_⟩
  by_cases e : q = k
  · subst e; rw [St.put_L, upd_same]; exact ht
  · rw [St.put_Lo _ _ _ _ _ e, upd_other _ _ _ _ e]; exact h3 q hq
theorem net_new (w : World) : Net (w.alloc (.cells #[.slice none 0 0, .slice none 0 0] 55)) w.heap.size w.heap.size (fun _ => []) := ⟨St.new w.heap.size, netAt_new w _ (Nat.le_refl _), rfl, fun _ _ => rfl⟩
theorem tget (h3 : ∀ k, k < 2 → (s.L k).map txt = T k) (hk : k < 2) {t : ByteArray} (ht : (T k)[i]? = some t) : ∃ x, (s.L k)[i]? = some x ∧ txt x = t := by
  rw [← h3 k hk, List.getElem?_map] at ht
  cases hx : (s.L k)[i]? with
  | none => rw [hx] at ht; cases ht
  | some x => rw [hx] at ht; exact ⟨x, rfl, Option.some.inj ht⟩

theorem nsend_ok (A : Option Addr) (n c : Nat) (f : Nat → Nat) (h : Net w base p T) (hk : k < 2) (hl : (T k).length < 64) (hA : AtBO w A n f) (hf : ∀ i, f i < 256) (hn : n ≤ 140737488355328) (hb : base ≤ w.heap.size) :
    Calls Tryd.prog 12 #[.pointer (some ⟨p, 0, none⟩), .int .i64 (k : Int), .slice A n c] w fun e w' => e = .returned .nilIface ∧ Net w' base p (upd T k (T k ++ [strB n f])) ∧ Step base w w' := by
  obtain ⟨s, h1, rfl, h3⟩ := h
  refine (send_ok base s k w A n c f h1 hk (by rw [Net.len h3 hk]; exact hl) hA hf hn hb).mono ?_
  rintro e w' ⟨rfl, v, x, rfl, rfl, _, hN, _, hK⟩
  exact ⟨rfl, net_put hN rfl h3 _ (by rw [List.map_append, h3 k hk]; rfl), Step.of_kept h1 hK hb⟩
theorem nsend_full (A : Option Addr) (n c : Nat) (h : Net w base p T) (hk : k < 2) (hg : Handle w) (hl : (T k).length = 64) :
    Calls Tryd.prog 12 #[.pointer (some ⟨p, 0, none⟩), .int .i64 (k : Int), .slice A n c] w (Err w 5) := by
  obtain ⟨s, h1, rfl, h3⟩ := h
  exact send_full base s k w A n c h1 hk hg (by rw [Net.len h3 hk]; exact hl)
theorem nlen_ok (h : Net w base p T) (hk : k < 2) :
    Calls Tryd.prog 11 #[.pointer (some ⟨p, 0, none⟩), .int .i64 (k : Int)] w fun e w' => e = .returned (.int .i64 ((T k).length : Int)) ∧ w = w' := by
  obtain ⟨s, h1, rfl, h3⟩ := h
  rw [← Net.len h3 hk]
  exact len_ok base s k w h1 hk
theorem nfind_none (z : Int) (h : Net w base p T) (hk : k < 2) (hg : Handle w) (hz : z < 0 ∨ ((T k).length : Int) ≤ z) :
    Calls Tryd.prog 24 #[.pointer (some ⟨p, 0, none⟩), .int .i64 (k : Int), .int .i64 z] w (Err2 w 4) := by
  obtain ⟨s, h1, rfl, h3⟩ := h
  exact find_none base s k z w h1 hg hk (by rw [Net.len h3 hk]; exact hz)
/-- Bytes that are answered: this text's. -/
def TxtAt (w : World) (b n : Nat) (f : Nat → Nat) (t : ByteArray) : Prop := OwnB w b n 5 f ∧ (∀ i, f i < 256) ∧ strB n f = t
theorem TxtAt.conv {t : ByteArray} {b : Nat} {f : Nat → Nat} (h : TxtAt w b n f t) (c : Nat) : (convert 32 9 (sl8 b n c)).run Tryd.prog w = .ok (.string t) w := by
  rw [← h.2.2]; exact conv_B w ⟨b, 0, none⟩ n c f (AtB.own h.1) h.2.1
theorem nat_ok {t : ByteArray} (h : Net w base p T) (hk : k < 2) (ht : (T k)[i]? = some t) :
    Calls Tryd.prog 10 #[.pointer (some ⟨p, 0, none⟩), .int .i64 (k : Int), .int .i64 (i : Int)] w fun e w' => ∃ b n f, e = .returned (.tuple #[sl8 b n n, .nilIface]) ∧ TxtAt w' b n f t ∧ Below w.heap.size w w' := by
  obtain ⟨s, h1, rfl, h3⟩ := h
  obtain ⟨x, hx, rfl⟩ := tget h3 hk ht
  refine (at_ok base s k i x w h1 hk hx).mono ?_
  rintro e w' ⟨b, rfl, ho, hb, _⟩
  exact ⟨b, x.len, x.dat, rfl, ⟨ho, (h1.fr k hk x (List.mem_of_getElem? hx)).lt, rfl⟩, hb⟩
theorem ndrop_ok (h : Net w base p T) (hk : k < 2) (hi : i < (T k).length) (hb : base ≤ w.heap.size) :
    Calls Tryd.prog 15 #[.pointer (some ⟨p, 0, none⟩), .int .i64 (k : Int), .int .i64 (i : Int)] w fun e w' => e = .returned .nilIface ∧ Net w' base p (upd T k ((T k).eraseIdx i)) ∧ Step base w w' := by
  obtain ⟨s, h1, rfl, h3⟩ := h
  refine (drop_ok base s k i w h1 hk (by rw [Net.len h3 hk]; exact hi)).mono ?_
  rintro e w' ⟨rfl, v, hN, _, hK, _⟩
  exact ⟨rfl, net_put hN rfl h3 _ (by rw [← h3 k hk, ← eraseIdx_cut, ← eraseIdx_cut, List.map_append, List.map_take, List.map_drop]), Step.of_kept h1 hK hb⟩
theorem ndeliver_ok {t : ByteArray} (h : Net w base p T) (hk : k < 2) (ht : (T k)[i]? = some t) (hb : base ≤ w.heap.size) :
    Calls Tryd.prog 17 #[.pointer (some ⟨p, 0, none⟩), .int .i64 (k : Int), .int .i64 (i : Int)] w fun e w' => (∃ b n f, e = .returned (.tuple #[sl8 b n n, .nilIface]) ∧ TxtAt w' b n f t) ∧ Net w' base p (upd T k ((T k).eraseIdx i)) ∧ Step base w w' := by
  obtain ⟨s, h1, rfl, h3⟩ := h
  obtain ⟨x, hx, rfl⟩ := tget h3 hk ht
  refine (deliver_ok base s k i x w h1 hk hx).mono ?_
  rintro e w' ⟨rfl, v, hN, _, hK, _, hold⟩
  have hl := h1.fr k hk x (List.mem_of_getElem? hx)
  have hbl := hold x.blk hl.own.lt (heap_ne hl.own h1.net (by decide)) (fun e => by
    obtain ⟨_, cur, h2⟩ := (h1.way k hk).block e
    exact heap_ne hl.own h2 (by decide) rfl)
  exact ⟨⟨x.blk, x.len, x.dat, rfl, hbl.trans hl.own, hl.lt, rfl⟩, net_put hN rfl h3 _ (by rw [← h3 k hk, ← eraseIdx_cut, ← eraseIdx_cut, List.map_append, List.map_take, List.map_drop]), Step.of_kept h1 hK hb⟩
theorem ncopy_ok {t : ByteArray} (h : Net w base p T) (hk : k < 2) (ht : (T k)[i]? = some t) (hl : (T k).length < 64) (hb : base ≤ w.heap.size) :
    Calls Tryd.prog 14 #[.pointer (some ⟨p, 0, none⟩), .int .i64 (k : Int), .int .i64 (i : Int)] w fun e w' => e = .returned .nilIface ∧ Net w' base p (upd T k (T k ++ [t])) ∧ Step base w w' := by
  obtain ⟨s, h1, rfl, h3⟩ := h
  obtain ⟨x, hx, rfl⟩ := tget h3 hk ht
  refine (copy_ok base s k i x w h1 hk hx (by rw [Net.len h3 hk]; exact hl) hb).mono ?_
  rintro e w' ⟨rfl, v, y, hy1, hy2, _, hN, _, hK⟩
  exact ⟨rfl, net_put hN rfl h3 _ (by rw [List.map_append, h3 k hk]; show T k ++ [strB y.len y.dat] = _; rw [hy1, hy2]; rfl), Step.of_kept h1 hK hb⟩
theorem ncopy_full (h : Net w base p T) (hk : k < 2) (hi : i < (T k).length) (hg : Handle w) (hl : (T k).length = 64) :
    Calls Tryd.prog 14 #[.pointer (some ⟨p, 0, none⟩), .int .i64 (k : Int), .int .i64 (i : Int)] w (Err w 5) := by
  obtain ⟨s, h1, rfl, h3⟩ := h
  exact copy_full base s k i w h1 hk (by rw [Net.len h3 hk]; exact hi) hg (by rw [Net.len h3 hk]; exact hl)
/-- A text's byte i. -/
def byteAt (t : ByteArray) (i : Nat) : Nat := (t.data.toList.getD i 0).toNat
theorem byteAt_lt (t : ByteArray) (i : Nat) : byteAt t i < 256 := UInt8.toNat_lt _
theorem strB_size (n : Nat) (f : Nat → Nat) : (strB n f).size = n := by simp [strB, ByteArray.size]
theorem byteAt_strB (n : Nat) (f : Nat → Nat) (i : Nat) (hi : i < n) (hf : f i < 256) : byteAt (strB n f) i = f i := by
  simp [byteAt, strB, List.getD, hi]
  omega
def flipT (t : ByteArray) (B : Nat) : ByteArray := strB t.size (flipD (byteAt t) B)
theorem flipT_strB (n : Nat) (f : Nat → Nat) (B : Nat) (hf : ∀ i, f i < 256) : flipT (strB n f) B = strB n (flipD f B) := by
  unfold flipT
  rw [strB_size]
  refine strB_congr fun i hi => ?_
  unfold flipD
  rw [byteAt_strB n f i hi (hf i)]
theorem nflip_ok {t : ByteArray} {B : Nat} (h : Net w base p T) (hk : k < 2) (ht : (T k)[i]? = some t) (hB : B < 8 * t.size) (hb : base ≤ w.heap.size) :
    Calls Tryd.prog 16 #[.pointer (some ⟨p, 0, none⟩), .int .i64 (k : Int), .int .i64 (i : Int), .int .i64 (B : Int)] w fun e w' => e = .returned .nilIface ∧ Net w' base p (upd T k ((T k).set i (flipT t B))) ∧ Step base w w' := by
  obtain ⟨s, h1, rfl, h3⟩ := h
  obtain ⟨x, hx, rfl⟩ := tget h3 hk ht
  have hl := h1.fr k hk x (List.mem_of_getElem? hx)
  refine (flip_ok base s k i B x w h1 hk hx (by unfold txt at hB; rwa [strB_size] at hB)).mono ?_
  rintro e w' ⟨rfl, hN, _, hK⟩
  exact ⟨rfl, net_put hN rfl h3 _ (by rw [List.map_set, h3 k hk]; unfold txt Fr.turn; rw [flipT_strB _ _ _ hl.lt]), Step.of_kept h1 hK hb⟩
theorem nflip_range {t : ByteArray} {z : Int} (h : Net w base p T) (hk : k < 2) (ht : (T k)[i]? = some t) (hg : Handle w) (hz : z < 0 ∨ 8 * (t.size : Int) ≤ z) :
    Calls Tryd.prog 16 #[.pointer (some ⟨p, 0, none⟩), .int .i64 (k : Int), .int .i64 (i : Int), .int .i64 z] w (Err w 1) := by
  obtain ⟨s, h1, rfl, h3⟩ := h
  obtain ⟨x, hx, rfl⟩ := tget h3 hk ht
  exact flip_range base s k i z x w h1 hk hx hg (by unfold txt at hz; rwa [strB_size] at hz)
end
end Go.Proofs.YtfilhlilagmhlaaDoor
