/- Each call of a net beside the document's: one number, one net behind it. -/
import Derived.Test.YtfilhlilagmhlaaDoorNR5
namespace Go.Proofs.YtfilhlilagmhlaaDoor
open Go.RowKit

/-- An error's value, by its number. -/
def EV (e : Value) (c : Int) : Prop := (e = .nilIface ∧ c = 0) ∨ ∃ ps, e = chain ps c ∧ c ≠ 0
/-- What a call leaves that answers an error alone. -/
def NRes (w : World) (base p : Nat) (T : Txt) (c : Int) (e : Ending) (w' : World) : Prop := ∃ ev, e = .returned ev ∧ EV ev c ∧ Net w' base p T ∧ Step base w w'
/-- .. and one that answers bytes too: this text's. -/
def NResB (w : World) (base p : Nat) (T : Txt) (t : ByteArray) (c : Int) (e : Ending) (w' : World) : Prop :=
  ∃ A n d ev, e = .returned (.tuple #[.slice A n d, ev]) ∧ EV ev c ∧ (∀ w2 : World, Below w'.heap.size w' w2 → (convert 32 9 (.slice A n d)).run Tryd.prog w2 = .ok (.string t) w2) ∧ Net w' base p T ∧ Step base w w'
section
variable {w w' : World} {base p : Nat} {T : Txt}
theorem NRes.err {c : Int} {e : Ending} (hN : Net w base p T) (hb : base ≤ w.heap.size) (hc : c ≠ 0) (h : Err w c e w') : NRes w base p T c e w' := by
  obtain ⟨ps, rfl, hB⟩ := h
  exact ⟨_, rfl, .inr ⟨ps, rfl, hc⟩, hN.below hB, Step.of_below hB hb⟩
theorem NResB.err {c : Int} {e : Ending} (hN : Net w base p T) (hb : base ≤ w.heap.size) (hc : c ≠ 0) (h : Err2 w c e w') : NResB w base p T ⟨#[]⟩ c e w' := by
  obtain ⟨ps, rfl, hB⟩ := h
  exact ⟨none, 0, 0, _, rfl, .inr ⟨ps, rfl, hc⟩, fun w2 _ => run_convert_bytes_nil w2 32 5 Tryd.underlying32 (by kernel_rfl) 0 0 9 (by kernel_rfl), hN.below hB, Step.of_below hB hb⟩
theorem TxtAt.conv2 {w2 : World} {b n : Nat} {f : Nat → Nat} {t : ByteArray} (h : TxtAt w b n f t) (hh : Below w.heap.size w w2) : (convert 32 9 (sl8 b n n)).run Tryd.prog w2 = .ok (.string t) w2 :=
  TxtAt.conv (w := w2) ⟨h.1.below hh h.1.lt, h.2⟩ n

theorem usend (z : Int) (A : Option Addr) (n c : Nat) (f : Nat → Nat) (hN : Net w base p T) (hg : Handle w) (hA : AtBO w A n f) (hf : ∀ i, f i < 256) (hn : n ≤ 140737488355328) (hb : base ≤ w.heap.size) : ∃ (cd : Int) (T' : Txt), (∀ q, q < 2 → (T' q).length ≤ 64) ∧
    Calls Tryd.prog 12 #[.pointer (some ⟨p, 0, none⟩), .int .i64 z, .slice A n c] w (NRes w base p T' cd) ∧
    ∀ (w2 : World) v2, Rf w2 v2 T → Calls Tryd.prog 19 #[rvf v2, .int .i64 z, .string (strB n f)] w2 (RRes w2 T' cd) := by
  by_cases hz : z < 0 ∨ 2 ≤ z
  · exact ⟨1, T, fun q hq => hN.short hq, (send_way _ z A n c w hg hz).mono fun e w' h => NRes.err hN hb (by omega) h, fun w2 v2 hR => rsend_way v2 T z _ hR hz⟩
  · obtain ⟨k, rfl⟩ := Int.eq_ofNat_of_zero_le (show 0 ≤ z by omega)
    have hk : k < 2 := by omega
    by_cases hl : (T k).length = 64
    · exact ⟨5, T, fun q hq => hN.short hq, (nsend_full A n c hN hk hg hl).mono fun e w' h => NRes.err hN hb (by omega) h, fun w2 v2 hR => rsend_full v2 T k _ hR hk hl⟩
    · have hs := hN.short hk
      refine ⟨0, upd T k (T k ++ [strB n f]), fun q hq => ?_, (nsend_ok A n c f hN hk (by omega) hA hf hn hb).mono ?_, fun w2 v2 hR => rsend_ok v2 T k _ hR hk (by omega)⟩
      · by_cases e : q = k
        · subst e; rw [upd_same, List.length_append, List.length_singleton]; omega
        · rw [upd_other _ _ _ _ e]; exact hN.short hq
      · rintro e w' ⟨rfl, h1, h2⟩
        exact ⟨_, rfl, .inl ⟨rfl, rfl⟩, h1, h2⟩
/-- There is a frame i on the way z, or what is wrong. -/
theorem ufind (T : Txt) (z i : Int) : (z < 0 ∨ 2 ≤ z) ∨ ∃ k : Nat, z = (k : Int) ∧ k < 2 ∧ ((i < 0 ∨ ((T k).length : Int) ≤ i) ∨ ∃ (j : Nat) (t : ByteArray), i = (j : Int) ∧ (T k)[j]? = some t) := by
  by_cases hz : z < 0 ∨ 2 ≤ z
  · exact .inl hz
  · obtain ⟨k, rfl⟩ := Int.eq_ofNat_of_zero_le (show 0 ≤ z by omega)
    refine .inr ⟨k, rfl, by omega, ?_⟩
    by_cases hi : i < 0 ∨ ((T k).length : Int) ≤ i
    · exact .inl hi
    · obtain ⟨j, rfl⟩ := Int.eq_ofNat_of_zero_le (show 0 ≤ i by omega)
      exact .inr ⟨j, _, rfl, List.getElem?_eq_getElem (by omega)⟩
theorem upd_short {k : Nat} {l : List ByteArray} (hN : Net w base p T) (hl : l.length ≤ 64) : ∀ q, q < 2 → (upd T k l q).length ≤ 64 := fun q hq => by
  by_cases e : q = k
  · subst e; rw [upd_same]; exact hl
  · rw [upd_other _ _ _ _ e]; exact hN.short hq
theorem ucopy (z i : Int) (hN : Net w base p T) (hg : Handle w) (hb : base ≤ w.heap.size) : ∃ (cd : Int) (T' : Txt), (∀ q, q < 2 → (T' q).length ≤ 64) ∧
    Calls Tryd.prog 14 #[.pointer (some ⟨p, 0, none⟩), .int .i64 z, .int .i64 i] w (NRes w base p T' cd) ∧
    ∀ (w2 : World) v2, Rf w2 v2 T → Calls Tryd.prog 21 #[rvf v2, .int .i64 z, .int .i64 i] w2 (RRes w2 T' cd) := by
  rcases ufind T z i with hz | ⟨k, rfl, hk, hi | ⟨j, t, rfl, ht⟩⟩
  · exact ⟨1, T, fun q hq => hN.short hq, (copy_bad _ _ _ 1 w (find_way _ z i w hg hz)).mono fun e w' h => NRes.err hN hb (by omega) h, fun w2 v2 hR => rcopy_bad v2 T z i 1 (by omega) hR (fun w1 hb1 => rat_way v2 T z i (hR.below hb1) hz)⟩
  · exact ⟨4, T, fun q hq => hN.short hq, (copy_bad _ _ _ 4 w (nfind_none i hN hk hg hi)).mono fun e w' h => NRes.err hN hb (by omega) h, fun w2 v2 hR => rcopy_bad v2 T k i 4 (by omega) hR (fun w1 hb1 => rat_none v2 T k i (hR.below hb1) hk hi)⟩
  · have hs := hN.short hk
    by_cases hl : (T k).length = 64
    · exact ⟨5, T, fun q hq => hN.short hq, (ncopy_full hN hk (List.getElem?_eq_some_iff.1 ht).1 hg hl).mono fun e w' h => NRes.err hN hb (by omega) h, fun w2 v2 hR => rcopy_send v2 T T k j 5 t hR (fun w1 hb1 => rat_ok v2 T k j t (hR.below hb1) hk ht) (fun w1 hb1 => rsend_full v2 T k t (hR.below hb1) hk hl)⟩
    · refine ⟨0, upd T k (T k ++ [t]), upd_short hN (by rw [List.length_append, List.length_singleton]; omega), (ncopy_ok hN hk ht (by omega) hb).mono ?_, fun w2 v2 hR => rcopy_send v2 T _ k j 0 t hR (fun w1 hb1 => rat_ok v2 T k j t (hR.below hb1) hk ht) (fun w1 hb1 => rsend_ok v2 T k t (hR.below hb1) hk (by omega))⟩
      rintro e w' ⟨rfl, h1, h2⟩
      exact ⟨_, rfl, .inl ⟨rfl, rfl⟩, h1, h2⟩
theorem uflip (z i b : Int) (hN : Net w base p T) (hg : Handle w) (hb : base ≤ w.heap.size) (hb2 : b < 9223372036854775808) : ∃ (cd : Int) (T' : Txt), (∀ q, q < 2 → (T' q).length ≤ 64) ∧
    Calls Tryd.prog 16 #[.pointer (some ⟨p, 0, none⟩), .int .i64 z, .int .i64 i, .int .i64 b] w (NRes w base p T' cd) ∧
    ∀ (w2 : World) v2, Rf w2 v2 T → Calls Tryd.prog 18 #[rvf v2, .int .i64 z, .int .i64 i, .int .i64 b] w2 (RRes w2 T' cd) := by
  rcases ufind T z i with hz | ⟨k, rfl, hk, hi | ⟨j, t, rfl, ht⟩⟩
  · exact ⟨1, T, fun q hq => hN.short hq, (flip_bad _ _ _ _ 1 w (find_way _ z i w hg hz)).mono fun e w' h => NRes.err hN hb (by omega) h, fun w2 v2 hR => rflip_bad v2 T z i b 1 (by omega) hR (fun w1 hb1 => rat_way v2 T z i (hR.below hb1) hz)⟩
  · exact ⟨4, T, fun q hq => hN.short hq, (flip_bad _ _ _ _ 4 w (nfind_none i hN hk hg hi)).mono fun e w' h => NRes.err hN hb (by omega) h, fun w2 v2 hR => rflip_bad v2 T k i b 4 (by omega) hR (fun w1 hb1 => rat_none v2 T k i (hR.below hb1) hk hi)⟩
  · have hs := hN.short hk
    by_cases hB : b < 0 ∨ 8 * (t.size : Int) ≤ b
    · exact ⟨1, T, fun q hq => hN.short hq, (nflip_range hN hk ht hg hB).mono fun e w' h => NRes.err hN hb (by omega) h, fun w2 v2 hR => rflip_range v2 T k j b t hR hk ht hB hb2⟩
    · obtain ⟨B, rfl⟩ := Int.eq_ofNat_of_zero_le (show 0 ≤ b by omega)
      refine ⟨0, upd T k ((T k).set j (flipT t B)), upd_short hN (by rw [List.length_set]; exact hs), (nflip_ok hN hk ht (by omega) hb).mono ?_, fun w2 v2 hR => rflip_ok v2 T k j B t hR hk ht hs (by omega) (by omega)⟩
      rintro e w' ⟨rfl, h1, h2⟩
      exact ⟨_, rfl, .inl ⟨rfl, rfl⟩, h1, h2⟩
theorem udeliver (z i : Int) (hN : Net w base p T) (hg : Handle w) (hb : base ≤ w.heap.size) : ∃ (cd : Int) (T' : Txt) (t : ByteArray), (∀ q, q < 2 → (T' q).length ≤ 64) ∧
    (∀ w1, Below w.heap.size w w1 → Calls Tryd.prog 17 #[.pointer (some ⟨p, 0, none⟩), .int .i64 z, .int .i64 i] w1 (NResB w1 base p T' t cd)) ∧
    (∀ w1, Below w.heap.size w w1 → Calls Tryd.prog 15 #[.pointer (some ⟨p, 0, none⟩), .int .i64 z, .int .i64 i] w1 (NRes w1 base p T' cd)) ∧
    ∀ (w2 : World) v2, Rf w2 v2 T → Calls Tryd.prog 20 #[rvf v2, .int .i64 z, .int .i64 i] w2 (RRes3 w2 T' t cd) := by
  have hgb : ∀ w1, Below w.heap.size w w1 → Handle w1 := fun w1 h => hg.below h hg.pos
  have hbb : ∀ w1, Below w.heap.size w w1 → base ≤ w1.heap.size := fun w1 h => Nat.le_trans hb h.size
  rcases ufind T z i with hz | ⟨k, rfl, hk, hi | ⟨j, t, rfl, ht⟩⟩
  · exact ⟨1, T, ⟨#[]⟩, fun q hq => hN.short hq, fun w1 h1 => (deliver_bad _ _ _ 1 w1 (find_way _ z i w1 (hgb w1 h1) hz)).mono fun e w' h => NResB.err (hN.below h1) (hbb w1 h1) (by omega) h,
      fun w1 h1 => (drop_bad _ _ _ 1 w1 (find_way _ z i w1 (hgb w1 h1) hz)).mono fun e w' h => NRes.err (hN.below h1) (hbb w1 h1) (by omega) h, fun w2 v2 hR => rdeliver_bad v2 T z i 1 (by omega) hR (fun w1 hb1 => rat_way v2 T z i (hR.below hb1) hz)⟩
  · exact ⟨4, T, ⟨#[]⟩, fun q hq => hN.short hq, fun w1 h1 => (deliver_bad _ _ _ 4 w1 (nfind_none i (hN.below h1) hk (hgb w1 h1) hi)).mono fun e w' h => NResB.err (hN.below h1) (hbb w1 h1) (by omega) h,
      fun w1 h1 => (drop_bad _ _ _ 4 w1 (nfind_none i (hN.below h1) hk (hgb w1 h1) hi)).mono fun e w' h => NRes.err (hN.below h1) (hbb w1 h1) (by omega) h, fun w2 v2 hR => rdeliver_bad v2 T k i 4 (by omega) hR (fun w1 hb1 => rat_none v2 T k i (hR.below hb1) hk hi)⟩
  · have hs := hN.short hk
    refine ⟨0, upd T k ((T k).eraseIdx j), t, upd_short hN (Nat.le_trans (List.length_eraseIdx_le _ _) hs), fun w1 h1 => (ndeliver_ok (hN.below h1) hk ht (hbb w1 h1)).mono ?_, fun w1 h1 => (ndrop_ok (hN.below h1) hk (List.getElem?_eq_some_iff.1 ht).1 (hbb w1 h1)).mono ?_, fun w2 v2 hR => rdeliver_ok v2 T k j t hR hk ht hs⟩
    · rintro e w' ⟨⟨b, n, f, rfl, hT⟩, h1, h2⟩
      exact ⟨some ⟨b, 0, none⟩, n, n, _, rfl, .inl ⟨rfl, rfl⟩, fun w2 hh => hT.conv2 hh, h1, h2⟩
    · rintro e w' ⟨rfl, h1, h2⟩
      exact ⟨_, rfl, .inl ⟨rfl, rfl⟩, h1, h2⟩
theorem uat (z i : Int) (hN : Net w base p T) (hg : Handle w) (hb : base ≤ w.heap.size) : ∃ (cd : Int) (t : ByteArray),
    Calls Tryd.prog 10 #[.pointer (some ⟨p, 0, none⟩), .int .i64 z, .int .i64 i] w (NResB w base p T t cd) ∧
    ∀ (w2 : World) v2, Rf w2 v2 T → Calls Tryd.prog 22 #[rvf v2, .int .i64 z, .int .i64 i] w2 (RAt w2 t cd) := by
  rcases ufind T z i with hz | ⟨k, rfl, hk, hi | ⟨j, t, rfl, ht⟩⟩
  · exact ⟨1, ⟨#[]⟩, (at_bad _ _ _ 1 w (find_way _ z i w hg hz)).mono fun e w' h => NResB.err hN hb (by omega) h, fun w2 v2 hR => rat_way v2 T z i hR hz⟩
  · exact ⟨4, ⟨#[]⟩, (at_bad _ _ _ 4 w (nfind_none i hN hk hg hi)).mono fun e w' h => NResB.err hN hb (by omega) h, fun w2 v2 hR => rat_none v2 T k i hR hk hi⟩
  · refine ⟨0, t, (nat_ok hN hk ht).mono ?_, fun w2 v2 hR => rat_ok v2 T k j t hR hk ht⟩
    rintro e w' ⟨b, n, f, rfl, hT, hB⟩
    exact ⟨some ⟨b, 0, none⟩, n, n, _, rfl, .inl ⟨rfl, rfl⟩, fun w2 hh => hT.conv2 hh, hN.below hB, Step.of_below hB hb⟩
end
end Go.Proofs.YtfilhlilagmhlaaDoor
