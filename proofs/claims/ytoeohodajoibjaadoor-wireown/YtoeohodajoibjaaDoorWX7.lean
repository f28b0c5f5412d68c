/- WireOwn's walk. -/
import Derived.Test.YtoeohodajoibjaaDoorWX6
namespace Go.Proofs.YtoeohodajoibjaaDoor
open Go.RowKit

/-- Block g has n cells at least that may be written. -/
def Room (w : World) (t g n : Nat) : Prop := ∃ cur, w.heap[g]? = some (.cells cur t (0, 0)) ∧ n ≤ cur.size
theorem Room.cell {w : World} {t g n : Nat} (h : Room w t g n) (i : Nat) (hi : i < n) : ∃ v, w.cell? ⟨g, i, none⟩ = some v := by
  obtain ⟨cur, hg, hs⟩ := h
  rw [cell_of_row w g i cur t (0, 0) hg]
  exact ⟨_, Array.getElem?_eq_getElem (by omega)⟩
theorem Room.frozen {w : World} {t g n : Nat} (h : Room w t g n) (i : Nat) : w.frozen? ⟨g, i, none⟩ = false := by
  obtain ⟨cur, hg, _⟩ := h
  simp [World.frozen?, hg]
theorem Room.set {w : World} {t g n : Nat} (h : Room w t g n) (i : Nat) (v : Value) : Room (w.setCell ⟨g, i, none⟩ v) t g n := by
  obtain ⟨cur, hg, hs⟩ := h
  exact ⟨cur.setIfInBounds i v, by simp [World.setCell, Array.getElem?_modify, hg], by simpa using hs⟩
theorem Room.block {w w' : World} {t g n : Nat} (h : Room w t g n) (hb : w'.heap[g]? = w.heap[g]?) : Room w' t g n := by
  obtain ⟨cur, hg, hs⟩ := h
  exact ⟨cur, hb.trans hg, hs⟩
theorem elemW : Tryd.prog.elem 34 = 46 := by kernel_rfl
theorem sizeW (w : World) : (sizeOf (Tryd.prog.elem 34)).run Tryd.prog w = .ok 1 w := by
  obtain ⟨i0, hi, _, hz1, _⟩ := infoW
  rw [elemW]
  simp [sizeOf, typeInfo, hi, hz1]
theorem undW : Tryd.prog.underlying 34 = some (.slice (Tryd.prog.elem 34)) := by rw [elemW]; exact Tryd.underlying34
theorem run_headW (w : World) (A : Option Addr) (n c h : Nat) (hc : h ≤ c) :
    (Instr.slice 34 (.slice A n c) none (some (.int .i64 (h : Int))) none).run Tryd.prog w = .ok (.slice A h c) w := by
  have hr := run_slice_h w 34 A n c undW .i64 (h : Int) (by omega) (by omega)
  rw [sizeW] at hr
  rw [hr]
  simp only [Result.andThen, sliced, Int.toNat_natCast, Nat.sub_zero, Nat.zero_mul]
  rcases A with _ | ad
  · simp
  · simp [Addr.add]
/-- A list of the call's own that isn't empty: its block. -/
theorem ownW_block {w : World} {base n : Nat} {v : Value} {f : Nat → Int} (h : w.ownsRow base 46 1 v n (wordsOf n f)) (hn : 0 < n) : ∃ g k, v = sl8 g n k ∧ base ≤ g ∧ g < w.heap.size ∧ n ≤ k ∧ k ≤ maxLen ∧ AtO w (some ⟨g, 0, none⟩) n f ∧ Room w 46 g n := by
  rcases h.2 with ⟨rfl, hx⟩ | ⟨g, cap, cur, rfl, hb, hg, hnc, hm, hsz, ht⟩
  · omega
  · obtain ⟨A, c, e, _, _, _, hA⟩ := own_lst h
    injection e with e1 e2 e3
    subst e1
    exact ⟨g, cap, rfl, hb, (Array.getElem?_eq_some_iff.1 hg).1, hnc, hm, hA, cur, hg, by rw [hsz, Nat.mul_one]; exact hnc⟩
theorem OR.room {w : World} {base g n k : Nat} {f : Nat → Nat} (h : OR w base (sl8 g n k) n f) : Room w 5 g n := by
  rcases h.2 with ⟨hx, _⟩ | ⟨g', cap, cur, hv, hb, hg, hnc, hm, hsz, ht⟩
  · cases hx
  · injection hv with e1 e2 e3
    injection e1 with e1
    injection e1 with e1
    subst e1 e3
    exact ⟨cur, hg, by rw [hsz, Nat.mul_one]; exact hnc⟩
/-- The first n words and the seven behind them. -/
def andOne (n : Nat) (f : Nat → Int) (x : Int) (i : Nat) : Int := if i < n then f i else x
theorem words_head {w : World} {A : Option Addr} {n : Nat} {f : Nat → Int} {x : Int} (h : AtO w A (n + 1) (andOne n f x)) : AtO w A n f := fun i hi => by
  obtain ⟨ad, e, hc⟩ := h i (by omega)
  refine ⟨ad, e, ?_⟩
  unfold andOne at hc
  rw [if_pos hi] at hc
  exact hc
theorem words_last {w : World} {g n : Nat} {f : Nat → Int} {x : Int} (h : AtO w (some ⟨g, 0, none⟩) (n + 1) (andOne n f x)) : w.cell? ⟨g, n, none⟩ = some (.int .u64 x) := by
  obtain ⟨ad, e, hc⟩ := h n (by omega)
  cases e
  rw [Addr.add_mid, Nat.zero_add] at hc
  unfold andOne at hc
  rw [if_neg (by omega)] at hc
  exact hc
/-- The end of WireOwn: what was answered stands, whatever became of what was handed in. -/
def OwnEnd (w wr : World) (A : Option Addr) (n la gb gw gx : Nat) (ws : Nat → Nat) : Prop :=
  Below w.heap.size w wr ∧ AtO wr A n (fun i => (ws i : Int)) ∧ AtB wr ⟨gb, 0, none⟩ la (Wire.encB 1 n ws) ∧ Own wr gw n (fun i => (ws i : Int)) ∧ Msg wr gx 1 (.slice (some ⟨gw, 0, none⟩) n n)
theorem OwnEnd.keep {w wr w' : World} {A : Option Addr} {n la gb gw gx g : Nat} {ws : Nat → Nat} (h : OwnEnd w wr A n la gb gw gx ws) (hk : Keep g wr w') (hg : w.heap.size ≤ g) (h1 : gb ≠ g) (h2 : gw ≠ g) (h3 : gx ≠ g) (hA : AtO w A n (fun i => (ws i : Int))) : OwnEnd w w' A n la gb gw gx ws := by
  have hb : Below w.heap.size w w' := hk.below h.1 hg h.1.size
  exact ⟨hb, hA.below hb, hk.atB h.2.2.1 h1, (hk.block gw h.2.2.2.1.lt h2).trans h.2.2.2.1, (hk.block gx h.2.2.2.2.lt h3).trans h.2.2.2.2⟩
theorem OwnEnd.below {w wr w' : World} {A : Option Addr} {n la gb gw gx : Nat} {ws : Nat → Nat} (h : OwnEnd w wr A n la gb gw gx ws) (hb : Below wr.heap.size wr w') : OwnEnd w w' A n la gb gw gx ws :=
  ⟨h.1.trans (hb.mono h.1.size), h.2.1.below hb, AtB.below h.2.2.1 hb, h.2.2.2.1.below hb h.2.2.2.1.lt, h.2.2.2.2.below hb h.2.2.2.2.lt⟩
theorem ownsW_alloc2 {w : World} {base n : Nat} {v : Value} {f : Nat → Int} (h : w.ownsRow base 46 1 v n (wordsOf n f)) (o : Obj) : (w.alloc o).ownsRow base 46 1 v n (wordsOf n f) := World.ownsRow.alloc h o
theorem one_word2 (w : World) (x : Int) : AtO (w.alloc (.cells #[.int .u64 x] 46)) (some ⟨w.heap.size, 0, none⟩) 1 (fun _ => x) := fun i hi => by
  obtain rfl : i = 0 := by omega
  exact ⟨_, rfl, by simp [Addr.add]⟩
set_option maxHeartbeats 4000000 in
set_option maxRecDepth 100000 in
theorem own_walk (z : Int) (A : Option Addr) (N c : Nat) (ws : Nat → Nat) (w : World) (hg : Handle w) (hA : AtO w A N (fun i => (ws i : Int))) (h0 : A = none → N = 0 ∧ c = 0) (hNc : N ≤ c) (hw : ∀ i, ws i < 18446744073709551616) :
    Calls Tryd.prog 7 #[msg z (.slice A N c)] w fun e w' => e = .returned (.bool true) ∧ Below w.heap.size w w' := by
  obtain ⟨n, hn⟩ : ∃ n, n = min N 1000 := ⟨_, rfl⟩
  have em : (if (1000 : Int) < (N : Int) then 1000 else (N : Int)) = (n : Int) := by split <;> omega
  have em' : (if 1000 < N then (1000 : Int) else (N : Int)) = (n : Int) := by split <;> omega
  have hsl := fun wx => run_headW wx A N c n (by omega)
  have HN := Lib.hid (show True ∧ n ≤ 1000 ∧ n ≤ N from ⟨trivial, by omega, by omega⟩)
  have HA := Lib.hid (And.intro (show AtO w A n (fun i => (ws i : Int)) from fun i hi => hA i (by omega)) (And.intro (show A = none → n = 0 ∧ c = 0 from fun h => ⟨by have := h0 h; omega, (h0 h).2⟩) hw))
  have HG := Lib.hid hg
  have HM0 := Lib.hid (show Below w.heap.size w (w.alloc (.cells #[.int .i64 z, .slice A N c] 36)) ∧ Msg (w.alloc (.cells #[.int .i64 z, .slice A N c] 36)) w.heap.size z (.slice A N c) from ⟨(Below.refl _ _).alloc (Nat.le_refl _) _, Msg.new w z _⟩)
  clear hA h0 hNc hw hg hn
  go_enter Tryd.func7, Tryd.ntmps7
  go_wp2_with fail
  generalize w.alloc (.cells #[.int .i64 z, .slice A N c] 36) = w0 at HM0 ⊢
  refine (awake_any w0).mono ?_
  rintro e w1 ⟨rfl, hb1⟩
  have hM1 := HM0.out.2.below hb1 HM0.out.2.lt
  have hB1 := HM0.out.1.trans (hb1.mono HM0.out.1.size)
  have a1 := hM1.cell1
  obtain ⟨v2, w2, hr2, ho2, hb2⟩ := copyW w1 A n c _ (HA.out.1.below hB1) HA.out.2.1 (by have := HN.out.2.1; omega)
  obtain ⟨v3, w3, hr3, ho3, hb3⟩ := append_own (w2.alloc (.cells #[.int .u64 7] 46)) w1.heap.size v2 n 1 _ (fun _ => 7) (some ⟨w2.heap.size, 0, none⟩) 1 (ownsW_alloc2 ho2 _) (one_word2 w2 7) (fun h => by cases h) (by have := HN.out.2.1; omega) (by have := hb2.size; simp; omega)
  have ho3' : w3.ownsRow w1.heap.size 46 1 v3 (n + 1) (wordsOf (n + 1) (andOne n (fun i => (ws i : Int)) 7)) := ho3
  obtain ⟨gr, kr, rfl, hgr1, hgr2, hkr, _, hAr, hRr⟩ := ownW_block ho3' (by omega)
  obtain ⟨A2, c2, rfl, _, _, _, _⟩ := own_lst ho2
  have hB3 : Below w1.heap.size w1 w3 := (hb2.alloc hb2.size _).trans hb3
  have HQ2 := Lib.hid hr2
  have HQ3 := Lib.hid hr3
  have H3 := Lib.hid (And.intro (hB1.trans (hB3.mono hB1.size)) (And.intro hAr (And.intro hRr (And.intro hgr1 (And.intro hgr2 (And.intro hkr hB1.size))))))
  clear hb1 hM1 hB1 hr2 ho2 hb2 hr3 ho3 ho3' hb3 hgr1 hgr2 hkr hAr hRr hB3 HM0
  have hsl2 := fun wx => run_headW wx (some ⟨gr, 0, none⟩) (n + 1) kr n (by have := H3.out.2.2.2.2.2.1; omega)
  go_wp2_with (at_builtin; first
    | (refine wpList_append_run rfl _ _ 34 rfl (sl8 w1.heap.size 0 0) (.slice A n c) (.slice A2 n c2) w2 rfl rfl HQ2.out ?_)
    | (refine wpList_append_run rfl _ _ 34 rfl (.slice A2 n c2) (.slice (some ⟨w2.heap.size, 0, none⟩) 1 1) (sl8 gr (n + 1) kr) w3 rfl rfl HQ3.out ?_))
  clear HQ2 HQ3 a1 em em' hsl
  refine (encode_ok 1 (some ⟨gr, 0, none⟩) n kr ws w3 (words_head H3.out.2.1) (by omega) (by have := HN.out.2.1; omega)).mono ?_
  rintro e w4 ⟨gb, kb, rfl, ho4, hb4⟩
  obtain ⟨la, hla⟩ : ∃ z, z = Wire.encLen 1 n := ⟨_, rfl⟩
  have hlam : la ≤ 9000 ∧ 0 < la := by
    have h1 := Wire.nlen_most 1 (by omega)
    have h2 := Wire.nlen_most n (by have := HN.out.2.1; omega)
    have h3 := HN.out.2.1
    have h4 := Wire.nlen_pos n
    rw [hla]; unfold Wire.encLen; omega
  have HEB := Lib.hid (enc_back 1 n ws (by omega) (by have := HN.out.2.1; omega) HA.out.2.2)
  rw [← hla] at ho4 HEB ⊢
  have HLA := Lib.hid (And.intro hla hlam)
  have hB4 := H3.out.1.trans (hb4.mono H3.out.1.size)
  have H4 := Lib.hid (And.intro hB4 (And.intro (H3.out.2.1.below hb4) (And.intro (H3.out.2.2.1.block (hb4.block gr H3.out.2.2.2.2.1)) (And.intro ho4.lt.2.2.2.2 (And.intro ho4.lt.1 (And.intro ho4.lt.2.1 ho4.lt.2.2.1))))))
  have HGR := Lib.hid (And.intro (Nat.le_trans H3.out.2.2.2.2.2.2 H3.out.2.2.2.1) H3.out.2.2.2.2.1)
  clear hla hlam ho4 hb4 hB4 H3
  have c7 := words_last H4.out.2.1
  have hlt7 : (n : Int) < (n : Int) + 1 := by omega
  go_wp2_with fail
  refine (words_any _ A n n kr c _ (fun i => (ws i : Int)) w4 (by have := HN.out.2.1; unfold maxLen; omega) (words_head H4.out.2.1) (HA.out.1.below H4.out.1)).mono ?_
  rintro e w5 ⟨b, rfl, hb, hb5⟩
  obtain rfl : b = true := hb.2 ⟨rfl, fun _ _ => rfl⟩
  have hB5 := H4.out.1.trans (hb5.mono H4.out.1.size)
  have hAb5 := AtB.below H4.out.2.2.2.1 hb5
  obtain ⟨gc, kc, w6, hr6, ho6, hb6⟩ := copyB w5 (some ⟨gb, 0, none⟩) la kb _ hAb5.opt (fun h => by cases h) (by have := HLA.out.2.1; omega)
  obtain ⟨gi, ki, w7, hr7, ho7, hb7⟩ := push 9 ho6 (by have := HLA.out.2.1; omega) hb6.size (thenB la (Wire.encB 1 n ws) (fun _ => 9)) (fun i hi => by unfold thenB; rw [if_pos hi]) (by unfold thenB; rw [if_neg (by omega)])
  have hb57 : Below w5.heap.size w5 w7 := hb6.trans hb7
  have hB7 := hB5.trans (hb57.mono hB5.size)
  have hAi : AtB w7 ⟨gi, 0, none⟩ la (Wire.encB 1 n ws) := fun i hi => by
    have := ho7.lt.2.2.2.2 i (by omega)
    unfold thenB at this
    rw [if_pos hi] at this
    exact this
  have hAi9 : w7.cell? ⟨gi, la, none⟩ = some (.int .u8 9) := by
    have := AtB.cell ho7.lt.2.2.2.2 la (by omega)
    rw [Nat.zero_add] at this
    unfold thenB at this
    rw [if_neg (by omega)] at this
    exact this
  have HQ6 := Lib.hid hr6
  have HQ7 := Lib.hid hr7
  have hz45 := hb5.size
  have H7 := Lib.hid (And.intro hB7 (And.intro (H4.out.2.2.1.block ((hb57.block gr (Nat.lt_of_lt_of_le (Nat.lt_of_lt_of_le HGR.out.2 (Nat.le_trans H4.out.2.2.2.2.1 (Nat.le_of_lt H4.out.2.2.2.2.2.1))) hz45)).trans (hb5.block gr (Nat.lt_of_lt_of_le HGR.out.2 (Nat.le_trans H4.out.2.2.2.2.1 (Nat.le_of_lt H4.out.2.2.2.2.2.1)))))) (And.intro (AtB.below hAb5 hb57) (And.intro hAi (And.intro hAi9 (And.intro ho7.room (And.intro ho7.lt.1 (And.intro ho7.lt.2.1 ho7.lt.2.2.1))))))))
  have HGB := Lib.hid (show gr < gb ∧ gb < w5.heap.size from ⟨Nat.lt_of_lt_of_le HGR.out.2 H4.out.2.2.2.2.1, Nat.lt_of_lt_of_le H4.out.2.2.2.2.2.1 hz45⟩)
  clear hb hb5 hB5 hAb5 hr6 ho6 hb6 hr7 ho7 hb7 hb57 hB7 hAi hAi9 hz45 H4 c7 hlt7
  have hsl3 := fun wx => run_headB wx (some ⟨gi, 0, none⟩) (la + 1) ki la (by have := H7.out.2.2.2.2.2.2.2.2; omega)
  go_wp2_with (at_builtin; first
    | (refine wpList_append_run rfl _ _ 22 rfl (sl8 w5.heap.size 0 0) (sl8 gb la kb) (sl8 gc la kc) w6 rfl rfl HQ6.out ?_)
    | (refine wpList_append_run rfl _ _ 22 rfl (sl8 gc la kc) (.slice (some ⟨w6.heap.size, 0, none⟩) 1 1) (sl8 gi (la + 1) ki) w7 rfl rfl HQ7.out ?_))
  clear HQ6 HQ7
  refine (decode_any (some ⟨gi, 0, none⟩) la ki _ w7 (HG.out.below H7.out.1 HG.out.pos) H7.out.2.2.2.1.opt (by have := H7.out.2.2.2.2.2.2.2.2; omega) (by have := HLA.out.2.1; unfold maxLen; omega) (Wire.encB_lt 1 n ws)).mono ?_
  rintro e w8 hD
  obtain ⟨gw, rfl, hW, hgw, hb8⟩ := hD.1 HEB.out.1
  rw [HEB.out.2.1, HEB.out.2.2.1]
  rw [HEB.out.2.2.1] at hW
  have hWs : Own w8 gw n (fun i => (ws i : Int)) := hW.congr HEB.out.2.2.2
  have hb9 : Below w8.heap.size w8 (w8.alloc (.cells #[.int .i64 1, .slice (some ⟨gw, 0, none⟩) n n] 36)) := (Below.refl _ _).alloc (Nat.le_refl _) _
  have hX := Msg.new w8 1 (.slice (some ⟨gw, 0, none⟩) n n)
  have hb79 := hb8.trans (hb9.mono hb8.size)
  have hB9 := H7.out.1.trans (hb79.mono H7.out.1.size)
  have hl7 := H7.out.2.2.2.2.2.2
  have H9 := Lib.hid (show OwnEnd w (w8.alloc (.cells #[.int .i64 1, .slice (some ⟨gw, 0, none⟩) n n] 36)) A n la gb gw w8.heap.size ws from ⟨hB9, HA.out.1.below hB9, AtB.below H7.out.2.2.1 hb79, hWs.below hb9 hWs.lt, hX⟩)
  have HI9 := Lib.hid (And.intro (AtB.below H7.out.2.2.2.1 hb79) (And.intro ((hb79.cell (p := ⟨gi, la, none⟩) hl7.2.1).trans H7.out.2.2.2.2.1) (And.intro (H7.out.2.2.2.2.2.1.block (hb79.block gi hl7.2.1)) (H7.out.2.1.block (hb79.block gr (by have := HGB.out; omega))))))
  have HOrd := Lib.hid (show w.heap.size ≤ gr ∧ gr < gb ∧ gb < gi ∧ gi < gw ∧ gw < w8.heap.size from ⟨HGR.out.1, HGB.out.1, by have := HGB.out.2; omega, by omega, hWs.lt⟩)
  clear hD hW hgw hb8 hWs hb9 hX hb79 hB9 hl7 H7
  go_wp2
  generalize hgx : w8.heap.size = gx at H9 HOrd ⊢
  generalize w8.alloc (.cells #[.int .i64 1, .slice (some ⟨gw, 0, none⟩) n n] 36) = w9 at H9 HI9 ⊢
  clear hgx
  refine wp_region_held_drew (S := fun w' => Below w9.heap.size w9 w') (by kernel_rfl) ((Below.refl _ _).drew) (fun hHeld => ?_)
  have hla2 : (la : Int) < (la : Int) + 1 := by omega
  refine wpAnyH_take (i := 0) (v := .nilIface) rfl (by kernel_rfl) (by kernel_rfl) (by kernel_rfl) (fun _ _ _ h => h) (.inl ⟨rfl, fun w' hw' => by go_simp⟩) hHeld ?_
  refine wpAnyH_take (i := 1) (v := .bool false) rfl (by kernel_rfl) (by kernel_rfl) (by kernel_rfl) (fun _ _ _ h => h) (.inl ⟨rfl, fun w' hw' => by go_simp⟩) hHeld ?_
  try simp only [List.getElem_toArray, List.getElem_cons_succ, List.getElem_cons_zero, Act.put, List.setIfInBounds_toArray, List.set_cons_zero, List.set_cons_succ]
  refine wpAnyH_take (i := 2) (v := .bool false) rfl (by kernel_rfl) (by kernel_rfl) (by kernel_rfl) (fun _ _ _ h => h) (.inl ⟨rfl, fun w' hw' => by go_simp⟩) hHeld ?_
  refine wpAnyH_take (i := 3) (v := sl8 gi (la + 1) ki) rfl (by kernel_rfl) (by kernel_rfl) (by kernel_rfl) (fun _ _ _ h => h) (.inl ⟨rfl, fun w' hw' => by go_simp⟩) hHeld ?_
  try simp only [List.getElem_toArray, List.getElem_cons_succ, List.getElem_cons_zero, Act.put, List.setIfInBounds_toArray, List.set_cons_zero, List.set_cons_succ]
  refine wpAnyH_take (i := 4) (v := sl8 gb la kb) rfl (by kernel_rfl) (by kernel_rfl) (by kernel_rfl) (fun _ _ _ h => h) (.inl ⟨rfl, fun w' hw' => by go_simp⟩) hHeld ?_
  refine wpAnyH_take (i := 5) (v := .int .i64 (la : Int)) rfl (by kernel_rfl) (by kernel_rfl) (by kernel_rfl) (fun _ _ _ h => h) (.inl ⟨rfl, fun w' hw' => by go_simp⟩) hHeld ?_
  try simp only [List.getElem_toArray, List.getElem_cons_succ, List.getElem_cons_zero, Act.put, List.setIfInBounds_toArray, List.set_cons_zero, List.set_cons_succ]
  refine wpAnyH_take (i := 6) (v := .pointer (some ⟨gi, la, none⟩)) rfl (by kernel_rfl) (by kernel_rfl) (by kernel_rfl) (fun _ _ _ h => h) (.inl ⟨rfl, fun w' hw' => by go_simp⟩) hHeld ?_
  refine wpAnyH_take (i := 7) (v := .int .u8 9) rfl (by kernel_rfl) (by kernel_rfl) (by kernel_rfl) (fun _ _ _ h => h) (.inl ⟨rfl, fun w' hw' => by have c9 := (hw'.cell (p := ⟨gi, la, none⟩) (World.block_lt_of_cell? _ _ HI9.out.2.1)).trans HI9.out.2.1; go_simp⟩) hHeld ?_
  try simp only [List.getElem_toArray, List.getElem_cons_succ, List.getElem_cons_zero, Act.put, List.setIfInBounds_toArray, List.set_cons_zero, List.set_cons_succ]
  refine wpAnyH_take (i := 8) (v := .bool false) rfl (by kernel_rfl) (by kernel_rfl) (by kernel_rfl) (fun _ _ _ h => h) (.inl ⟨rfl, fun w' hw' => by go_simp⟩) hHeld ?_
  refine wpAnyH_take (i := 9) (v := .bool false) rfl (by kernel_rfl) (by kernel_rfl) (by kernel_rfl) (fun _ _ _ h => h) (.inl ⟨rfl, fun w' hw' => by rfl⟩) hHeld ?_
  try simp only [List.getElem_toArray, List.getElem_cons_succ, List.getElem_cons_zero, Act.put, List.setIfInBounds_toArray, List.set_cons_zero, List.set_cons_succ]
  refine wpAnyH_take (i := 10) (v := .bool false) rfl (by kernel_rfl) (by kernel_rfl) (by kernel_rfl) (fun _ _ _ h => h) (.inl ⟨rfl, fun w' hw' => by go_simp⟩) hHeld ?_
  refine wpAnyH_take (i := 11) (v := sl8 gi (la + 1) ki) rfl (by kernel_rfl) (by kernel_rfl) (by kernel_rfl) (fun _ _ _ h => h) (.inl ⟨rfl, fun w' hw' => by go_simp⟩) hHeld ?_
  try simp only [List.getElem_toArray, List.getElem_cons_succ, List.getElem_cons_zero, Act.put, List.setIfInBounds_toArray, List.set_cons_zero, List.set_cons_succ]
  refine wpAnyH_take (i := 12) (v := sl8 gb la kb) rfl (by kernel_rfl) (by kernel_rfl) (by kernel_rfl) (fun _ _ _ h => h) (.inl ⟨rfl, fun w' hw' => by go_simp⟩) hHeld ?_
  refine wpAnyH_take (i := 13) (v := .int .i64 (la : Int)) rfl (by kernel_rfl) (by kernel_rfl) (by kernel_rfl) (fun _ _ _ h => h) (.inl ⟨rfl, fun w' hw' => by go_simp⟩) hHeld ?_
  try simp only [List.getElem_toArray, List.getElem_cons_succ, List.getElem_cons_zero, Act.put, List.setIfInBounds_toArray, List.set_cons_zero, List.set_cons_succ]
  refine wpAnyH_take (i := 14) (v := .slice (some ⟨gi, 0, none⟩) la ki) rfl (by kernel_rfl) (by kernel_rfl) (by kernel_rfl) (fun _ _ _ h => h) (.inl ⟨rfl, fun w' hw' => by go_simp⟩) hHeld ?_
  refine wpAnyH_take (i := 15) (v := .string (strB la (Wire.encB 1 n ws))) rfl (by kernel_rfl) (by kernel_rfl) (by kernel_rfl) (fun _ _ _ h => h) (.inl ⟨rfl, fun w' hw' => by have := conv_B w' ⟨gi, 0, none⟩ la ki _ (AtB.below HI9.out.1 hw') (Wire.encB_lt 1 n ws); go_simp⟩) hHeld ?_
  try simp only [List.getElem_toArray, List.getElem_cons_succ, List.getElem_cons_zero, Act.put, List.setIfInBounds_toArray, List.set_cons_zero, List.set_cons_succ]
  refine wpAnyH_take (i := 16) (v := sl8 gb la kb) rfl (by kernel_rfl) (by kernel_rfl) (by kernel_rfl) (fun _ _ _ h => h) (.inl ⟨rfl, fun w' hw' => by go_simp⟩) hHeld ?_
  refine wpAnyH_take (i := 17) (v := .string (strB la (Wire.encB 1 n ws))) rfl (by kernel_rfl) (by kernel_rfl) (by kernel_rfl) (fun _ _ _ h => h) (.inl ⟨rfl, fun w' hw' => by have := conv_B w' ⟨gb, 0, none⟩ la kb _ (AtB.below H9.out.2.2.1 hw') (Wire.encB_lt 1 n ws); go_simp⟩) hHeld ?_
  try simp only [List.getElem_toArray, List.getElem_cons_succ, List.getElem_cons_zero, Act.put, List.setIfInBounds_toArray, List.set_cons_zero, List.set_cons_succ]
  generalize strB la (Wire.encB 1 n ws) = s1
  refine wpAnyH_take (i := 18) (v := .bool false) rfl (by kernel_rfl) (by kernel_rfl) (by kernel_rfl) (fun _ _ _ h => h) (.inl ⟨rfl, fun w' hw' => by go_simp⟩) hHeld ?_
  refine wpAnyH_take (i := 19) (v := .bool false) rfl (by kernel_rfl) (by kernel_rfl) (by kernel_rfl) (fun _ _ _ h => h) (.inl ⟨rfl, fun w' hw' => by rfl⟩) hHeld ?_
  refine wpAnyH_done (by kernel_rfl) ?_ _
  try simp only [List.getElem_toArray, List.getElem_cons_succ, List.getElem_cons_zero, Act.put, List.setIfInBounds_toArray, List.set_cons_zero, List.set_cons_succ]
  have H10 := Lib.hid (H9.out.below hHeld)
  have HI10 := Lib.hid (And.intro (HI9.out.2.2.1.block (hHeld.block gi (by obtain ⟨cur, hh, _⟩ := HI9.out.2.2.1; exact (Array.getElem?_eq_some_iff.1 hh).1))) (HI9.out.2.2.2.block (hHeld.block gr (by obtain ⟨cur, hh, _⟩ := HI9.out.2.2.2; exact (Array.getElem?_eq_some_iff.1 hh).1))))
  clear hHeld H9 HI9 hla2 hsl2 hsl3
  generalize w9.drew = w10 at H10 HI10 ⊢
  go_wp2
  go_loopw [89] (fun p wr => ∃ i : Nat, p = .int .i64 i ∧ Hid (True ∧ i ≤ la + 1) ∧ Hid (Room wr 5 gi (la + 1) ∧ Keep gi w10 wr)) (fun p _ => la + 1 - (intOf p).toNat)
  case atStart => exact ⟨0, rfl, ⟨trivial, Nat.zero_le _⟩, HI10.out.1, Keep.refl _ _⟩
  case round =>
    obtain ⟨i, rfl, HI, HK⟩ := hrel
    by_cases hlt : i < la + 1
    · obtain ⟨x, cx⟩ := HK.out.1.cell i hlt
      have fx := HK.out.1.frozen i
      have hlt1 : (i : Int) < (la : Int) + 1 := by omega
      have e1 : IntKind.i64.wrap ((i : Int) + 1) = (i : Int) + 1 := by have := HLA.out.2.1; exact i64_nat _ (by omega) (by omega)
      have HLt := Lib.hid (And.intro trivial hlt)
      clear hlt
      go_wp2
      go_roundw
      case rel => exact ⟨i + 1, rfl, ⟨trivial, HLt.out.2⟩, HK.out.1.set _ _, HK.out.2.set rfl _⟩
      case measure => have := HLt.out.2; simp [intOf]; omega
    · have hlt1 : decide ((i : Int) < (la : Int) + 1) = false := decide_eq_false (by omega)
      have hlt2 : decide (i < la + 1) = false := decide_eq_false hlt
      have hlt3 : ¬ (i : Int) < (la : Int) + 1 := by omega
      have ho := HOrd.out
      have H11 := Lib.hid (H10.out.keep HK.out.2 (by omega) (by omega) (by omega) (by omega) HA.out.1)
      have HI11 := Lib.hid (HI10.out.2.block (HK.out.2.block gr (by obtain ⟨cur, hh, _⟩ := HI10.out.2; exact (Array.getElem?_eq_some_iff.1 hh).1) (by omega)))
      clear hlt ho HK
      obtain ⟨w11, hw11⟩ : ∃ z, z = wr := ⟨_, rfl⟩
      subst hw11
      go_wp2
      clear hlt1 hlt2 hlt3
      go_loopw [98] (fun p wr => ∃ j : Nat, p = .int .i64 j ∧ Hid (True ∧ j ≤ n + 1) ∧ Hid (Room wr 46 gr (n + 1) ∧ Keep gr w11 wr)) (fun p _ => n + 1 - (intOf p).toNat)
      case atStart => exact ⟨0, rfl, ⟨trivial, Nat.zero_le _⟩, HI11.out, Keep.refl _ _⟩
      case round =>
        obtain ⟨j, rfl, HJ, HK2⟩ := hrel
        by_cases hlt : j < n + 1
        · obtain ⟨x, cx⟩ := HK2.out.1.cell j hlt
          have fx := HK2.out.1.frozen j
          have hlt1 : (j : Int) < (n : Int) + 1 := by omega
          have e1 : IntKind.i64.wrap ((j : Int) + 1) = (j : Int) + 1 := by have := HN.out.2.1; exact i64_nat _ (by omega) (by omega)
          have HLt := Lib.hid (And.intro trivial hlt)
          clear hlt
          go_wp2
          go_roundw
          case rel => exact ⟨j + 1, rfl, ⟨trivial, HLt.out.2⟩, HK2.out.1.set _ _, HK2.out.2.set rfl _⟩
          case measure => have := HLt.out.2; simp [intOf]; omega
        · have hlt1 : decide ((j : Int) < (n : Int) + 1) = false := decide_eq_false (by omega)
          have hlt2 : decide (j < n + 1) = false := decide_eq_false hlt
          have hlt3 : ¬ (j : Int) < (n : Int) + 1 := by omega
          have ho := HOrd.out
          have H12 := Lib.hid (H11.out.keep HK2.out.2 (by omega) (by omega) (by omega) (by omega) HA.out.1)
          clear hlt ho HK2
          obtain ⟨w12, hw12⟩ : ∃ z, z = wr := ⟨_, rfl⟩
          subst hw12
          go_wp2
          clear hlt1 hlt2 hlt3
          refine wp_region_held_drew (S := fun w' => Below w12.heap.size w12 w') (by kernel_rfl) ((Below.refl _ _).drew) (fun hHeld => ?_)
          refine wpAnyH_take (i := 0) (v := .pointer (some ⟨gx, 1, none⟩)) rfl (by kernel_rfl) (by kernel_rfl) (by kernel_rfl) (fun _ _ _ h => h) (.inl ⟨rfl, fun w' hw' => by go_simp⟩) hHeld ?_
          refine wpAnyH_take (i := 1) (v := .slice (some ⟨gw, 0, none⟩) n n) rfl (by kernel_rfl) (by kernel_rfl) (by kernel_rfl) (fun _ _ _ h => h) (.inl ⟨rfl, fun w' hw' => by have a1 := (H12.out.2.2.2.2.below hw' H12.out.2.2.2.2.lt).cell1; go_simp⟩) hHeld ?_
          try simp only [List.getElem_toArray, List.getElem_cons_succ, List.getElem_cons_zero, Act.put, List.setIfInBounds_toArray, List.set_cons_zero, List.set_cons_succ]
          refine wpAnyH_take (i := 2) (v := .slice A n c) rfl (by kernel_rfl) (by kernel_rfl) (by kernel_rfl) (fun _ _ _ h => h) (.inl ⟨rfl, fun w' hw' => by go_simp⟩) hHeld ?_
          try simp only [List.getElem_toArray, List.getElem_cons_succ, List.getElem_cons_zero, Act.put, List.setIfInBounds_toArray, List.set_cons_zero, List.set_cons_succ]
          refine wpAnyH_ready (rs := [3]) (by kernel_rfl) (by simp) ?_
          refine AllReadyH.cons rfl (fun K hK => ?_) AllReadyH.nil
          rw [if_pos (by rfl)]
          go_simp
          refine (words_any _ A n n n c (fun i => (ws i : Int)) (fun i => (ws i : Int)) _ (by have := HN.out.2.1; unfold maxLen; omega) (At.own (H12.out.2.2.2.1.below hHeld H12.out.2.2.2.1.lt)).opt (H12.out.2.1.below hHeld)).mono ?_
          rintro e w13 ⟨b, rfl, hb, hb13⟩
          obtain rfl : b = true := hb.2 ⟨rfl, fun _ _ => rfl⟩
          have hS13 : Below w12.heap.size w12 w13 := hHeld.trans (hb13.mono hHeld.size)
          refine hK.out _ _ hS13 (fun hHeld2 => ?_)
          clear hK K hHeld hb hb13 hS13
          try simp only [List.getElem_toArray, List.getElem_cons_succ, List.getElem_cons_zero, Act.put, List.setIfInBounds_toArray, List.set_cons_zero, List.set_cons_succ]
          refine wpAnyH_take (i := 4) (v := .bool true) rfl (by kernel_rfl) (by kernel_rfl) (by kernel_rfl) (fun _ _ _ h => h) (.inl ⟨rfl, fun w' hw' => by go_simp⟩) hHeld2 ?_
          refine wpAnyH_take (i := 5) (v := sl8 gb la kb) rfl (by kernel_rfl) (by kernel_rfl) (by kernel_rfl) (fun _ _ _ h => h) (.inl ⟨rfl, fun w' hw' => by go_simp⟩) hHeld2 ?_
          try simp only [List.getElem_toArray, List.getElem_cons_succ, List.getElem_cons_zero, Act.put, List.setIfInBounds_toArray, List.set_cons_zero, List.set_cons_succ]
          refine wpAnyH_take (i := 6) (v := .string (strB la (Wire.encB 1 n ws))) rfl (by kernel_rfl) (by kernel_rfl) (by kernel_rfl) (fun _ _ _ h => h) (.inl ⟨rfl, fun w' hw' => by have := conv_B w' ⟨gb, 0, none⟩ la kb _ (AtB.below H12.out.2.2.1 hw') (Wire.encB_lt 1 n ws); go_simp⟩) hHeld2 ?_
          refine wpAnyH_take (i := 7) (v := .slice A n c) rfl (by kernel_rfl) (by kernel_rfl) (by kernel_rfl) (fun _ _ _ h => h) (.inl ⟨rfl, fun w' hw' => by go_simp⟩) hHeld2 ?_
          try simp only [List.getElem_toArray, List.getElem_cons_succ, List.getElem_cons_zero, Act.put, List.setIfInBounds_toArray, List.set_cons_zero, List.set_cons_succ]
          refine wpAnyH_ready (rs := [8]) (by kernel_rfl) (by simp) ?_
          refine AllReadyH.cons rfl (fun K hK => ?_) AllReadyH.nil
          rw [if_pos (by rfl)]
          go_simp
          refine (rencode_any 1 A n c ws _ (H12.out.2.1.below hHeld2) HA.out.2.2 (by omega) (by have := HN.out.2.1; omega)).mono ?_
          rintro e w14 ⟨g7, k7, rfl, hO, hb14⟩
          rw [← HLA.out.1] at hO ⊢
          have hS14 : Below w12.heap.size w12 w14 := hHeld2.trans (hb14.mono hHeld2.size)
          refine hK.out _ _ hS14 (fun hHeld3 => ?_)
          clear hK K hHeld2 hb14 hS14
          have hcv := conv_B w14 ⟨g7, 0, none⟩ la k7 (Wire.encB 1 n ws) hO.lt.2.2.2.2 (Wire.encB_lt 1 n ws)
          clear hO
          generalize strB la (Wire.encB 1 n ws) = s1 at hcv ⊢
          refine wpAnyH_ready (rs := [9]) (by kernel_rfl) (by simp) ?_
          refine AllReadyH.cons rfl (fun K hK => ?_) AllReadyH.nil
          rw [if_pos (by rfl)]
          go_simp
          refine hK.out _ _ hHeld3 (fun hHeld4 => ?_)
          clear hK K hHeld3 hcv
          try simp only [List.getElem_toArray, List.getElem_cons_succ, List.getElem_cons_zero, Act.put, List.setIfInBounds_toArray, List.set_cons_zero, List.set_cons_succ]
          refine wpAnyH_take (i := 10) (v := .bool true) rfl (by kernel_rfl) (by kernel_rfl) (by kernel_rfl) (fun _ _ _ h => h) (.inl ⟨rfl, fun w' hw' => by go_simp⟩) hHeld4 ?_
          refine wpAnyH_take (i := 11) (v := .bool true) rfl (by kernel_rfl) (by kernel_rfl) (by kernel_rfl) (fun _ _ _ h => h) (.inl ⟨rfl, fun w' hw' => by rfl⟩) hHeld4 ?_
          refine wpAnyH_take (i := 12) (v := .bool true) rfl (by kernel_rfl) (by kernel_rfl) (by kernel_rfl) (fun _ _ _ h => h) (.inl ⟨rfl, fun w' hw' => by rfl⟩) hHeld4 ?_
          refine wpAnyH_done (by kernel_rfl) ?_ _
          try simp only [List.getElem_toArray, List.getElem_cons_succ, List.getElem_cons_zero, Act.put, List.setIfInBounds_toArray, List.set_cons_zero, List.set_cons_succ]
          have H15 := Lib.hid (H12.out.1.trans (hHeld4.mono H12.out.1.size))
          clear hHeld4 H12
          go_wp2
          go_ret
          exact ⟨rfl, H15.out⟩
end Go.Proofs.YtoeohodajoibjaaDoor
