/- fault's Places and Wrap of any chain: so many names as places; one more place, as long as there are fewer than 64. -/
import Derived.Test.YtkogbighpidfhaaDoorE6
import Derived.Maps.AppendAt
import Derived.OwnWalk
namespace Go.Proofs.YtkogbighpidfhaaDoor
open Go.RowKit Go.Extern.Stop Go.Stop Go.Extern

section
variable {P : Program} {w : World} {ops : Array Oper} {rest : List Oper} {o : Oper} {a : Act} {K : Act → World → Prop} {Q : Exit → Act → World → Prop}
/-- An append whose run is known. -/
theorem wp_appendRun (s x : Operand) (t : TypeId) (ho : o.op = .call { callee := .builtin .append, args := #[s, x], argTypes := #[t, t] }) (v x' v' : Value) (w' : World) (hs : a.eval s = v) (hx : a.eval x = x')
    (hr : (Builtin.append_ #[t, t] o.type #[v, x']).run P w = .ok v' w') (h : K (a.put o.dst v') w') : o.wp P a w K Q := by
  unfold Oper.wp execOp
  simp only [ho, resolve, invoke, builtin, Sem.run_bind, Sem.run_pure, Result.andThen_ok, List.map_toArray, List.map_cons, List.map_nil, hs, hx, hr]
  exact h
theorem wpList_appendRun (hgd : o.guard = none) (s x : Operand) (t : TypeId) (ho : o.op = .call { callee := .builtin .append, args := #[s, x], argTypes := #[t, t] }) (v x' v' : Value) (w' : World) (hs : a.eval s = v) (hx : a.eval x = x')
    (hr : (Builtin.append_ #[t, t] o.type #[v, x']).run P w = .ok v' w') (h : wpList P ops Q rest (a.put o.dst v') w') : wpList P ops Q (o :: rest) a w :=
  wpList_plain hgd fun _ hK => wp_appendRun s x t ho v x' v' w' hs hx hr (hK _ _ h)
end

theorem infoStr : (Tryd.prog.info? 9).map (fun i => (i.zero, i.size, i.bytes)) = some (some (.string ⟨#[]⟩), 1, 16) := by kernel_rfl
theorem infoInt : (Tryd.prog.info? 3).map (fun i => (i.zero, i.size, i.bytes)) = some (some (.int .i64 0), 1, 8) := by kernel_rfl

/-- Rows of different element types lie apart. -/
theorem rows_apart {w : World} {base base' : Nat} {e e' : TypeId} {s s' n n' : Nat} {v v' : Value} {xs xs' : List Value} (h : w.ownsRow base e s v n xs) (h' : w.ownsRow base' e' s' v' n' xs') (hne : e ≠ e') : v'.ownBlock = none ∨ v.ownBlock ≠ v'.ownBlock := by
  rcases h.2 with ⟨rfl, _⟩ | ⟨g, cap, cur, rfl, _, hh, _⟩ <;> rcases h'.2 with ⟨rfl, _⟩ | ⟨g', cap', cur', rfl, _, hh', _⟩
  · exact .inl rfl
  · exact .inr (by simp [Value.ownBlock])
  · exact .inl rfl
  · right
    intro hx
    have : g = g' := by simpa [Value.ownBlock] using hx
    subst this
    rw [hh] at hh'
    injection hh' with hh'
    injection hh' with _ ht
    exact hne ht
theorem own_lt {w : World} {base : Nat} {e : TypeId} {s n : Nat} {v : Value} {xs : List Value} (h : w.ownsRow base e s v n xs) {g : Nat} (hg : v.ownBlock = some g) : g < w.heap.size ∧ base ≤ g := by
  rcases h.2 with ⟨rfl, _⟩ | ⟨g', cap, cur, rfl, hb, hh, _⟩
  · simp [Value.ownBlock] at hg
  · have : g' = g := by simpa [Value.ownBlock] using hg
    subst this
    exact ⟨(Array.getElem?_eq_some_iff.1 hh).1, hb⟩
/-- A row of the call's own stays while another one grows. -/
theorem own_grown {w w' : World} {base : Nat} {e : TypeId} {s n : Nat} {v : Value} {xs : List Value} {row : Option Nat} (h : w.ownsRow base e s v n xs) (hg : w.grownBy w' row) (hr : row = none ∨ v.ownBlock ≠ row) : w'.ownsRow base e s v n xs := by
  refine ⟨h.1, ?_⟩
  rcases h.2 with h0 | ⟨g, cap, cur, rfl, hb, hh, rest⟩
  · exact .inl h0
  · refine .inr ⟨g, cap, cur, rfl, hb, ?_, rest⟩
    rw [hg.block g (Array.getElem?_eq_some_iff.1 hh).1 ?_]
    · exact hh
    · rcases hr with rfl | hr
      · simp
      · simpa [Value.ownBlock] using hr
theorem own_below {w w' : World} {base : Nat} {e : TypeId} {s n : Nat} {v : Value} {xs : List Value} (h : w.ownsRow base e s v n xs) (hb : Below w.heap.size w w') : w'.ownsRow base e s v n xs :=
  own_grown h ⟨hb.os, hb.tape, hb.output, hb.size, fun k hk _ => hb.block k hk⟩ (.inl rfl)
theorem wrp_grown {w w' : World} {base : Nat} {e : TypeId} {s n g : Nat} {v x y z : Value} {xs : List Value} (h : Wrp w g x y z) (ho : w.ownsRow base e s v n xs) (hne : e ≠ 58) (hg : w.grownBy w' v.ownBlock) : Wrp w' g x y z := by
  unfold Wrp at h ⊢
  rw [hg.block g (Array.getElem?_eq_some_iff.1 h).1 ?_]
  · exact h
  · intro hx
    rcases ho.2 with ⟨rfl, _⟩ | ⟨g', cap, cur, rfl, _, hh, _⟩
    · simp [Value.ownBlock] at hx
    · have : g = g' := by simpa [Value.ownBlock] using hx
      subst this
      rw [hh] at h
      injection h with h
      injection h with _ ht
      exact hne ht

/-- Places' loop, while some places are still to come. -/
def PlSt (w : World) (n : Nat) (c : Int) (k : Nat) (v1 v2 pw okv : Value) (wr : World) : Prop :=
  ∃ (rest : List (ByteArray × Int)) (g : Nat) (xs ys : List Value), rest.length = k ∧ k ≤ n ∧ pw = .pointer (some ⟨g, 0, none⟩) ∧ w.heap.size ≤ g ∧
    wr.ownsRow w.heap.size 9 1 v1 (n - k) xs ∧ wr.ownsRow w.heap.size 3 1 v2 (n - k) ys ∧ Below w.heap.size w wr ∧
    ((rest = [] ∧ okv = .bool false) ∨ ∃ p a r, rest = (p, a) :: r ∧ okv = .bool true ∧ Wrp wr g (.string p) (.int .i64 a) (chain r c))
def PlEnd (n : Nat) (w : World) (e : Ending) (w' : World) : Prop := ∃ A1 c1 A2 c2, e = .returned (.tuple #[.slice A1 n c1, .slice A2 n c2]) ∧ Below w.heap.size w w'
theorem own_len {w : World} {base : Nat} {e : TypeId} {s n : Nat} {v : Value} {xs : List Value} (h : w.ownsRow base e s v n xs) : ∃ A c, v = .slice A n c := by
  rcases h.2 with ⟨rfl, rfl⟩ | ⟨g, cap, cur, rfl, _⟩
  · exact ⟨none, 0, rfl⟩
  · exact ⟨_, _, rfl⟩
theorem append_str (w : World) (base : Nat) (v : Value) (n : Nat) (xs : List Value) (p : ByteArray) (g : Nat) (hown : w.ownsRow base 9 1 v n xs) (hc : w.cell? ⟨g, 0, none⟩ = some (.string p)) (hn : n ≤ 1000000) (hbase : base ≤ w.heap.size) :
    ∃ v' w' xs', (Builtin.append_ #[52, 52] 52 #[v, .slice (some ⟨g, 0, none⟩) 1 1]).run Tryd.prog w = .ok v' w' ∧ w'.ownsRow base 9 1 v' (n + 1) xs' ∧ w.grownBy w' v.ownBlock := by
  obtain ⟨i0, hi, hz0, hz1, hz2⟩ := info_parts infoStr
  obtain ⟨v', w', hr, h2, h3, _⟩ := run_append_own_at w base 52 52 9 i0 (.string ⟨#[]⟩) 1 16 Tryd.underlying52 hi hz0 hz1 hz2 rfl (by omega) v n xs hown ⟨g, 0, none⟩ 1 1 [.string p] rfl
    (by
      intro j u hu
      match j, hu with
      | 0, hu => simp at hu; subst hu; exact hc) (by simp [Value.oneCell']) (by unfold maxLen; omega) (by omega) hbase
  exact ⟨v', w', _, hr, h2, h3⟩
theorem append_int (w : World) (base : Nat) (v : Value) (n : Nat) (xs : List Value) (p : Int) (g : Nat) (hown : w.ownsRow base 3 1 v n xs) (hc : w.cell? ⟨g, 0, none⟩ = some (.int .i64 p)) (hn : n ≤ 1000000) (hbase : base ≤ w.heap.size) :
    ∃ v' w' xs', (Builtin.append_ #[43, 43] 43 #[v, .slice (some ⟨g, 0, none⟩) 1 1]).run Tryd.prog w = .ok v' w' ∧ w'.ownsRow base 3 1 v' (n + 1) xs' ∧ w.grownBy w' v.ownBlock := by
  obtain ⟨i0, hi, hz0, hz1, hz2⟩ := info_parts infoInt
  obtain ⟨v', w', hr, h2, h3, _⟩ := run_append_own_at w base 43 43 3 i0 (.int .i64 0) 1 8 Tryd.underlying43 hi hz0 hz1 hz2 rfl (by omega) v n xs hown ⟨g, 0, none⟩ 1 1 [.int .i64 p] rfl
    (by
      intro j u hu
      match j, hu with
      | 0, hu => simp at hu; subst hu; exact hc) (by simp [Value.oneCell']) (by unfold maxLen; omega) (by omega) hbase
  exact ⟨v', w', _, hr, h2, h3⟩
theorem grown_below {B : Nat} {a w w' : World} {base : Nat} {e : TypeId} {s n : Nat} {v : Value} {xs : List Value} (h : Below B a w) (hB : B ≤ w.heap.size) (ho : w.ownsRow base e s v n xs) (hb : B ≤ base) (hg : w.grownBy w' v.ownBlock) : Below B a w' :=
  h.grown hg hB fun _ hk => Nat.le_trans hb (own_lt ho hk).2
/-- A row stays while the cells of a wrapped error are written. -/
theorem own_set3 {w : World} {base : Nat} {e : TypeId} {s n g : Nat} {v x y z : Value} {xs : List Value} (h : w.ownsRow base e s v n xs) (hne : e ≠ 58) (hw : Wrp w g x y z) (x' y' z' : Value) :
    (((w.setCell ⟨g, 0, none⟩ x').setCell ⟨g, 1, none⟩ y').setCell ⟨g, 2, none⟩ z').ownsRow base e s v n xs := by
  refine ⟨h.1, ?_⟩
  rcases h.2 with h0 | ⟨g', cap, cur, rfl, hb, hh, rest⟩
  · exact .inl h0
  · refine .inr ⟨g', cap, cur, rfl, hb, ?_, rest⟩
    have hgg : g' ≠ g := by
      rintro rfl
      unfold Wrp at hw
      rw [hh] at hw
      injection hw with hw
      injection hw with _ ht
      exact hne ht
    rw [Below.heap_setCell _ _ _ _ hgg, Below.heap_setCell _ _ _ _ hgg, Below.heap_setCell _ _ _ _ hgg]
    exact hh
set_option maxHeartbeats 4000000 in
set_option maxRecDepth 100000 in
theorem places_cons (p0 : ByteArray) (a0 : Int) (r0 : List (ByteArray × Int)) (c : Int) (w : World) (hg : Handle w) (hn : (r0.length + 1) ≤ 1000000) :
    Calls Tryd.prog 19 #[chain ((p0, a0) :: r0) c] w (PlEnd (r0.length + 1) w) := by
  have HC := Lib.hid (outer_hit p0 a0 r0 c w hg)
  obtain ⟨T, v, hT⟩ := chain_iface ((p0, a0) :: r0) c
  obtain ⟨T0, v0, hT0⟩ := chain_iface r0 c
  rw [hT] at HC ⊢
  rw [hT0] at HC
  have HG := Lib.hid hg
  have HT0 := Lib.hid hT0
  clear hg hT hT0
  go_enter Tryd.func19, Tryd.ntmps19
  go_wp2_with fail
  refine HC.out.mono ?_
  rintro e w1 ⟨rfl, hb1⟩
  have H1 := Lib.hid hb1
  clear hb1 HC
  go_wp2
  have HI : PlSt w (r0.length + 1) c (r0.length + 1) (.slice none 0 0) (.slice none 0 0) (.pointer (some ⟨w1.heap.size, 0, none⟩)) (.bool true) (w1.alloc (.cells #[.string p0, .int .i64 a0, .iface T0 v0] 58)) := by
    refine ⟨(p0, a0) :: r0, w1.heap.size, [], [], rfl, Nat.le_refl _, rfl, H1.out.size, ?_, ?_, H1.out.alloc H1.out.size _, .inr ⟨p0, a0, r0, rfl, rfl, ?_⟩⟩
    · rw [Nat.sub_self]; exact World.ownsRow_nil _ _ _ _
    · rw [Nat.sub_self]; exact World.ownsRow_nil _ _ _ _
    · rw [HT0.out]; exact Wrp.new _ _ _ _
  have HJ := Lib.hid HI
  clear HI H1
  generalize w1.alloc (.cells #[.string p0, .int .i64 a0, .iface T0 v0] 58) = w2 at HJ ⊢
  clear HT0
  go_loopg [4, 5, 6, 7] (r0.length + 1) (fun k v1 v2 pw okv wr => Hid (PlSt w (r0.length + 1) c k v1 v2 pw okv wr))
  case atStart => exact HJ.out
  case round =>
    clear HJ
    obtain ⟨rest, g, xs, ys, hk, hkn, rfl, hgB, ho1, ho2, hbw, hcase⟩ := hrel
    rcases hcase with ⟨hr, rfl⟩ | ⟨p, a, r, hr, rfl, hw⟩
    · obtain ⟨A1, c1, rfl⟩ := own_len ho1
      obtain ⟨A2, c2, rfl⟩ := own_len ho2
      have H := Lib.hid (And.intro hbw (And.intro hk hr))
      clear ho1 ho2 hbw hk hr
      go_wp2
      go_ret2
      refine ⟨A1, c1, A2, c2, ?_, H.out.1⟩
      have := H.out.2.1
      rw [H.out.2.2] at this
      simp at this
      subst this
      rfl
    · obtain ⟨T1, u1, hT1⟩ := chain_iface r c
      have c0 := hw.cell0
      have c1 := hw.cell1
      have c2 := hw.cell2
      rw [hT1] at c2
      have hg0 : Handle wr := HG.out.below hbw HG.out.pos
      -- the first append
      have hb3 : Below wr.heap.size wr (wr.alloc (.cells #[.string p] 9)) := (Below.refl _ _).alloc (Nat.le_refl _) _
      obtain ⟨v4, w4, xs4, hr4, ho4, hg4⟩ := append_str (wr.alloc (.cells #[.string p] 9)) w.heap.size _ _ _ p wr.heap.size (own_below ho1 hb3) (by simp) (by omega) (by have := hbw.size; simp; omega)
      have ho2' := own_grown (own_below ho2 hb3) hg4 (Or.symm ((rows_apart (own_below ho2 hb3) (own_below ho1 hb3) (by decide)).symm))
      have hw4 := wrp_grown (hw.below hb3 hw.lt) (own_below ho1 hb3) (by decide) hg4
      have hbw4 := grown_below (hbw.trans (hb3.mono hbw.size)) (by have := hbw.size; simp; omega) (own_below ho1 hb3) (Nat.le_refl _) hg4
      have e0 := hw4.cell1
      have e1 := hw4.cell2
      have e2 := hw4.cell0
      -- the second append
      have hb5 : Below w4.heap.size w4 (w4.alloc (.cells #[.int .i64 a] 3)) := (Below.refl _ _).alloc (Nat.le_refl _) _
      obtain ⟨v6, w6, ys6, hr6, ho6, hg6⟩ := append_int (w4.alloc (.cells #[.int .i64 a] 3)) w.heap.size _ _ _ a w4.heap.size (own_below ho2' hb5) (by simp) (by omega) (by have := hbw4.size; simp; omega)
      have ho4' := own_grown (own_below ho4 hb5) hg6 (Or.symm ((rows_apart (own_below ho4 hb5) (own_below ho2' hb5) (by decide)).symm))
      have hw6 := wrp_grown (hw4.below hb5 hw4.lt) (own_below ho2' hb5) (by decide) hg6
      have hbw6 := grown_below (hbw4.trans (hb5.mono hbw4.size)) (by have := hbw4.size; simp; omega) (own_below ho2' hb5) (Nat.le_refl _) hg6
      have z0 := hw6.cell0
      have z1 := hw6.cell1
      have z2 := hw6.cell2
      rw [hT1] at e1 z2
      have HR4 := Lib.hid hr4
      have HR6 := Lib.hid hr6
      have H6 := Lib.hid (And.intro ho4' (And.intro ho6 hbw6))
      have HK := Lib.hid (And.intro hk (And.intro hr hT1))
      clear hr4 hr6 hg4 hg6 ho2' hw4 hbw4 hb3 hb5 ho4 ho6 ho4' hw6 hbw6 hk hr hT1 ho1 ho2 hw hbw hg0
      go_wp2_with (first
        | (at_builtin; refine wpList_appendRun rfl _ _ 52 rfl _ _ v4 w4 rfl rfl HR4.out ?_)
        | (at_builtin; refine wpList_appendRun rfl _ _ 43 rfl _ _ v6 w6 rfl rfl HR6.out ?_))
      have hb9 := H6.out.2.2.alloc H6.out.2.2.size (.cells #[.string p, .int .i64 a, .iface T1 u1] 58)
      have hG := HG.out.below hb9 HG.out.pos
      have hn9 := Wrp.new w6 (.string p) (.int .i64 a) (.iface T1 u1)
      have hsz : w6.heap.size < (w6.alloc (.cells #[.string p, .int .i64 a, .iface T1 u1] 58)).heap.size := by simp
      have o1 := own_below H6.out.1 ((Below.refl _ _).alloc (Nat.le_refl _) (.cells #[.string p, .int .i64 a, .iface T1 u1] 58))
      have o2 := own_below H6.out.2.1 ((Below.refl _ _).alloc (Nat.le_refl _) (.cells #[.string p, .int .i64 a, .iface T1 u1] 58))
      have HS := Lib.hid (And.intro hb9 (And.intro hn9 (And.intro hsz (And.intro o1 (And.intro o2 H6.out.2.2.size)))))
      clear hb9 hn9 hsz o1 o2 H6 HR4 HR6 c0 c1 c2 e0 e1 e2 z0 z1 z2
      generalize w6.alloc (.cells #[.string p, .int .i64 a, .iface T1 u1] 58) = w7 at *
      rcases r with _ | ⟨⟨p2, a2⟩, r2⟩
      · have HC := Lib.hid (outer_miss c w7 hG)
        rw [HK.out.2.2] at HC
        clear hG
        refine HC.out.mono ?_
        rintro e w8 ⟨rfl, hb8⟩
        have hW := HS.out.2.1.below hb8 HS.out.2.2.1
        have c0 := hW.cell0
        have c1 := hW.cell1
        have c2 := hW.cell2
        have z0 := hW.frozen 0
        have z1 := hW.frozen 1
        have z2 := hW.frozen 2
        have H8 := Lib.hid (And.intro (HS.out.1.trans (hb8.mono HS.out.1.size)) (And.intro (own_below HS.out.2.2.2.1 hb8) (And.intro (own_below HS.out.2.2.2.2.1 hb8) (And.intro hW HS.out.2.2.2.2.2))))
        clear hW hb8 HS HC
        go_wp2
        go_roundg 0
        case measure => have := HK.out.1; rw [HK.out.2.1] at this; simp at this; omega
        case rel =>
          have hk1 : gk = 1 := by have := HK.out.1; rw [HK.out.2.1] at this; simpa using this.symm
          exact ⟨[], w6.heap.size, _, _, rfl, Nat.zero_le _, rfl, H8.out.2.2.2.2, own_set3 (show _ from by rw [show r0.length + 1 - 0 = r0.length + 1 - gk + 1 by omega]; exact H8.out.2.1) (by decide) H8.out.2.2.2.1 _ _ _, own_set3 (show _ from by rw [show r0.length + 1 - 0 = r0.length + 1 - gk + 1 by omega]; exact H8.out.2.2.1) (by decide) H8.out.2.2.2.1 _ _ _, below_set3 H8.out.1 H8.out.2.2.2.2 _ _ _, .inl ⟨rfl, rfl⟩⟩
      · have HC := Lib.hid (outer_hit p2 a2 r2 c w7 hG)
        rw [HK.out.2.2] at HC
        obtain ⟨T2, u2, hT2⟩ := chain_iface r2 c
        rw [hT2] at HC
        have HT2 := Lib.hid hT2
        clear hG hT2
        refine HC.out.mono ?_
        rintro e w8 ⟨rfl, hb8⟩
        have hW := HS.out.2.1.below hb8 HS.out.2.2.1
        have c0 := hW.cell0
        have c1 := hW.cell1
        have c2 := hW.cell2
        have z0 := hW.frozen 0
        have z1 := hW.frozen 1
        have z2 := hW.frozen 2
        have H8 := Lib.hid (And.intro (HS.out.1.trans (hb8.mono HS.out.1.size)) (And.intro (own_below HS.out.2.2.2.1 hb8) (And.intro (own_below HS.out.2.2.2.2.1 hb8) (And.intro hW HS.out.2.2.2.2.2))))
        clear hW hb8 HS HC
        go_wp2
        go_roundg (r2.length + 1)
        case measure => have := HK.out.1; rw [HK.out.2.1] at this; simp at this; omega
        case rel =>
          have hk1 : gk = r2.length + 2 := by have := HK.out.1; rw [HK.out.2.1] at this; simpa using this.symm
          exact ⟨(p2, a2) :: r2, w6.heap.size, _, _, rfl, by omega, rfl, H8.out.2.2.2.2, own_set3 (show _ from by rw [show r0.length + 1 - (r2.length + 1) = r0.length + 1 - gk + 1 by omega]; exact H8.out.2.1) (by decide) H8.out.2.2.2.1 _ _ _, own_set3 (show _ from by rw [show r0.length + 1 - (r2.length + 1) = r0.length + 1 - gk + 1 by omega]; exact H8.out.2.2.1) (by decide) H8.out.2.2.2.1 _ _ _, below_set3 H8.out.1 H8.out.2.2.2.2 _ _ _, .inr ⟨p2, a2, r2, rfl, rfl, by rw [HT2.out]; exact H8.out.2.2.2.1.set _ _ _⟩⟩

set_option maxHeartbeats 4000000 in
set_option maxRecDepth 100000 in
/-- fault.Wrap of a chain with fewer than 64 places: one more. -/
theorem wrap_chain (ws : List (ByteArray × Int)) (c a : Int) (p : ByteArray) (w : World) (hg : Handle w) (hn : ws.length < 64) :
    Calls Tryd.prog 14 #[chain ws c, .string p, .int .i64 a] w fun e w' => e = .returned (chain ((p, a) :: ws) c) ∧ Below w.heap.size w w' := by
  rcases ws with _ | ⟨⟨p0, a0⟩, r0⟩
  · exact wrap_bare c a p w hg
  · have HC := Lib.hid (places_cons p0 a0 r0 c w hg (by simp at hn; omega))
    have HE : chain ((p, a) :: (p0, a0) :: r0) c = .iface 58 (.agg #[.string p, .int .i64 a, chain ((p0, a0) :: r0) c]) := rfl
    rw [HE]
    obtain ⟨T, v, hT⟩ := chain_iface ((p0, a0) :: r0) c
    rw [hT] at HC ⊢
    have hl : r0.length + 1 < 64 := by simpa using hn
    clear hg hT HE hn
    go_enter Tryd.func14, Tryd.ntmps14
    go_wp2_with fail
    refine HC.out.mono ?_
    rintro e w1 ⟨A1, c1, A2, c2, rfl, hb⟩
    have HB := Lib.hid hb
    clear hb
    go_wp2
    go_ret
    exact ⟨rfl, HB.out⟩
end Go.Proofs.YtkogbighpidfhaaDoor
