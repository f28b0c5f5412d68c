/- fault's Places of an error in one place, and of none: what it holds; Code and Is of none; contract of the laws' At. -/
import Derived.Test.YtkogbighpidfhaaDoorSD7
import Derived.Test.YtkogbighpidfhaaDoorBQ4
namespace Go.Proofs.YtkogbighpidfhaaDoor
open Go.RowKit Go.Extern.Stop Go.Stop Go.Extern

set_option maxHeartbeats 4000000 in
set_option maxRecDepth 100000 in
theorem As_nil (t : Value) (w : World) : Calls Tryd.prog 34 #[.nilIface, t] w fun e w' => e = .returned (.bool false) ∧ w = w' := by
  go_enter Tryd.func34, Tryd.ntmps34
  go_wp2
  go_ret
  exact ⟨rfl, rfl⟩
set_option maxHeartbeats 4000000 in
set_option maxRecDepth 100000 in
theorem outer_nil (w : World) : Calls Tryd.prog 33 #[.nilIface] w fun e w' => e = .returned (.tuple #[.agg #[.string ⟨#[]⟩, .int .i64 0, .nilIface], .bool false]) ∧ Below w.heap.size w w' := by
  have HA := fun t w => Lib.hid (As_nil t w)
  go_enter Tryd.func33, Tryd.ntmps33
  go_wp2_with fail
  refine (HA _ _).out.mono ?_
  rintro e w1 ⟨rfl, rfl⟩
  go_wp2
  have hs := (Wrp.new w (.string ⟨#[]⟩) (.int .i64 0) .nilIface).alloc (.cells #[.string ⟨#[]⟩, .int .i64 0, .nilIface] 58)
  have s0 := hs.cell0
  have s1 := hs.cell1
  have s2 := hs.cell2
  have hb := (Below.refl w.heap.size w).alloc (Nat.le_refl _) (.cells #[.string ⟨#[]⟩, .int .i64 0, .nilIface] 58)
  exact bodyPost_ret (v := .tuple #[.agg #[.string ⟨#[]⟩, .int .i64 0, .nilIface], .bool false]) (by simp [results, Tryd.results33, go_sem, s0, s1, s2]) rfl
    ⟨rfl, hb.alloc hb.size _⟩
set_option maxHeartbeats 4000000 in
set_option maxRecDepth 100000 in
theorem places_nil (w : World) : Calls Tryd.prog 19 #[.nilIface] w fun e w' => e = .returned (.tuple #[.slice none 0 0, .slice none 0 0]) ∧ Below w.heap.size w w' := by
  have HC := Lib.hid (outer_nil w)
  go_enter Tryd.func19, Tryd.ntmps19
  go_wp2_with fail
  refine HC.out.mono ?_
  rintro e w1 ⟨rfl, hb1⟩
  have HB := Lib.hid (hb1.alloc hb1.size (.cells #[.string ⟨#[]⟩, .int .i64 0, .nilIface] 58))
  clear hb1 HC
  go_wp2
  generalize w1.alloc (.cells #[.string ⟨#[]⟩, .int .i64 0, .nilIface] 58) = w2 at *
  go_loopw [4, 5, 7] (fun v1 v2 okv wr => v1 = .slice none 0 0 ∧ v2 = .slice none 0 0 ∧ okv = .bool false ∧ Hid (Below w.heap.size w wr)) (fun _ _ _ _ => 0)
  case atStart => exact ⟨rfl, rfl, rfl, HB.out⟩
  case round =>
    obtain ⟨rfl, rfl, rfl, HI⟩ := hrel
    go_wp2
    go_ret2
    exact ⟨rfl, HI.out⟩
theorem append_int1 (w : World) (base : Nat) (p : Int) (g : Nat) (hc : w.cell? ⟨g, 0, none⟩ = some (.int .i64 p)) (hbase : base ≤ w.heap.size) :
    ∃ v' w', (Builtin.append_ #[43, 43] 43 #[.slice none 0 0, .slice (some ⟨g, 0, none⟩) 1 1]).run Tryd.prog w = .ok v' w' ∧ w'.ownsRow base 3 1 v' 1 [.int .i64 p] ∧ w.grownBy w' none := by
  obtain ⟨i0, hi, hz0, hz1, hz2⟩ := info_parts infoInt
  obtain ⟨v', w', hr, h2, h3, _⟩ := run_append_own_at w base 43 43 3 i0 (.int .i64 0) 1 8 Tryd.underlying43 hi hz0 hz1 hz2 rfl (by omega) (.slice none 0 0) 0 [] (World.ownsRow_nil _ _ _ _) ⟨g, 0, none⟩ 1 1 [.int .i64 p] rfl
    (by
      intro j u hu
      match j, hu with
      | 0, hu => simp at hu; subst hu; exact hc) (by simp [Value.oneCell']) (by unfold maxLen; omega) (by omega) hbase
  exact ⟨v', w', hr, h2, h3⟩
/-- Places' loop at one place. -/
def P1St (w : World) (p : ByteArray) (a c : Int) (k : Nat) (v1 v2 pw okv : Value) (wr : World) : Prop :=
  ∃ g, pw = .pointer (some ⟨g, 0, none⟩) ∧ w.heap.size ≤ g ∧ Below w.heap.size w wr ∧
    ((k = 1 ∧ v1 = .slice none 0 0 ∧ v2 = .slice none 0 0 ∧ okv = .bool true ∧ Wrp wr g (.string p) (.int .i64 a) (.iface 41 (.int .i64 c))) ∨
     (k = 0 ∧ okv = .bool false ∧ ∃ xs, wr.ownsRow w.heap.size 9 1 v1 1 xs ∧ wr.ownsRow w.heap.size 3 1 v2 1 [.int .i64 a]))
/-- What Places tells of one place. -/
def P1End (a : Int) (w : World) (e : Ending) (w' : World) : Prop := ∃ A1 c1 g2 c2, e = .returned (.tuple #[.slice A1 1 c1, .slice (some ⟨g2, 0, none⟩) 1 c2]) ∧ w'.cell? ⟨g2, 0, none⟩ = some (.int .i64 a) ∧ Below w.heap.size w w'
theorem row_int1 {w : World} {B : Nat} {v : Value} {a : Int} (h : w.ownsRow B 3 1 v 1 [.int .i64 a]) : ∃ g c, v = .slice (some ⟨g, 0, none⟩) 1 c ∧ w.cell? ⟨g, 0, none⟩ = some (.int .i64 a) := by
  rcases h.2 with ⟨_, h0⟩ | ⟨g, cap, cur, rfl, _, hh, _, _, _, ht⟩
  · exact absurd h0 (by decide)
  · refine ⟨g, cap, rfl, ?_⟩
    have h2 : (cur.toList.take (1 * 1))[0]? = some (.int .i64 a) := by rw [ht]; rfl
    rw [List.getElem?_take, if_pos (by omega), Array.getElem?_toList] at h2
    rw [cell_of_row w g 0 cur 3 (0, 0) hh]
    exact h2
set_option maxHeartbeats 4000000 in
set_option maxRecDepth 100000 in
theorem places_one (p : ByteArray) (a c : Int) (w : World) (hg : Handle w) :
    Calls Tryd.prog 19 #[chain [(p, a)] c] w (P1End a w) := by
  have HC := Lib.hid (outer_hit p a [] c w hg)
  have HG := Lib.hid hg
  obtain ⟨T, v, hT⟩ := chain_iface [(p, a)] c
  rw [hT] at HC ⊢
  rw [show chain [] c = .iface 41 (.int .i64 c) from rfl] at HC
  clear hg hT
  go_enter Tryd.func19, Tryd.ntmps19
  go_wp2_with fail
  refine HC.out.mono ?_
  rintro e w1 ⟨rfl, hb1⟩
  have H1 := Lib.hid hb1
  clear hb1 HC
  go_wp2
  have HJ := Lib.hid (show P1St w p a c 1 (.slice none 0 0) (.slice none 0 0) (.pointer (some ⟨w1.heap.size, 0, none⟩)) (.bool true) (w1.alloc (.cells #[.string p, .int .i64 a, .iface 41 (.int .i64 c)] 58)) from
    ⟨w1.heap.size, rfl, H1.out.size, H1.out.alloc H1.out.size _, .inl ⟨rfl, rfl, rfl, rfl, Wrp.new _ _ _ _⟩⟩)
  clear H1
  generalize w1.alloc (.cells #[.string p, .int .i64 a, .iface 41 (.int .i64 c)] 58) = w2 at HJ ⊢
  go_loopg [4, 5, 6, 7] 1 (fun k v1 v2 pw okv wr => Hid (P1St w p a c k v1 v2 pw okv wr))
  case atStart => exact HJ.out
  case round =>
    clear HJ
    obtain ⟨g, rfl, hgB, hbw, hcase⟩ := hrel
    rcases hcase with ⟨hk, rfl, rfl, rfl, hw⟩ | ⟨hk, rfl, xs, ho1, ho2⟩
    · have c0 := hw.cell0
      have c1 := hw.cell1
      have c2 := hw.cell2
      have hb3 : Below wr.heap.size wr (wr.alloc (.cells #[.string p] 9)) := (Below.refl _ _).alloc (Nat.le_refl _) _
      obtain ⟨v4, w4, xs4, hr4, ho4, hg4⟩ := append_str (wr.alloc (.cells #[.string p] 9)) w.heap.size (.slice none 0 0) 0 [] p wr.heap.size (World.ownsRow_nil _ _ _ _) (by simp) (by omega) (by have := hbw.size; simp; omega)
      have hw4 := wrp_grown (hw.below hb3 hw.lt) (World.ownsRow_nil (wr.alloc (.cells #[.string p] 9)) w.heap.size 9 1) (by decide) hg4
      have hbw4 := grown_below (hbw.trans (hb3.mono hbw.size)) (by have := hbw.size; simp; omega) (World.ownsRow_nil (wr.alloc (.cells #[.string p] 9)) w.heap.size 9 1) (Nat.le_refl _) hg4
      have e0 := hw4.cell1
      have e1 := hw4.cell2
      have e2 := hw4.cell0
      have hb5 : Below w4.heap.size w4 (w4.alloc (.cells #[.int .i64 a] 3)) := (Below.refl _ _).alloc (Nat.le_refl _) _
      obtain ⟨v6, w6, hr6, ho6, hg6⟩ := append_int1 (w4.alloc (.cells #[.int .i64 a] 3)) w.heap.size a w4.heap.size (by simp) (by have := hbw4.size; simp; omega)
      have ho4' := own_grown (own_below ho4 hb5) hg6 (.inl rfl)
      have hw6 := wrp_grown (hw4.below hb5 hw4.lt) (World.ownsRow_nil (w4.alloc (.cells #[.int .i64 a] 3)) w.heap.size 3 1) (by decide) hg6
      have hbw6 := grown_below (hbw4.trans (hb5.mono hbw4.size)) (by have := hbw4.size; simp; omega) (World.ownsRow_nil (w4.alloc (.cells #[.int .i64 a] 3)) w.heap.size 3 1) (Nat.le_refl _) hg6
      have z0 := hw6.cell0
      have z1 := hw6.cell1
      have z2 := hw6.cell2
      have HR4 := Lib.hid hr4
      have HR6 := Lib.hid hr6
      have H6 := Lib.hid (And.intro ho4' (And.intro ho6 hbw6))
      have HK := Lib.hid hk
      clear hr4 hr6 hg4 hg6 hw4 hbw4 hb3 hb5 ho4 ho6 ho4' hw6 hbw6 hk hw hbw
      go_wp2_with (first
        | (at_builtin; refine wpList_appendRun rfl _ _ 52 rfl _ _ v4 w4 rfl rfl HR4.out ?_)
        | (at_builtin; refine wpList_appendRun rfl _ _ 43 rfl _ _ v6 w6 rfl rfl HR6.out ?_))
      have hb9 := H6.out.2.2.alloc H6.out.2.2.size (.cells #[.string p, .int .i64 a, .iface 41 (.int .i64 c)] 58)
      have hG := HG.out.below hb9 HG.out.pos
      have hn9 := Wrp.new w6 (.string p) (.int .i64 a) (.iface 41 (.int .i64 c))
      have hsz : w6.heap.size < (w6.alloc (.cells #[.string p, .int .i64 a, .iface 41 (.int .i64 c)] 58)).heap.size := by simp
      have o1 := own_below H6.out.1 ((Below.refl _ _).alloc (Nat.le_refl _) (.cells #[.string p, .int .i64 a, .iface 41 (.int .i64 c)] 58))
      have o2 := own_below H6.out.2.1 ((Below.refl _ _).alloc (Nat.le_refl _) (.cells #[.string p, .int .i64 a, .iface 41 (.int .i64 c)] 58))
      have HS := Lib.hid (And.intro hb9 (And.intro hn9 (And.intro hsz (And.intro o1 (And.intro o2 H6.out.2.2.size)))))
      clear hb9 hn9 hsz o1 o2 H6 HR4 HR6 c0 c1 c2 e0 e1 e2 z0 z1 z2
      generalize w6.alloc (.cells #[.string p, .int .i64 a, .iface 41 (.int .i64 c)] 58) = w7 at *
      have HC := Lib.hid (outer_miss c w7 hG)
      rw [show chain [] c = .iface 41 (.int .i64 c) from rfl] at HC
      clear hG
      refine HC.out.mono ?_
      rintro e w8 ⟨rfl, hb8⟩
      have hW := HS.out.2.1.below hb8 HS.out.2.2.1
      have c0 := hW.cell0
      have c1 := hW.cell1
      have c2 := hW.cell2
      have z0 := hW.frozen 0
      have z1 := hW.frozen 1
      have z2 := hW.frozen 2
      have H8 := Lib.hid (And.intro (HS.out.1.trans (hb8.mono HS.out.1.size)) (And.intro (own_below HS.out.2.2.2.1 hb8) (And.intro (own_below HS.out.2.2.2.2.1 hb8) (And.intro hW HS.out.2.2.2.2.2))))
      clear hW hb8 HS HC
      go_wp2
      go_roundg 0
      case measure => rw [HK.out]; omega
      case rel =>
        exact ⟨w6.heap.size, rfl, H8.out.2.2.2.2, below_set3 H8.out.1 H8.out.2.2.2.2 _ _ _, .inr ⟨rfl, rfl, _, own_set3 H8.out.2.1 (by decide) H8.out.2.2.2.1 _ _ _, own_set3 H8.out.2.2.1 (by decide) H8.out.2.2.2.1 _ _ _⟩⟩
    · obtain ⟨A1, c1, rfl⟩ := own_len ho1
      obtain ⟨g2, c2, rfl, hc⟩ := row_int1 ho2
      have H := Lib.hid (And.intro hbw hc)
      clear ho1 ho2 hbw hc hk
      go_wp2
      go_ret2
      exact ⟨A1, c1, g2, c2, rfl, H.out.2, H.out.1⟩
set_option maxHeartbeats 4000000 in
set_option maxRecDepth 100000 in
theorem at_nil (w : World) : Calls Tryd.prog 11 #[.nilIface] w fun e w' => e = .returned (.tuple #[.int .i64 0, .int .i64 0]) ∧ Below w.heap.size w w' := by
  have HC := Lib.hid (places_nil w)
  go_enter Tryd.func11, Tryd.ntmps11
  go_wp2_with fail
  refine HC.out.mono ?_
  rintro e w1 ⟨rfl, hb1⟩
  have HB := Lib.hid hb1
  have HN := Lib.hid (code_nil w1)
  clear hb1 HC
  go_wp2_with fail
  refine HN.out.mono ?_
  rintro e w2 ⟨rfl, rfl⟩
  clear HN
  go_wp2
  go_ret2
  exact ⟨rfl, HB.out⟩
set_option maxHeartbeats 4000000 in
set_option maxRecDepth 100000 in
theorem at_one (p : ByteArray) (a c : Int) (w : World) (hg : Handle w) : Calls Tryd.prog 11 #[chain [(p, a)] c] w fun e w' => e = .returned (.tuple #[.int .i64 c, .int .i64 a]) ∧ Below w.heap.size w w' := by
  have HC := Lib.hid (places_one p a c w hg)
  have HCc := fun w hg => Lib.hid (code_chain [(p, a)] c w hg)
  have HG := Lib.hid hg
  obtain ⟨T, v, hT⟩ := chain_iface [(p, a)] c
  rw [hT] at HC ⊢
  rw [hT] at HCc
  clear hg hT
  go_enter Tryd.func11, Tryd.ntmps11
  go_wp2_with fail
  refine HC.out.mono ?_
  rintro e w1 ⟨A1, c1, g2, c2, rfl, hc, hb1⟩
  have HB := Lib.hid (And.intro hc hb1)
  clear hb1 HC hc
  go_wp2
  refine wp_region_held_drew (S := fun w' => w'.cell? ⟨g2, 0, none⟩ = some (.int .i64 a) ∧ Below w.heap.size w w') (by kernel_rfl) (show _ ∧ _ from ⟨HB.out.1, Below.drew HB.out.2⟩) (fun hS => ?_)
  try simp only [Act.put, List.setIfInBounds_toArray, List.set_cons_zero, List.set_cons_succ]
  refine htg (i := 0) rfl (.iface T v) (by kernel_rfl) (by kernel_rfl) (by kernel_rfl) (fun _ _ _ h => h) (by rfl) hS (fun w' hw' => by go_simp) ?_
  try simp only [Act.put, List.setIfInBounds_toArray, List.set_cons_zero, List.set_cons_succ]
  refine htg (i := 2) rfl (.slice (some ⟨g2, 0, none⟩) 1 c2) (by kernel_rfl) (by kernel_rfl) (by kernel_rfl) (fun _ _ _ h => h) (by rfl) hS (fun w' hw' => by go_simp) ?_
  try simp only [Act.put, List.setIfInBounds_toArray, List.set_cons_zero, List.set_cons_succ]
  refine htg (i := 3) rfl (.slice (some ⟨g2, 0, none⟩) 1 c2) (by kernel_rfl) (by kernel_rfl) (by kernel_rfl) (fun _ _ _ h => h) (by rfl) hS (fun w' hw' => by go_simp) ?_
  try simp only [Act.put, List.setIfInBounds_toArray, List.set_cons_zero, List.set_cons_succ]
  refine htg (i := 4) rfl (.int .i64 1) (by kernel_rfl) (by kernel_rfl) (by kernel_rfl) (fun _ _ _ h => h) (by rfl) hS (fun w' hw' => by go_simp) ?_
  try simp only [Act.put, List.setIfInBounds_toArray, List.set_cons_zero, List.set_cons_succ]
  refine htg (i := 5) rfl (.int .i64 0) (by kernel_rfl) (by kernel_rfl) (by kernel_rfl) (fun _ _ _ h => h) (by rfl) hS (fun w' hw' => by have e0 : IntKind.i64.wrap 0 = 0 := rfl; go_simp) ?_
  try simp only [Act.put, List.setIfInBounds_toArray, List.set_cons_zero, List.set_cons_succ]
  refine htg (i := 6) rfl (.pointer (some ⟨g2, 0, none⟩)) (by kernel_rfl) (by kernel_rfl) (by kernel_rfl) (fun _ _ _ h => h) (by rfl) hS (fun w' hw' => by go_simp) ?_
  try simp only [Act.put, List.setIfInBounds_toArray, List.set_cons_zero, List.set_cons_succ]
  refine htg (i := 7) rfl (.int .i64 a) (by kernel_rfl) (by kernel_rfl) (by kernel_rfl) (fun _ _ _ h => h) (by rfl) hS (fun w' hw' => by have t0 := hw'.1; go_simp) ?_
  try simp only [Act.put, List.setIfInBounds_toArray, List.set_cons_zero, List.set_cons_succ]
  refine h1g (i := 1) (by kernel_rfl) rfl (by rfl) (fun K' hK => ?_)
  have HS := Lib.hid hS
  clear hS
  go_simp
  refine (HCc _ (HG.out.below HS.out.2 HG.out.pos)).out.mono ?_
  rintro e w2 ⟨rfl, hb2⟩
  have hS : w2.cell? ⟨g2, 0, none⟩ = some (.int .i64 a) ∧ Below w.heap.size w w2 := ⟨(hb2.cell (p := ⟨g2, 0, none⟩) (World.block_lt_of_cell? _ ⟨g2, 0, none⟩ HS.out.1)).trans HS.out.1, HS.out.2.trans (hb2.mono HS.out.2.size)⟩
  refine hK.out _ _ hS ?_
  clear hK K' HS
  try simp only [Act.put, List.setIfInBounds_toArray, List.set_cons_zero, List.set_cons_succ]
  refine htg (i := 8) rfl (.int .i64 c) (by kernel_rfl) (by kernel_rfl) (by kernel_rfl) (fun _ _ _ h => h) (by rfl) hS (fun w' hw' => by go_simp) ?_
  try simp only [Act.put, List.setIfInBounds_toArray, List.set_cons_zero, List.set_cons_succ]
  refine htg (i := 9) rfl (.int .i64 a) (by kernel_rfl) (by kernel_rfl) (by kernel_rfl) (fun _ _ _ h => h) (by rfl) hS (fun w' hw' => by go_simp) ?_
  try simp only [Act.put, List.setIfInBounds_toArray, List.set_cons_zero, List.set_cons_succ]
  refine wpAnyH_done (by kernel_rfl) ?_ _
  have HS := Lib.hid hS
  clear hS
  go_wp2
  go_ret2
  exact ⟨rfl, HS.out.2⟩
end Go.Proofs.YtkogbighpidfhaaDoor
