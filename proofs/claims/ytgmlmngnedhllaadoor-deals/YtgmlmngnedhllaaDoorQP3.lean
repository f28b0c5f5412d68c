/- Piles that are being filled; the contracts of pile's add, roomFor, emptyStock. -/
import Derived.Test.YtgmlmngnedhllaaDoorQP2
import Derived.ArgAppend
import Derived.Laws.MakeOwn
namespace Go.Proofs.YtgmlmngnedhllaaDoor
open Go.RowKit

section
variable {P : Program} {w : World} {ops : Array Oper} {rest : List Oper} {o : Oper} {a : Act} {K : Act → World → Prop} {Q : Exit → Act → World → Prop}
/-- An append whose run is known. -/
theorem wp_append_run (s x : Operand) (t : TypeId) (ho : o.op = .call { callee := .builtin .append, args := #[s, x], argTypes := #[t, t] }) (v x' v' : Value) (w' : World) (hs : a.eval s = v) (hx : a.eval x = x')
    (hr : (Builtin.append_ #[t, t] o.type #[v, x']).run P w = .ok v' w') (h : K (a.put o.dst v') w') : o.wp P a w K Q := by
  unfold Oper.wp execOp
  simp only [ho, resolve, invoke, builtin, Sem.run_bind, Sem.run_pure, Result.andThen_ok, List.map_toArray, List.map_cons, List.map_nil, hs, hx, hr]
  exact h
theorem wpList_append_run (hgd : o.guard = none) (s x : Operand) (t : TypeId) (ho : o.op = .call { callee := .builtin .append, args := #[s, x], argTypes := #[t, t] }) (v x' v' : Value) (w' : World) (hs : a.eval s = v) (hx : a.eval x = x')
    (hr : (Builtin.append_ #[t, t] o.type #[v, x']).run P w = .ok v' w') (h : wpList P ops Q rest (a.put o.dst v') w') : wpList P ops Q (o :: rest) a w :=
  wpList_plain hgd fun _ hK => wp_append_run s x t ho v x' v' w' hs hx hr (hK _ _ h)
end

/-- Block b has room for cap things; the first n of them are there. -/
def RowT (w : World) (b n cap : Nat) (y : Nat → Nat → Int) : Prop :=
  ∃ cur, Blk w b 48 cur ∧ cur.size = cap * 3 ∧ ∀ i, i < n → cur[i * 3 + 0]? = some (.int .u64 (y i 0)) ∧ cur[i * 3 + 1]? = some (.int .u64 (y i 1)) ∧ cur[i * 3 + 2]? = some (.int .u64 (y i 2))
section
variable {w w' : World} {b n cap : Nat} {y : Nat → Nat → Int}
theorem RowT.heap (h : RowT w b n cap y) (hb : w'.heap[b]? = w.heap[b]?) : RowT w' b n cap y := by
  obtain ⟨cur, h1, h2⟩ := h
  exact ⟨cur, hb.trans h1, h2⟩
theorem RowT.lt (h : RowT w b n cap y) : b < w.heap.size := by
  obtain ⟨cur, h1, h2⟩ := h
  exact h1.lt
theorem RowT.chg {S : Nat → Prop} (h : RowT w b n cap y) (hc : Chg S w w') (hs : ¬ S b) : RowT w' b n cap y := h.heap (hc.block b h.lt hs)
theorem RowT.pile (h : RowT w b n n y) (hn : n ≤ 281474976710656) : PilT w b (.slice (some ⟨b, 0, none⟩) n n) n y := by
  obtain ⟨cur, h1, h2, h3⟩ := h
  exact ⟨0, n, cur, rfl, h1, Nat.le_refl _, by unfold maxLen; omega, by omega, fun i hi => by simpa using h3 i hi⟩
theorem RowT.add (h : ∃ cur : Array Value, cur.size = cap * 3 ∧ Blk w' b 48 (((cur.setIfInBounds (n * 3) (.int .u64 (y n 0))).setIfInBounds (n * 3 + 1) (.int .u64 (y n 1))).setIfInBounds (n * 3 + 2) (.int .u64 (y n 2))) ∧ ∀ i, i < n → cur[i * 3 + 0]? = some (.int .u64 (y i 0)) ∧ cur[i * 3 + 1]? = some (.int .u64 (y i 1)) ∧ cur[i * 3 + 2]? = some (.int .u64 (y i 2))) (hn : n < cap) : RowT w' b (n + 1) cap y := by
  obtain ⟨cur, h2, h3, h4⟩ := h
  refine ⟨_, h3, by simpa using h2, fun i hi => ?_⟩
  rcases Nat.lt_or_ge i n with hi' | hi'
  · have := h4 i hi'
    refine ⟨?_, ?_, ?_⟩
    · rw [Array.getElem?_setIfInBounds_ne (by omega), Array.getElem?_setIfInBounds_ne (by omega), Array.getElem?_setIfInBounds_ne (by omega)]; exact this.1
    · rw [Array.getElem?_setIfInBounds_ne (by omega), Array.getElem?_setIfInBounds_ne (by omega), Array.getElem?_setIfInBounds_ne (by omega)]; exact this.2.1
    · rw [Array.getElem?_setIfInBounds_ne (by omega), Array.getElem?_setIfInBounds_ne (by omega), Array.getElem?_setIfInBounds_ne (by omega)]; exact this.2.2
  · obtain rfl : i = n := by omega
    refine ⟨?_, ?_, ?_⟩
    · simp [Array.getElem?_setIfInBounds]; omega
    · simp [Array.getElem?_setIfInBounds]; omega
    · simp [Array.getElem?_setIfInBounds]; omega
end
theorem infoT : ∃ i, Tryd.prog.info? 48 = some i ∧ i.zero = some (.agg #[.int .u64 0, .int .u64 0, .int .u64 0]) ∧ i.size = 3 ∧ i.bytes = 24 := info_parts (show (Tryd.prog.info? 48).map (fun i => (i.zero, i.size, i.bytes)) = some (some (.agg #[.int .u64 0, .int .u64 0, .int .u64 0]), 3, 24) by kernel_rfl)
theorem append_roomT (w : World) (b n cap a : Nat) (cur : Array Value) (x0 x1 x2 : Value) (h1 : ∀ u ∈ [x0, x1, x2], u.oneCell' = true) (hb : Blk w b 48 cur) (hs : cur.size = cap * 3) (hn : n < cap) (hx : Blk w a 48 #[x0, x1, x2]) :
    (Builtin.append_ #[34, 34] 34 #[.slice (some ⟨b, 0, none⟩) n cap, .slice (some ⟨a, 0, none⟩) 1 1]).run Tryd.prog w = .ok (.slice (some ⟨b, 0, none⟩) (n + 1) cap) (((w.setCell ⟨b, n * 3, none⟩ (x0)).setCell ⟨b, n * 3 + 1, none⟩ (x1)).setCell ⟨b, n * 3 + 2, none⟩ (x2)) := by
  obtain ⟨i0, hi, hz0, hz1, hz2⟩ := infoT
  have hr := run_append_room_cells (P := Tryd.prog) w 34 34 48 i0 Tryd.underlying34 hi b 0 n cap ⟨a, 0, none⟩ 1 1 [x0, x1, x2] (by rw [hz1]; rfl)
    (fun j u hu => by
      have hj : j < 3 := (List.getElem?_eq_some_iff.1 hu).1
      rw [Addr.add_mid, Nat.zero_add]
      exact hx.cell j (by simpa using hu)) h1 hn
    (fun j hj => by
      have hj : j < 3 := hj
      rw [hz1, cell_of_row w b _ cur 48 (0, 0) hb]
      simp
      omega)
    (fun j hj => by rw [hz1]; exact hb.frozen _)
  rw [hz1, Nat.zero_add] at hr
  exact hr
set_option maxHeartbeats 4000000 in
set_option maxRecDepth 100000 in
theorem addT_any (w : World) (g j b n cap : Nat) (cs : Array Value) (y : Nat → Nat → Int) (hs : Blk w g 81 cs) (hj : cs[j]? = some (.slice (some ⟨b, 0, none⟩) n cap)) (hr : RowT w b n cap y) (hn : n < cap) :
    Calls Tryd.prog 25 #[.pointer (some ⟨g, j, none⟩), .agg #[.int .u64 (y n 0), .int .u64 (y n 1), .int .u64 (y n 2)]] w fun e w' => e = .returned (.tuple #[]) ∧ Blk w' g 81 (cs.setIfInBounds j (.slice (some ⟨b, 0, none⟩) (n + 1) cap)) ∧ RowT w' b (n + 1) cap y ∧ Chg (fun q => q = g ∨ q = b) w w' := by
  obtain ⟨cur, hb, hsz, hcur⟩ := hr
  have hgb : g ≠ b := blk_ne hs hb (by decide)
  have hlg := hs.lt
  have hlb := hb.lt
  have HD := Lib.hid (And.intro (hs.alloc (.cells #[.int .u64 (y n 0), .int .u64 (y n 1), .int .u64 (y n 2)] 48)).drew (And.intro (Blk.new w 48 #[.int .u64 (y n 0), .int .u64 (y n 1), .int .u64 (y n 2)]).drew (And.intro (hb.alloc (.cells #[.int .u64 (y n 0), .int .u64 (y n 1), .int .u64 (y n 2)] 48)).drew ((Chg.refl (fun q => q = g ∨ q = b) w).alloc (.cells #[.int .u64 (y n 0), .int .u64 (y n 1), .int .u64 (y n 2)] 48)).drew)))
  have HP := Lib.hid (And.intro hj (And.intro hsz (And.intro hcur (And.intro hn hgb))))
  have hls : w.heap.size < (w.alloc (.cells #[.int .u64 (y n 0), .int .u64 (y n 1), .int .u64 (y n 2)] 48)).heap.size := by simp
  have hsize : (w.alloc (.cells #[.int .u64 (y n 0), .int .u64 (y n 1), .int .u64 (y n 2)] 48)).heap.size = w.heap.size + 1 := by simp
  clear hs hj hb hsz hcur hn hgb hls
  have hw1 : (w.alloc (.cells #[.int .u64 (y n 0), .int .u64 (y n 1), .int .u64 (y n 2)] 48)).drew.heap.size = w.heap.size + 1 := hsize
  clear hsize
  go_enter Tryd.func25, Tryd.ntmps25
  go_wp2
  refine region_z 10 (fun w' : World => w'.cell? ⟨g, j, none⟩ = some (.slice (some ⟨b, 0, none⟩) n cap) ∧ w'.cell? ⟨w.heap.size, 0, none⟩ = some (.int .u64 (y n 0)) ∧ w'.cell? ⟨w.heap.size, 1, none⟩ = some (.int .u64 (y n 1)) ∧ w'.cell? ⟨w.heap.size, 2, none⟩ = some (.int .u64 (y n 2))) (by kernel_rfl) ?_
  generalize (w.alloc (.cells #[.int .u64 (y n 0), .int .u64 (y n 1), .int .u64 (y n 2)] 48)).drew = w1 at *
  have hS : (fun w' : World => w'.cell? ⟨g, j, none⟩ = some (.slice (some ⟨b, 0, none⟩) n cap) ∧ w'.cell? ⟨w.heap.size, 0, none⟩ = some (.int .u64 (y n 0)) ∧ w'.cell? ⟨w.heap.size, 1, none⟩ = some (.int .u64 (y n 1)) ∧ w'.cell? ⟨w.heap.size, 2, none⟩ = some (.int .u64 (y n 2))) w1 := ⟨HD.out.1.cell j HP.out.1, HD.out.2.1.cell 0 rfl, HD.out.2.1.cell 1 rfl, HD.out.2.1.cell 2 rfl⟩
  refine zt [10] (i := 0) rfl (.pointer (some ⟨g, j, none⟩)) (by kernel_rfl) (by kernel_rfl) (by kernel_rfl) (by kernel_rfl) (fun _ _ _ h => h) hS (fun w' d => by obtain ⟨d0, d1, d2, d3⟩ := d; go_simp) ?_
  try simp only [Act.put, List.setIfInBounds_toArray, List.set_cons_zero, List.set_cons_succ]
  refine zt [10] (i := 1) rfl (.pointer (some ⟨g, j, none⟩)) (by kernel_rfl) (by kernel_rfl) (by kernel_rfl) (by kernel_rfl) (fun _ _ _ h => h) hS (fun w' d => by obtain ⟨d0, d1, d2, d3⟩ := d; go_simp) ?_
  try simp only [Act.put, List.setIfInBounds_toArray, List.set_cons_zero, List.set_cons_succ]
  refine zt [10] (i := 2) rfl (.pointer (some ⟨g, j, none⟩)) (by kernel_rfl) (by kernel_rfl) (by kernel_rfl) (by kernel_rfl) (fun _ _ _ h => h) hS (fun w' d => by obtain ⟨d0, d1, d2, d3⟩ := d; go_simp) ?_
  try simp only [Act.put, List.setIfInBounds_toArray, List.set_cons_zero, List.set_cons_succ]
  refine zt [10] (i := 3) rfl (.pointer (some ⟨g, j, none⟩)) (by kernel_rfl) (by kernel_rfl) (by kernel_rfl) (by kernel_rfl) (fun _ _ _ h => h) hS (fun w' d => by obtain ⟨d0, d1, d2, d3⟩ := d; go_simp) ?_
  try simp only [Act.put, List.setIfInBounds_toArray, List.set_cons_zero, List.set_cons_succ]
  refine zt [10] (i := 4) rfl (.slice (some ⟨b, 0, none⟩) n cap) (by kernel_rfl) (by kernel_rfl) (by kernel_rfl) (by kernel_rfl) (fun _ _ _ h => h) hS (fun w' d => by obtain ⟨d0, d1, d2, d3⟩ := d; go_simp) ?_
  try simp only [Act.put, List.setIfInBounds_toArray, List.set_cons_zero, List.set_cons_succ]
  refine zt [10] (i := 5) rfl (.agg #[.int .u64 (y n 0), .int .u64 (y n 1), .int .u64 (y n 2)]) (by kernel_rfl) (by kernel_rfl) (by kernel_rfl) (by kernel_rfl) (fun _ _ _ h => h) hS (fun w' d => by obtain ⟨d0, d1, d2, d3⟩ := d; go_simp) ?_
  try simp only [Act.put, List.setIfInBounds_toArray, List.set_cons_zero, List.set_cons_succ]
  have hlb1 := HD.out.2.2.1.lt
  have hlg1 := HD.out.1.lt
  have H2 := Lib.hid (And.intro (HD.out.1.alloc (.cells #[.int .u64 (y n 0), .int .u64 (y n 1), .int .u64 (y n 2)] 48)) (And.intro (HD.out.2.1.alloc (.cells #[.int .u64 (y n 0), .int .u64 (y n 1), .int .u64 (y n 2)] 48)) (And.intro (HD.out.2.2.1.alloc (.cells #[.int .u64 (y n 0), .int .u64 (y n 1), .int .u64 (y n 2)] 48)) (And.intro (HD.out.2.2.2.alloc (.cells #[.int .u64 (y n 0), .int .u64 (y n 1), .int .u64 (y n 2)] 48)) (Blk.new w1 48 #[.int .u64 (y n 0), .int .u64 (y n 1), .int .u64 (y n 2)])))))
  have HA0 := (append_roomT _ b n cap w1.heap.size cur (.int .u64 (y n 0)) (.int .u64 (y n 1)) (.int .u64 (y n 2)) (by intro u hu; simp at hu; rcases hu with rfl | rfl | rfl <;> rfl) H2.out.2.2.1 HP.out.2.1 HP.out.2.2.2.1 H2.out.2.2.2.2)
  rw [hw1] at HA0
  have HA := Lib.hid HA0
  clear HA0
  have hgb := HP.out.2.2.2.2
  have hbg : b ≠ g := fun e => hgb e.symm
  refine z1 (i := 6) (by kernel_rfl) rfl (fun K hK => ?_)
  go_simp
  refine hK.out _ _ (.inr ⟨H2.out.1.cell j HP.out.1, H2.out.2.1.cell 0 rfl, H2.out.2.1.cell 1 rfl, H2.out.2.1.cell 2 rfl⟩) ?_
  clear hK K
  try simp only [Act.put, List.setIfInBounds_toArray, List.set_cons_zero, List.set_cons_succ]
  refine z1 (i := 7) (by kernel_rfl) rfl (fun K hK => ?_)
  refine wp_append_run _ _ 34 rfl _ _ _ _ rfl rfl HA.out ?_
  have H3 := Lib.hid (And.intro (((H2.out.1.far (p := ⟨b, n * 3, none⟩) (hgb) (.int .u64 (y n 0))).far (p := ⟨b, n * 3 + 1, none⟩) (hgb) (.int .u64 (y n 1))).far (p := ⟨b, n * 3 + 2, none⟩) (hgb) (.int .u64 (y n 2))) (And.intro (((H2.out.2.1.far (p := ⟨b, n * 3, none⟩) (by show w.heap.size ≠ b; omega) (.int .u64 (y n 0))).far (p := ⟨b, n * 3 + 1, none⟩) (by show w.heap.size ≠ b; omega) (.int .u64 (y n 1))).far (p := ⟨b, n * 3 + 2, none⟩) (by show w.heap.size ≠ b; omega) (.int .u64 (y n 2))) (And.intro (((H2.out.2.2.1.set (n * 3) (.int .u64 (y n 0))).set (n * 3 + 1) (.int .u64 (y n 1))).set (n * 3 + 2) (.int .u64 (y n 2))) (((H2.out.2.2.2.1.set (p := ⟨b, n * 3, none⟩) (.inr (.inr rfl)) (.int .u64 (y n 0))).set (p := ⟨b, n * 3 + 1, none⟩) (.inr (.inr rfl)) (.int .u64 (y n 1))).set (p := ⟨b, n * 3 + 2, none⟩) (.inr (.inr rfl)) (.int .u64 (y n 2))))))
  clear HA H2 HD hS
  generalize ((((w1.alloc (.cells #[.int .u64 (y n 0), .int .u64 (y n 1), .int .u64 (y n 2)] 48)).setCell ⟨b, n * 3, none⟩ (.int .u64 (y n 0))).setCell ⟨b, n * 3 + 1, none⟩ (.int .u64 (y n 1))).setCell ⟨b, n * 3 + 2, none⟩ (.int .u64 (y n 2))) = w3 at *
  refine hK.out _ _ (.inr ⟨H3.out.1.cell j HP.out.1, H3.out.2.1.cell 0 rfl, H3.out.2.1.cell 1 rfl, H3.out.2.1.cell 2 rfl⟩) ?_
  clear hK K
  try simp only [Act.put, List.setIfInBounds_toArray, List.set_cons_zero, List.set_cons_succ]
  refine z1 (i := 8) (by kernel_rfl) rfl (fun K hK => ?_)
  go_simp
  refine hK.out _ _ (.inr ⟨H3.out.1.cell j HP.out.1, H3.out.2.1.cell 0 rfl, H3.out.2.1.cell 1 rfl, H3.out.2.1.cell 2 rfl⟩) ?_
  clear hK K
  try simp only [Act.put, List.setIfInBounds_toArray, List.set_cons_zero, List.set_cons_succ]
  refine z1 (i := 9) (by kernel_rfl) rfl (fun K hK => ?_)
  go_simp
  refine hK.out _ _ (.inr ⟨H3.out.1.cell j HP.out.1, H3.out.2.1.cell 0 rfl, H3.out.2.1.cell 1 rfl, H3.out.2.1.cell 2 rfl⟩) ?_
  clear hK K
  try simp only [Act.put, List.setIfInBounds_toArray, List.set_cons_zero, List.set_cons_succ]
  have cg := H3.out.1.cell j HP.out.1
  have zg := H3.out.1.frozen j
  refine z1 (i := 10) (by kernel_rfl) rfl (fun K hK => ?_)
  go_simp
  refine hK.out _ _ (.inl rfl) ?_
  clear hK K
  refine wpAnyZ_done (by kernel_rfl) ?_ _
  go_wp2
  exact bodyPost_end (v := .tuple #[]) (by simp [results, Tryd.results25, go_sem]) rfl ⟨rfl, H3.out.1.set j _, RowT.add ⟨cur, HP.out.2.1, H3.out.2.2.1.far (p := ⟨g, j, none⟩) hbg _, HP.out.2.2.1⟩ HP.out.2.2.2.1, H3.out.2.2.2.set (p := ⟨g, j, none⟩) (.inr (.inl rfl)) _⟩
set_option maxHeartbeats 1000000 in
set_option maxRecDepth 100000 in
theorem roomT_any (w : World) (n : Nat) (y : Nat → Nat → Int) (hn : n ≤ 65536) :
    Calls Tryd.prog 37 #[.int .i64 (n : Int)] w fun e w' => ∃ b, w.heap.size ≤ b ∧ e = .returned (.agg #[.slice (some ⟨b, 0, none⟩) 0 n]) ∧ RowT w' b 0 n y ∧ Below w.heap.size w w' := by
  obtain ⟨i0, hi, hz0, hz1, hz2⟩ := infoT
  have hmk := run_make (P := Tryd.prog) (w.alloc (.cells #[.slice none 0 0] 77)) 34 48 i0 (.agg #[.int .u64 0, .int .u64 0, .int .u64 0]) Tryd.underlying34 hi hz0 .i64 .i64 0 (n : Int) (by omega) (by omega) (by rw [hz2]; omega) (by omega)
  rw [hz1, Int.toNat_natCast, World.size_alloc] at hmk
  have hsz : (madeCells (Value.agg #[.int .u64 0, .int .u64 0, .int .u64 0]).cells (n * 3)).size = n * 3 := by simp [madeCells]
  obtain ⟨made, hmd⟩ : ∃ m, m = madeCells (Value.agg #[.int .u64 0, .int .u64 0, .int .u64 0]).cells (n * 3) := ⟨_, rfl⟩
  rw [← hmd] at hmk hsz
  clear hmd hi hz0 hz1 hz2
  have hM : Blk ((w.alloc (.cells #[.slice (some ⟨w.heap.size + 1, 0, none⟩) 0 n] 77)).alloc (.cells made 48)) (w.heap.size + 1) 48 made := by
    have := Blk.new (w.alloc (.cells #[.slice (some ⟨w.heap.size + 1, 0, none⟩) 0 n] 77)) 48 made
    rwa [World.size_alloc] at this
  have hb : Below w.heap.size w ((w.alloc (.cells #[.slice (some ⟨w.heap.size + 1, 0, none⟩) 0 n] 77)).alloc (.cells made 48)) := ((Below.refl _ w).alloc (Nat.le_refl _) _).alloc (by simp) _
  have HH := Lib.hid (And.intro hM (And.intro hb hsz))
  clear hM hb hsz
  go_enter Tryd.func37, Tryd.ntmps37
  go_wp2
  exact bodyPost_ret (v := .agg #[.slice (some ⟨w.heap.size + 1, 0, none⟩) 0 n]) (by simp [results, Tryd.results37, go_sem]) rfl
    ⟨w.heap.size + 1, by omega, rfl, ⟨made, HH.out.1, HH.out.2.2, fun i hi => absurd hi (by omega)⟩, HH.out.2.1⟩

/-- Block b has room for cap things; the first n of them are there. -/
def RowO (w : World) (b n cap : Nat) (y : Nat → Nat → Int) (c : Nat → Bool) : Prop :=
  ∃ cur, Blk w b 55 cur ∧ cur.size = cap * 5 ∧ ∀ i, i < n → cur[i * 5 + 0]? = some (.int .u64 (y i 0)) ∧ cur[i * 5 + 1]? = some (.int .u64 (y i 1)) ∧ cur[i * 5 + 2]? = some (.int .u64 (y i 2)) ∧ cur[i * 5 + 3]? = some (.int .u64 (y i 3)) ∧ cur[i * 5 + 4]? = some (.bool (c i))
section
variable {w w' : World} {b n cap : Nat} {y : Nat → Nat → Int} {c : Nat → Bool}
theorem RowO.heap (h : RowO w b n cap y c) (hb : w'.heap[b]? = w.heap[b]?) : RowO w' b n cap y c := by
  obtain ⟨cur, h1, h2⟩ := h
  exact ⟨cur, hb.trans h1, h2⟩
theorem RowO.lt (h : RowO w b n cap y c) : b < w.heap.size := by
  obtain ⟨cur, h1, h2⟩ := h
  exact h1.lt
theorem RowO.chg {S : Nat → Prop} (h : RowO w b n cap y c) (hc : Chg S w w') (hs : ¬ S b) : RowO w' b n cap y c := h.heap (hc.block b h.lt hs)
theorem RowO.pile (h : RowO w b n n y c) (hn : n ≤ 281474976710656) : PilO w b (.slice (some ⟨b, 0, none⟩) n n) n y c := by
  obtain ⟨cur, h1, h2, h3⟩ := h
  exact ⟨0, n, cur, rfl, h1, Nat.le_refl _, by unfold maxLen; omega, by omega, fun i hi => by simpa using h3 i hi⟩
theorem RowO.add (h : ∃ cur : Array Value, cur.size = cap * 5 ∧ Blk w' b 55 (((((cur.setIfInBounds (n * 5) (.int .u64 (y n 0))).setIfInBounds (n * 5 + 1) (.int .u64 (y n 1))).setIfInBounds (n * 5 + 2) (.int .u64 (y n 2))).setIfInBounds (n * 5 + 3) (.int .u64 (y n 3))).setIfInBounds (n * 5 + 4) (.bool (c n))) ∧ ∀ i, i < n → cur[i * 5 + 0]? = some (.int .u64 (y i 0)) ∧ cur[i * 5 + 1]? = some (.int .u64 (y i 1)) ∧ cur[i * 5 + 2]? = some (.int .u64 (y i 2)) ∧ cur[i * 5 + 3]? = some (.int .u64 (y i 3)) ∧ cur[i * 5 + 4]? = some (.bool (c i))) (hn : n < cap) : RowO w' b (n + 1) cap y c := by
  obtain ⟨cur, h2, h3, h4⟩ := h
  refine ⟨_, h3, by simpa using h2, fun i hi => ?_⟩
  rcases Nat.lt_or_ge i n with hi' | hi'
  · have := h4 i hi'
    refine ⟨?_, ?_, ?_, ?_, ?_⟩
    · rw [Array.getElem?_setIfInBounds_ne (by omega), Array.getElem?_setIfInBounds_ne (by omega), Array.getElem?_setIfInBounds_ne (by omega), Array.getElem?_setIfInBounds_ne (by omega), Array.getElem?_setIfInBounds_ne (by omega)]; exact this.1
    · rw [Array.getElem?_setIfInBounds_ne (by omega), Array.getElem?_setIfInBounds_ne (by omega), Array.getElem?_setIfInBounds_ne (by omega), Array.getElem?_setIfInBounds_ne (by omega), Array.getElem?_setIfInBounds_ne (by omega)]; exact this.2.1
    · rw [Array.getElem?_setIfInBounds_ne (by omega), Array.getElem?_setIfInBounds_ne (by omega), Array.getElem?_setIfInBounds_ne (by omega), Array.getElem?_setIfInBounds_ne (by omega), Array.getElem?_setIfInBounds_ne (by omega)]; exact this.2.2.1
    · rw [Array.getElem?_setIfInBounds_ne (by omega), Array.getElem?_setIfInBounds_ne (by omega), Array.getElem?_setIfInBounds_ne (by omega), Array.getElem?_setIfInBounds_ne (by omega), Array.getElem?_setIfInBounds_ne (by omega)]; exact this.2.2.2.1
    · rw [Array.getElem?_setIfInBounds_ne (by omega), Array.getElem?_setIfInBounds_ne (by omega), Array.getElem?_setIfInBounds_ne (by omega), Array.getElem?_setIfInBounds_ne (by omega), Array.getElem?_setIfInBounds_ne (by omega)]; exact this.2.2.2.2
  · obtain rfl : i = n := by omega
    refine ⟨?_, ?_, ?_, ?_, ?_⟩
    · simp [Array.getElem?_setIfInBounds]; omega
    · simp [Array.getElem?_setIfInBounds]; omega
    · simp [Array.getElem?_setIfInBounds]; omega
    · simp [Array.getElem?_setIfInBounds]; omega
    · simp [Array.getElem?_setIfInBounds]; omega
end
theorem infoO : ∃ i, Tryd.prog.info? 55 = some i ∧ i.zero = some (.agg #[.int .u64 0, .int .u64 0, .int .u64 0, .int .u64 0, .bool false]) ∧ i.size = 5 ∧ i.bytes = 40 := info_parts (show (Tryd.prog.info? 55).map (fun i => (i.zero, i.size, i.bytes)) = some (some (.agg #[.int .u64 0, .int .u64 0, .int .u64 0, .int .u64 0, .bool false]), 5, 40) by kernel_rfl)
theorem append_roomO (w : World) (b n cap a : Nat) (cur : Array Value) (x0 x1 x2 x3 x4 : Value) (h1 : ∀ u ∈ [x0, x1, x2, x3, x4], u.oneCell' = true) (hb : Blk w b 55 cur) (hs : cur.size = cap * 5) (hn : n < cap) (hx : Blk w a 55 #[x0, x1, x2, x3, x4]) :
    (Builtin.append_ #[35, 35] 35 #[.slice (some ⟨b, 0, none⟩) n cap, .slice (some ⟨a, 0, none⟩) 1 1]).run Tryd.prog w = .ok (.slice (some ⟨b, 0, none⟩) (n + 1) cap) (((((w.setCell ⟨b, n * 5, none⟩ (x0)).setCell ⟨b, n * 5 + 1, none⟩ (x1)).setCell ⟨b, n * 5 + 2, none⟩ (x2)).setCell ⟨b, n * 5 + 3, none⟩ (x3)).setCell ⟨b, n * 5 + 4, none⟩ (x4)) := by
  obtain ⟨i0, hi, hz0, hz1, hz2⟩ := infoO
  have hr := run_append_room_cells (P := Tryd.prog) w 35 35 55 i0 Tryd.underlying35 hi b 0 n cap ⟨a, 0, none⟩ 1 1 [x0, x1, x2, x3, x4] (by rw [hz1]; rfl)
    (fun j u hu => by
      have hj : j < 5 := (List.getElem?_eq_some_iff.1 hu).1
      rw [Addr.add_mid, Nat.zero_add]
      exact hx.cell j (by simpa using hu)) h1 hn
    (fun j hj => by
      have hj : j < 5 := hj
      rw [hz1, cell_of_row w b _ cur 55 (0, 0) hb]
      simp
      omega)
    (fun j hj => by rw [hz1]; exact hb.frozen _)
  rw [hz1, Nat.zero_add] at hr
  exact hr
set_option maxHeartbeats 4000000 in
set_option maxRecDepth 100000 in
theorem addO_any (w : World) (g j b n cap : Nat) (cs : Array Value) (y : Nat → Nat → Int) (c : Nat → Bool) (hs : Blk w g 81 cs) (hj : cs[j]? = some (.slice (some ⟨b, 0, none⟩) n cap)) (hr : RowO w b n cap y c) (hn : n < cap) :
    Calls Tryd.prog 28 #[.pointer (some ⟨g, j, none⟩), .agg #[.int .u64 (y n 0), .int .u64 (y n 1), .int .u64 (y n 2), .int .u64 (y n 3), .bool (c n)]] w fun e w' => e = .returned (.tuple #[]) ∧ Blk w' g 81 (cs.setIfInBounds j (.slice (some ⟨b, 0, none⟩) (n + 1) cap)) ∧ RowO w' b (n + 1) cap y c ∧ Chg (fun q => q = g ∨ q = b) w w' := by
  obtain ⟨cur, hb, hsz, hcur⟩ := hr
  have hgb : g ≠ b := blk_ne hs hb (by decide)
  have hlg := hs.lt
  have hlb := hb.lt
  have HD := Lib.hid (And.intro (hs.alloc (.cells #[.int .u64 (y n 0), .int .u64 (y n 1), .int .u64 (y n 2), .int .u64 (y n 3), .bool (c n)] 55)).drew (And.intro (Blk.new w 55 #[.int .u64 (y n 0), .int .u64 (y n 1), .int .u64 (y n 2), .int .u64 (y n 3), .bool (c n)]).drew (And.intro (hb.alloc (.cells #[.int .u64 (y n 0), .int .u64 (y n 1), .int .u64 (y n 2), .int .u64 (y n 3), .bool (c n)] 55)).drew ((Chg.refl (fun q => q = g ∨ q = b) w).alloc (.cells #[.int .u64 (y n 0), .int .u64 (y n 1), .int .u64 (y n 2), .int .u64 (y n 3), .bool (c n)] 55)).drew)))
  have HP := Lib.hid (And.intro hj (And.intro hsz (And.intro hcur (And.intro hn hgb))))
  have hls : w.heap.size < (w.alloc (.cells #[.int .u64 (y n 0), .int .u64 (y n 1), .int .u64 (y n 2), .int .u64 (y n 3), .bool (c n)] 55)).heap.size := by simp
  have hsize : (w.alloc (.cells #[.int .u64 (y n 0), .int .u64 (y n 1), .int .u64 (y n 2), .int .u64 (y n 3), .bool (c n)] 55)).heap.size = w.heap.size + 1 := by simp
  clear hs hj hb hsz hcur hn hgb hls
  have hw1 : (w.alloc (.cells #[.int .u64 (y n 0), .int .u64 (y n 1), .int .u64 (y n 2), .int .u64 (y n 3), .bool (c n)] 55)).drew.heap.size = w.heap.size + 1 := hsize
  clear hsize
  go_enter Tryd.func28, Tryd.ntmps28
  go_wp2
  refine region_z 10 (fun w' : World => w'.cell? ⟨g, j, none⟩ = some (.slice (some ⟨b, 0, none⟩) n cap) ∧ w'.cell? ⟨w.heap.size, 0, none⟩ = some (.int .u64 (y n 0)) ∧ w'.cell? ⟨w.heap.size, 1, none⟩ = some (.int .u64 (y n 1)) ∧ w'.cell? ⟨w.heap.size, 2, none⟩ = some (.int .u64 (y n 2)) ∧ w'.cell? ⟨w.heap.size, 3, none⟩ = some (.int .u64 (y n 3)) ∧ w'.cell? ⟨w.heap.size, 4, none⟩ = some (.bool (c n))) (by kernel_rfl) ?_
  generalize (w.alloc (.cells #[.int .u64 (y n 0), .int .u64 (y n 1), .int .u64 (y n 2), .int .u64 (y n 3), .bool (c n)] 55)).drew = w1 at *
  have hS : (fun w' : World => w'.cell? ⟨g, j, none⟩ = some (.slice (some ⟨b, 0, none⟩) n cap) ∧ w'.cell? ⟨w.heap.size, 0, none⟩ = some (.int .u64 (y n 0)) ∧ w'.cell? ⟨w.heap.size, 1, none⟩ = some (.int .u64 (y n 1)) ∧ w'.cell? ⟨w.heap.size, 2, none⟩ = some (.int .u64 (y n 2)) ∧ w'.cell? ⟨w.heap.size, 3, none⟩ = some (.int .u64 (y n 3)) ∧ w'.cell? ⟨w.heap.size, 4, none⟩ = some (.bool (c n))) w1 := ⟨HD.out.1.cell j HP.out.1, HD.out.2.1.cell 0 rfl, HD.out.2.1.cell 1 rfl, HD.out.2.1.cell 2 rfl, HD.out.2.1.cell 3 rfl, HD.out.2.1.cell 4 rfl⟩
  refine zt [10] (i := 0) rfl (.pointer (some ⟨g, j, none⟩)) (by kernel_rfl) (by kernel_rfl) (by kernel_rfl) (by kernel_rfl) (fun _ _ _ h => h) hS (fun w' d => by obtain ⟨d0, d1, d2, d3, d4, d5⟩ := d; go_simp) ?_
  try simp only [Act.put, List.setIfInBounds_toArray, List.set_cons_zero, List.set_cons_succ]
  refine zt [10] (i := 1) rfl (.pointer (some ⟨g, j, none⟩)) (by kernel_rfl) (by kernel_rfl) (by kernel_rfl) (by kernel_rfl) (fun _ _ _ h => h) hS (fun w' d => by obtain ⟨d0, d1, d2, d3, d4, d5⟩ := d; go_simp) ?_
  try simp only [Act.put, List.setIfInBounds_toArray, List.set_cons_zero, List.set_cons_succ]
  refine zt [10] (i := 2) rfl (.pointer (some ⟨g, j, none⟩)) (by kernel_rfl) (by kernel_rfl) (by kernel_rfl) (by kernel_rfl) (fun _ _ _ h => h) hS (fun w' d => by obtain ⟨d0, d1, d2, d3, d4, d5⟩ := d; go_simp) ?_
  try simp only [Act.put, List.setIfInBounds_toArray, List.set_cons_zero, List.set_cons_succ]
  refine zt [10] (i := 3) rfl (.pointer (some ⟨g, j, none⟩)) (by kernel_rfl) (by kernel_rfl) (by kernel_rfl) (by kernel_rfl) (fun _ _ _ h => h) hS (fun w' d => by obtain ⟨d0, d1, d2, d3, d4, d5⟩ := d; go_simp) ?_
  try simp only [Act.put, List.setIfInBounds_toArray, List.set_cons_zero, List.set_cons_succ]
  refine zt [10] (i := 4) rfl (.slice (some ⟨b, 0, none⟩) n cap) (by kernel_rfl) (by kernel_rfl) (by kernel_rfl) (by kernel_rfl) (fun _ _ _ h => h) hS (fun w' d => by obtain ⟨d0, d1, d2, d3, d4, d5⟩ := d; go_simp) ?_
  try simp only [Act.put, List.setIfInBounds_toArray, List.set_cons_zero, List.set_cons_succ]
  refine zt [10] (i := 5) rfl (.agg #[.int .u64 (y n 0), .int .u64 (y n 1), .int .u64 (y n 2), .int .u64 (y n 3), .bool (c n)]) (by kernel_rfl) (by kernel_rfl) (by kernel_rfl) (by kernel_rfl) (fun _ _ _ h => h) hS (fun w' d => by obtain ⟨d0, d1, d2, d3, d4, d5⟩ := d; go_simp) ?_
  try simp only [Act.put, List.setIfInBounds_toArray, List.set_cons_zero, List.set_cons_succ]
  have hlb1 := HD.out.2.2.1.lt
  have hlg1 := HD.out.1.lt
  have H2 := Lib.hid (And.intro (HD.out.1.alloc (.cells #[.int .u64 (y n 0), .int .u64 (y n 1), .int .u64 (y n 2), .int .u64 (y n 3), .bool (c n)] 55)) (And.intro (HD.out.2.1.alloc (.cells #[.int .u64 (y n 0), .int .u64 (y n 1), .int .u64 (y n 2), .int .u64 (y n 3), .bool (c n)] 55)) (And.intro (HD.out.2.2.1.alloc (.cells #[.int .u64 (y n 0), .int .u64 (y n 1), .int .u64 (y n 2), .int .u64 (y n 3), .bool (c n)] 55)) (And.intro (HD.out.2.2.2.alloc (.cells #[.int .u64 (y n 0), .int .u64 (y n 1), .int .u64 (y n 2), .int .u64 (y n 3), .bool (c n)] 55)) (Blk.new w1 55 #[.int .u64 (y n 0), .int .u64 (y n 1), .int .u64 (y n 2), .int .u64 (y n 3), .bool (c n)])))))
  have HA0 := (append_roomO _ b n cap w1.heap.size cur (.int .u64 (y n 0)) (.int .u64 (y n 1)) (.int .u64 (y n 2)) (.int .u64 (y n 3)) (.bool (c n)) (by intro u hu; simp at hu; rcases hu with rfl | rfl | rfl | rfl | rfl <;> rfl) H2.out.2.2.1 HP.out.2.1 HP.out.2.2.2.1 H2.out.2.2.2.2)
  rw [hw1] at HA0
  have HA := Lib.hid HA0
  clear HA0
  have hgb := HP.out.2.2.2.2
  have hbg : b ≠ g := fun e => hgb e.symm
  refine z1 (i := 6) (by kernel_rfl) rfl (fun K hK => ?_)
  go_simp
  refine hK.out _ _ (.inr ⟨H2.out.1.cell j HP.out.1, H2.out.2.1.cell 0 rfl, H2.out.2.1.cell 1 rfl, H2.out.2.1.cell 2 rfl, H2.out.2.1.cell 3 rfl, H2.out.2.1.cell 4 rfl⟩) ?_
  clear hK K
  try simp only [Act.put, List.setIfInBounds_toArray, List.set_cons_zero, List.set_cons_succ]
  refine z1 (i := 7) (by kernel_rfl) rfl (fun K hK => ?_)
  refine wp_append_run _ _ 35 rfl _ _ _ _ rfl rfl HA.out ?_
  have H3 := Lib.hid (And.intro (((((H2.out.1.far (p := ⟨b, n * 5, none⟩) (hgb) (.int .u64 (y n 0))).far (p := ⟨b, n * 5 + 1, none⟩) (hgb) (.int .u64 (y n 1))).far (p := ⟨b, n * 5 + 2, none⟩) (hgb) (.int .u64 (y n 2))).far (p := ⟨b, n * 5 + 3, none⟩) (hgb) (.int .u64 (y n 3))).far (p := ⟨b, n * 5 + 4, none⟩) (hgb) (.bool (c n))) (And.intro (((((H2.out.2.1.far (p := ⟨b, n * 5, none⟩) (by show w.heap.size ≠ b; omega) (.int .u64 (y n 0))).far (p := ⟨b, n * 5 + 1, none⟩) (by show w.heap.size ≠ b; omega) (.int .u64 (y n 1))).far (p := ⟨b, n * 5 + 2, none⟩) (by show w.heap.size ≠ b; omega) (.int .u64 (y n 2))).far (p := ⟨b, n * 5 + 3, none⟩) (by show w.heap.size ≠ b; omega) (.int .u64 (y n 3))).far (p := ⟨b, n * 5 + 4, none⟩) (by show w.heap.size ≠ b; omega) (.bool (c n))) (And.intro (((((H2.out.2.2.1.set (n * 5) (.int .u64 (y n 0))).set (n * 5 + 1) (.int .u64 (y n 1))).set (n * 5 + 2) (.int .u64 (y n 2))).set (n * 5 + 3) (.int .u64 (y n 3))).set (n * 5 + 4) (.bool (c n))) (((((H2.out.2.2.2.1.set (p := ⟨b, n * 5, none⟩) (.inr (.inr rfl)) (.int .u64 (y n 0))).set (p := ⟨b, n * 5 + 1, none⟩) (.inr (.inr rfl)) (.int .u64 (y n 1))).set (p := ⟨b, n * 5 + 2, none⟩) (.inr (.inr rfl)) (.int .u64 (y n 2))).set (p := ⟨b, n * 5 + 3, none⟩) (.inr (.inr rfl)) (.int .u64 (y n 3))).set (p := ⟨b, n * 5 + 4, none⟩) (.inr (.inr rfl)) (.bool (c n))))))
  clear HA H2 HD hS
  generalize ((((((w1.alloc (.cells #[.int .u64 (y n 0), .int .u64 (y n 1), .int .u64 (y n 2), .int .u64 (y n 3), .bool (c n)] 55)).setCell ⟨b, n * 5, none⟩ (.int .u64 (y n 0))).setCell ⟨b, n * 5 + 1, none⟩ (.int .u64 (y n 1))).setCell ⟨b, n * 5 + 2, none⟩ (.int .u64 (y n 2))).setCell ⟨b, n * 5 + 3, none⟩ (.int .u64 (y n 3))).setCell ⟨b, n * 5 + 4, none⟩ (.bool (c n))) = w3 at *
  refine hK.out _ _ (.inr ⟨H3.out.1.cell j HP.out.1, H3.out.2.1.cell 0 rfl, H3.out.2.1.cell 1 rfl, H3.out.2.1.cell 2 rfl, H3.out.2.1.cell 3 rfl, H3.out.2.1.cell 4 rfl⟩) ?_
  clear hK K
  try simp only [Act.put, List.setIfInBounds_toArray, List.set_cons_zero, List.set_cons_succ]
  refine z1 (i := 8) (by kernel_rfl) rfl (fun K hK => ?_)
  go_simp
  refine hK.out _ _ (.inr ⟨H3.out.1.cell j HP.out.1, H3.out.2.1.cell 0 rfl, H3.out.2.1.cell 1 rfl, H3.out.2.1.cell 2 rfl, H3.out.2.1.cell 3 rfl, H3.out.2.1.cell 4 rfl⟩) ?_
  clear hK K
  try simp only [Act.put, List.setIfInBounds_toArray, List.set_cons_zero, List.set_cons_succ]
  refine z1 (i := 9) (by kernel_rfl) rfl (fun K hK => ?_)
  go_simp
  refine hK.out _ _ (.inr ⟨H3.out.1.cell j HP.out.1, H3.out.2.1.cell 0 rfl, H3.out.2.1.cell 1 rfl, H3.out.2.1.cell 2 rfl, H3.out.2.1.cell 3 rfl, H3.out.2.1.cell 4 rfl⟩) ?_
  clear hK K
  try simp only [Act.put, List.setIfInBounds_toArray, List.set_cons_zero, List.set_cons_succ]
  have cg := H3.out.1.cell j HP.out.1
  have zg := H3.out.1.frozen j
  refine z1 (i := 10) (by kernel_rfl) rfl (fun K hK => ?_)
  go_simp
  refine hK.out _ _ (.inl rfl) ?_
  clear hK K
  refine wpAnyZ_done (by kernel_rfl) ?_ _
  go_wp2
  exact bodyPost_end (v := .tuple #[]) (by simp [results, Tryd.results28, go_sem]) rfl ⟨rfl, H3.out.1.set j _, RowO.add ⟨cur, HP.out.2.1, H3.out.2.2.1.far (p := ⟨g, j, none⟩) hbg _, HP.out.2.2.1⟩ HP.out.2.2.2.1, H3.out.2.2.2.set (p := ⟨g, j, none⟩) (.inr (.inl rfl)) _⟩
set_option maxHeartbeats 1000000 in
set_option maxRecDepth 100000 in
theorem roomO_any (w : World) (n : Nat) (y : Nat → Nat → Int) (c : Nat → Bool) (hn : n ≤ 65536) :
    Calls Tryd.prog 38 #[.int .i64 (n : Int)] w fun e w' => ∃ b, w.heap.size ≤ b ∧ e = .returned (.agg #[.slice (some ⟨b, 0, none⟩) 0 n]) ∧ RowO w' b 0 n y c ∧ Below w.heap.size w w' := by
  obtain ⟨i0, hi, hz0, hz1, hz2⟩ := infoO
  have hmk := run_make (P := Tryd.prog) (w.alloc (.cells #[.slice none 0 0] 79)) 35 55 i0 (.agg #[.int .u64 0, .int .u64 0, .int .u64 0, .int .u64 0, .bool false]) Tryd.underlying35 hi hz0 .i64 .i64 0 (n : Int) (by omega) (by omega) (by rw [hz2]; omega) (by omega)
  rw [hz1, Int.toNat_natCast, World.size_alloc] at hmk
  have hsz : (madeCells (Value.agg #[.int .u64 0, .int .u64 0, .int .u64 0, .int .u64 0, .bool false]).cells (n * 5)).size = n * 5 := by simp [madeCells]
  obtain ⟨made, hmd⟩ : ∃ m, m = madeCells (Value.agg #[.int .u64 0, .int .u64 0, .int .u64 0, .int .u64 0, .bool false]).cells (n * 5) := ⟨_, rfl⟩
  rw [← hmd] at hmk hsz
  clear hmd hi hz0 hz1 hz2
  have hM : Blk ((w.alloc (.cells #[.slice (some ⟨w.heap.size + 1, 0, none⟩) 0 n] 79)).alloc (.cells made 55)) (w.heap.size + 1) 55 made := by
    have := Blk.new (w.alloc (.cells #[.slice (some ⟨w.heap.size + 1, 0, none⟩) 0 n] 79)) 55 made
    rwa [World.size_alloc] at this
  have hb : Below w.heap.size w ((w.alloc (.cells #[.slice (some ⟨w.heap.size + 1, 0, none⟩) 0 n] 79)).alloc (.cells made 55)) := ((Below.refl _ w).alloc (Nat.le_refl _) _).alloc (by simp) _
  have HH := Lib.hid (And.intro hM (And.intro hb hsz))
  clear hM hb hsz
  go_enter Tryd.func38, Tryd.ntmps38
  go_wp2
  exact bodyPost_ret (v := .agg #[.slice (some ⟨w.heap.size + 1, 0, none⟩) 0 n]) (by simp [results, Tryd.results38, go_sem]) rfl
    ⟨w.heap.size + 1, by omega, rfl, ⟨made, HH.out.1, HH.out.2.2, fun i hi => absurd hi (by omega)⟩, HH.out.2.1⟩
end Go.Proofs.YtgmlmngnedhllaaDoor
