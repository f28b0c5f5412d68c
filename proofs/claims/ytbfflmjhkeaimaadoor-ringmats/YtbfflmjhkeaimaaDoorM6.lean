/- Lists of words that are only read, lists of the call's own that grow; the document's own product. -/
import Derived.Test.YtbfflmjhkeaimaaDoorM3
import Derived.Maps.AppendAt
import Derived.BigQuiet
import Derived.Deep.QuietTactic
namespace Go.Proofs.YtbfflmjhkeaimaaDoor
open Go.RowKit

section
variable {P : Program} {w : World} {ops : Array Oper} {rest : List Oper} {o : Oper} {a : Act} {K : Act → World → Prop} {Q : Exit → Act → World → Prop}
/-- An append whose run is known. -/
theorem wp_append_run (s x : Operand) (t : TypeId) (ho : o.op = .call { callee := .builtin .append, args := #[s, x], argTypes := #[t, t] }) (v x' v' : Value) (w' : World) (hs : a.eval s = v) (hx : a.eval x = x')
    (hr : (Builtin.append_ #[t, t] o.type #[v, x']).run P w = .ok v' w') (h : K (a.put o.dst v') w') : o.wp P a w K Q := by
  unfold Oper.wp execOp
  simp only [ho, resolve, invoke, builtin, Sem.run_bind, Sem.run_pure, Result.andThen_ok, List.map_toArray, List.map_cons, List.map_nil, hs, hx, hr]
  exact h
theorem wpList_append_run (hgd : o.guard = none) (s x : Operand) (t : TypeId) (ho : o.op = .call { callee := .builtin .append, args := #[s, x], argTypes := #[t, t] }) (v x' v' : Value) (w' : World) (hs : a.eval s = v) (hx : a.eval x = x')
    (hr : (Builtin.append_ #[t, t] o.type #[v, x']).run P w = .ok v' w') (h : wpList P ops Q rest (a.put o.dst v') w') : wpList P ops Q (o :: rest) a w :=
  wpList_plain hgd fun _ hK => wp_append_run s x t ho v x' v' w' hs hx hr (hK _ _ h)
theorem step_append_run {E : Prop} (hgd : o.guard = none) (s x : Operand) (t : TypeId) (ho : o.op = .call { callee := .builtin .append, args := #[s, x], argTypes := #[t, t] }) (v x' : Value) (hs : a.eval s = v) (hx : a.eval x = x')
    (R : Value → World → Prop) (hr : ∃ v' w', (Builtin.append_ #[t, t] o.type #[v, x']).run P w = .ok v' w' ∧ R v' w') (h : ∀ v' w', R v' w' → K (a.put o.dst v') w') :
    if Region.wanted o (yielded ops a.tmps) = true then Oper.wp P o a w K Q else E := by
  have hw : Region.wanted o (yielded ops a.tmps) = true := by simp [Region.wanted, hgd]
  rw [if_pos hw]
  obtain ⟨v', w', hr, hR⟩ := hr
  exact wp_append_run s x t ho v x' v' w' hs hx hr (h v' w' hR)
end
/-- A list that reads as these words. -/
def Lst (w : World) (v : Value) (n : Nat) (f : Nat → Int) : Prop := ∃ A c, v = .slice A n c ∧ n ≤ c ∧ c ≤ maxLen ∧ (A = none → c = 0) ∧ AtO w A n f
theorem AtO.below {w w' : World} {A : Option Addr} {n : Nat} {f : Nat → Int} (h : AtO w A n f) (hb : Below w.heap.size w w') : AtO w' A n f := fun i hi => by
  obtain ⟨ad, e, hc⟩ := h i hi
  exact ⟨ad, e, (hb.cell (World.block_lt_of_cell? _ _ hc)).trans hc⟩
theorem Lst.below {w w' : World} {v : Value} {n : Nat} {f : Nat → Int} (h : Lst w v n f) (hb : Below w.heap.size w w') : Lst w' v n f := by
  obtain ⟨A, c, e, h1, h2, h3, h4⟩ := h
  exact ⟨A, c, e, h1, h2, h3, h4.below hb⟩
theorem Lst.congr {w : World} {v : Value} {n : Nat} {f g : Nat → Int} (h : Lst w v n f) (hf : ∀ i, i < n → f i = g i) : Lst w v n g := by
  obtain ⟨A, c, e, h1, h2, h3, h4⟩ := h
  exact ⟨A, c, e, h1, h2, h3, fun i hi => by rw [← hf i hi]; exact h4 i hi⟩

theorem info22 : ∃ i, Tryd.prog.info? 22 = some i ∧ i.zero = some (.int .u64 0) ∧ i.size = 1 ∧ i.bytes = 8 := info_parts Tryd.info22
theorem news_of {w : World} {A : Option Addr} {n : Nat} {f : Nat → Int} {ad : Addr} (h : AtO w A n f) (hA : A = some ad) : ∀ j u, (wordsOf n f)[j]? = some u → w.cell? (ad.add j) = some u := by
  intro j u hu
  have hj : j < n := by
    have := (List.getElem?_eq_some_iff.1 hu).1
    rwa [wordsOf_length] at this
  rw [wordsOf_get _ _ _ hj] at hu
  obtain ⟨ad', e, hc⟩ := h j hj
  rw [hA] at e
  cases e
  rw [← hu]; exact hc
theorem words_one (n : Nat) (f : Nat → Int) : ∀ u ∈ wordsOf n f, u.oneCell' = true := by
  intro u hu
  simp only [wordsOf, List.mem_map] at hu
  obtain ⟨_, _, rfl⟩ := hu
  rfl
theorem words_app (n m : Nat) (f g : Nat → Int) : wordsOf n f ++ wordsOf m g = wordsOf (n + m) (fun i => if i < n then f i else g (i - n)) := by
  apply List.ext_getElem?
  intro i
  rcases Nat.lt_or_ge i n with hi | hi
  · rw [List.getElem?_append_left (by rw [wordsOf_length]; exact hi), wordsOf_get _ _ _ hi, wordsOf_get _ _ _ (by omega), if_pos hi]
  · rw [List.getElem?_append_right (by rw [wordsOf_length]; exact hi), wordsOf_length]
    rcases Nat.lt_or_ge i (n + m) with h | h
    · rw [wordsOf_get _ _ _ (by omega), wordsOf_get _ _ _ h, if_neg (by omega)]
    · simp only [wordsOf, List.getElem?_map]
      rw [List.getElem?_eq_none (by simp; omega), List.getElem?_eq_none (by simp; omega)]
      rfl
/-- append onto a list of the call's own. -/
theorem append_own (w : World) (base : Nat) (v : Value) (n m : Nat) (f g : Nat → Int) (A : Option Addr) (c : Nat) (hown : w.ownsRow base 22 1 v n (wordsOf n f)) (hA : AtO w A m g) (hc : A = none → m = 0 ∧ c = 0)
    (hn : n + m ≤ 1000000000000) (hbase : base ≤ w.heap.size) :
    ∃ v' w', (Builtin.append_ #[28, 28] 28 #[v, .slice A m c]).run Tryd.prog w = .ok v' w' ∧ w'.ownsRow base 22 1 v' (n + m) (wordsOf (n + m) (fun i => if i < n then f i else g (i - n))) ∧ Below base w w' := by
  obtain ⟨i0, hi, hz0, hz1, hz2⟩ := info22
  rcases A with _ | ad
  · obtain ⟨rfl, rfl⟩ := hc rfl
    refine ⟨v, w, run_append_owned_none w base 28 28 22 i0 1 Tryd.underlying28 hi v n _ hown, ?_, Below.refl _ _⟩
    rw [Nat.add_zero, ← wordsOf_congr (f := f) (fun q hq => by rw [if_pos hq])]
    exact hown
  · obtain ⟨v', w', hr, h2, h3, _, h5⟩ := run_append_own_at w base 28 28 22 i0 (.int .u64 0) 1 8 Tryd.underlying28 hi hz0 hz1 hz2 rfl (by omega) v n _ hown ad m c (wordsOf m g) (by rw [wordsOf_length, Nat.mul_one]) (news_of hA rfl) (words_one m g) (by unfold maxLen; omega) (by omega) hbase
    refine ⟨v', w', hr, by rw [← words_app]; exact h2, (Below.refl base w).grown h3 hbase fun k hk => ?_⟩
    rcases hown.2 with ⟨rfl, _⟩ | ⟨g', cap, cur, rfl, hb, _⟩
    · simp [Value.ownBlock] at hk
    · simp [Value.ownBlock] at hk; omega
/-- A list of the call's own, read. -/
theorem own_lst {w : World} {base n : Nat} {v : Value} {f : Nat → Int} (h : w.ownsRow base 22 1 v n (wordsOf n f)) : Lst w v n f := by
  rcases h.2 with ⟨rfl, rfl⟩ | ⟨g, cap, cur, rfl, hb, hg, hnc, hm, hsz, ht⟩
  · exact ⟨none, 0, rfl, Nat.le_refl _, Nat.zero_le _, fun _ => rfl, AtO.none⟩
  · refine ⟨_, cap, rfl, hnc, hm, fun h => (by cases h), fun i hi => ⟨_, rfl, ?_⟩⟩
    have e : (⟨g, 0, none⟩ : Addr).add i = ⟨g, i, none⟩ := by
      unfold Addr.add; split
      · subst i; rfl
      · simp
    rw [e, cell_of_row w g i cur 22 (0, 0) hg]
    have : (cur.toList.take (n * 1))[i]? = some (.int .u64 (f i)) := by rw [ht, wordsOf_get _ _ _ hi]
    rw [Nat.mul_one, List.getElem?_take, if_pos hi] at this
    simpa using this

set_option maxHeartbeats 4000000 in
set_option maxRecDepth 100000 in
/-- The document's product. -/
theorem rmat_any (va vb : Value) (m k n : Nat) (α β : Nat → Int) (w : World) (hA : Lst w va (m * k) α) (hB : Lst w vb (k * n) β) (hm : m ≤ 1024) (hk : k ≤ 1024) (hn : n ≤ 1024) :
    Calls Tryd.prog 21 #[va, vb, .int .i64 m, .int .i64 k, .int .i64 n] w fun e w' => ∃ v, e = .returned v ∧ Lst w' v (m * n) (prodF α β k n) ∧ Below w.heap.size w w' := by
  have b1 : m * k ≤ 1024 * 1024 := Nat.mul_le_mul hm hk
  have b2 : k * n ≤ 1024 * 1024 := Nat.mul_le_mul hk hn
  have b3 : m * n ≤ 1024 * 1024 := Nat.mul_le_mul hm hn
  obtain ⟨A, ca, rfl, _, _, _, hA⟩ := hA
  obtain ⟨B, cb, rfl, _, _, _, hB⟩ := hB
  have HA := Lib.hid hA
  have HB := Lib.hid hB
  clear hA hB
  go_enter Tryd.func21, Tryd.ntmps21
  go_wp2
  go_loopw [11, 12] (fun o t wr => ∃ i : Nat, i ≤ m ∧ t = .int .i64 i ∧ Hid (wr.ownsRow w.heap.size 22 1 o (i * n) (wordsOf (i * n) (prodF α β k n))) ∧ Hid (Below w.heap.size w wr)) (fun _ t _ => m - (intOf t).toNat)
  case atStart => exact ⟨0, by omega, rfl, by rw [Nat.zero_mul]; exact World.ownsRow_nil _ _ _ _, Below.refl _ _⟩
  case round =>
    rename_i o0 _
    obtain ⟨i, hi, rfl, HO, HW⟩ := hrel
    by_cases hlt : i < m
    · have q1 : (i + 1) * n ≤ m * n := Nat.mul_le_mul_right n hlt
      have q2 : (i + 1) * n = i * n + n := Nat.succ_mul i n
      have q3 : (i + 1) * k ≤ m * k := Nat.mul_le_mul_right k hlt
      have q4 : (i + 1) * k = i * k + k := Nat.succ_mul i k
      have Q := Lib.hid (And.intro q1 (And.intro q2 (And.intro q3 q4)))
      clear q1 q2 q3 q4
      go_wp2
      go_loopw [11, 13] (fun o t wr => ∃ j : Nat, j ≤ n ∧ t = .int .i64 j ∧ Hid (wr.ownsRow w.heap.size 22 1 o (i * n + j) (wordsOf (i * n + j) (prodF α β k n))) ∧ Hid (Below w.heap.size w wr)) (fun _ t _ => n - (intOf t).toNat)
      case atStart => exact ⟨0, by omega, rfl, HO.out, HW.out⟩
      case round =>
        clear HO HW
        obtain ⟨j, hj, rfl, HO, HW⟩ := hrel
        by_cases hlj : j < n
        · go_wp2
          go_loopw [14, 15] (fun s t w2 => ∃ u : Nat, u ≤ k ∧ t = .int .i64 u ∧ s = .int .u64 (U (sumTo (fun t => α (i * k + t) * β (t * n + j)) u)) ∧ Hid (w2.ownsRow w.heap.size 22 1 _ (i * n + j) (wordsOf (i * n + j) (prodF α β k n))) ∧ Hid (Below w.heap.size w w2)) (fun _ t _ => k - (intOf t).toNat)
          case atStart => exact ⟨0, by omega, rfl, rfl, HO.out, HW.out⟩
          case round =>
            clear HO HW
            obtain ⟨u, hu, rfl, rfl, HO, HW⟩ := hrel
            by_cases hlu : u < k
            · have hq := Q.out
              have l1 : i * k + u < m * k := by omega
              have l2 := lin_lt hlu hlj (Nat.le_refl (k * n))
              obtain ⟨aa, eA, cA⟩ := HA.out.below HW.out (i * k + u) l1
              obtain ⟨ba, eB, cB⟩ := HB.out.below HW.out (u * n + j) l2
              subst eA eB
              have c1 : (i : Int) * k = ((i * k : Nat) : Int) := (Int.natCast_mul _ _).symm
              have c2 : (u : Int) * n = ((u * n : Nat) : Int) := (Int.natCast_mul _ _).symm
              have e1 : IntKind.i64.wrap ((i : Int) * k) = (i : Int) * k := i64_nat _ (by omega) (by omega)
              have e2 : IntKind.i64.wrap ((i : Int) * k + u) = (i : Int) * k + u := i64_nat _ (by omega) (by omega)
              have e3 : IntKind.i64.wrap ((u : Int) * n) = (u : Int) * n := i64_nat _ (by omega) (by omega)
              have e4 : IntKind.i64.wrap ((u : Int) * n + j) = (u : Int) * n + j := i64_nat _ (by omega) (by omega)
              have g1 : (0 : Int) ≤ (i : Int) * k + u := by omega
              have g2 : (i : Int) * k + u < (m : Int) * k := by rw [← Int.natCast_mul m k]; omega
              have g3 : (0 : Int) ≤ (u : Int) * n + j := by omega
              have g4 : (u : Int) * n + j < (k : Int) * n := by rw [← Int.natCast_mul k n]; omega
              have t1 : ((i : Int) * k + u).toNat = i * k + u := by omega
              have t2 : ((u : Int) * n + j).toNat = u * n + j := by omega
              clear hq l1 l2 c1 c2
              go_wp2
              go_quiet (fail)
              clear e1 e2 e3 e4 g1 g2 g3 g4 t1 t2
              go_wp2
              go_roundw
              case rel =>
                refine ⟨u + 1, by omega, by go_num, ?_, HO.out, HW.out.os, HW.out.tape, HW.out.output, HW.out.size, HW.out.block⟩
                show _ = Value.int .u64 (U (sumTo (fun t => α (i * k + t) * β (t * n + j)) u + α (i * k + u) * β (u * n + j)))
                rw [step_word]
              case measure => simp [intOf]; omega
            · obtain rfl : k = u := by omega
              have hP : U (sumTo (fun t => α (i * k + t) * β (t * n + j)) k) = prodF α β k n (i * n + j) := by
                unfold prodF
                rw [show (i * n + j) / n = i by rw [Nat.mul_comm, Nat.mul_add_div (by omega), Nat.div_eq_of_lt hlj, Nat.add_zero], show (i * n + j) % n = j by rw [Nat.mul_comm, Nat.mul_add_mod, Nat.mod_eq_of_lt hlj]]
              rw [hP]
              clear hP
              generalize hp : prodF α β k n (i * n + j) = p
              have HP := Lib.hid hp
              clear hp
              rename_i w2 _ _
              have hown : (wr.alloc (.cells #[.int .u64 p] 22)).ownsRow w.heap.size 22 1 _ (i * n + j) (wordsOf (i * n + j) (prodF α β k n)) := HO.out.alloc _
              have hcell : AtO (wr.alloc (.cells #[.int .u64 p] 22)) (some ⟨wr.heap.size, 0, none⟩) 1 (fun _ => p) := fun q hq => ⟨_, rfl, by
                obtain rfl : q = 0 := by omega
                simp [Addr.add]⟩
              obtain ⟨v', w', hr, ho', hb'⟩ := append_own (wr.alloc (.cells #[.int .u64 p] 22)) w.heap.size _ (i * n + j) 1 (prodF α β k n) (fun _ => p) (some ⟨wr.heap.size, 0, none⟩) 1 hown hcell (fun h => by cases h) (by have := Q.out; omega) (by have := HW.out.size; simp; omega)
              have HR := Lib.hid hr
              have HO' := Lib.hid ho'
              have HB' := Lib.hid ((HW.out.alloc HW.out.size (.cells #[.int .u64 p] 22)).trans hb')
              clear hown hcell hr ho' hb' HO HW
              go_wp2_with (at_builtin; refine wpList_append_run rfl _ _ 28 rfl _ _ v' w' rfl rfl HR.out ?_)
              go_roundw
              case rel =>
                refine ⟨j + 1, by omega, by go_num, ?_, HB'.out⟩
                have := HO'.out
                rw [wordsOf_congr (g := prodF α β k n) (fun q hq => by
                  split
                  · rfl
                  · rw [← HP.out, show i * n + j = q by omega])] at this
                exact this
              case measure => simp [intOf]; omega
        · go_wp2
          go_roundw
          case rel => exact ⟨i + 1, by omega, by go_num, by rw [show (i + 1) * n = i * n + j by have := Q.out; omega]; exact HO.out, HW.out⟩
          case measure => simp [intOf]; omega
    · go_wp2
      go_ret
      exact ⟨_, rfl, by rw [show m = i by omega]; exact own_lst HO.out, HW.out⟩
end Go.Proofs.YtbfflmjhkeaimaaDoor
