/- WireBehind's walk. -/
import Derived.Test.YtoeohodajoibjaaDoorWE2
import Derived.Test.YtoeohodajoibjaaDoorWE3
import Derived.Test.YtoeohodajoibjaaDoorWE5
import Derived.Test.YtoeohodajoibjaaDoorWT3
import Derived.Test.YtoeohodajoibjaaDoorWX1
namespace Go.Proofs.YtoeohodajoibjaaDoor
open Go.RowKit

/-- What Encode answers, whatever the round, of at most 1000 words. -/
def EncAny (w : World) (z : Int) (n : Nat) (ws : Nat → Nat) (e : Ending) (w' : World) : Prop :=
  ((z < 0 ∨ 4294967295 < z) ∧ ∃ T u, e = .returned (.tuple #[.slice none 0 0, .iface T u]) ∧ Below w.heap.size w w') ∨
  ∃ r : Nat, z = (r : Int) ∧ r ≤ 4294967295 ∧ Enc w r n ws e w'
theorem encode_any (z : Int) (A : Option Addr) (n c : Nat) (ws : Nat → Nat) (w : World) (hg : Handle w) (hA : AtO w A n (fun i => (ws i : Int))) (hn : n ≤ 65536) :
    Calls Tryd.prog 16 #[msg z (.slice A n c)] w (EncAny w z n ws) := by
  by_cases hz : z < 0 ∨ 4294967295 < z
  · refine (encode_round z _ ⟨A, n, c, rfl⟩ w hg hz).mono ?_
    rintro e w' ⟨ps, rfl, hb⟩
    obtain ⟨T, u, hT⟩ := chain_iface ps 1
    exact .inl ⟨hz, T, u, by rw [hT], hb⟩
  · obtain ⟨r, rfl⟩ := Int.eq_ofNat_of_zero_le (show 0 ≤ z by omega)
    refine (encode_ok r A n c ws w hA (by omega) hn).mono ?_
    intro e w' h
    exact .inr ⟨r, rfl, by omega, h⟩
/-- append(x, more...), x a list of the call's own that isn't empty. -/
theorem append_more (w : World) (base g n k m d : Nat) (B : Option Addr) (f h : Nat → Nat) (ho : OR w base (sl8 g n k) n f) (hB : AtBO w B m h) (h0 : B = none → m = 0 ∧ d = 0) (hn0 : 0 < n) (hn : n + m ≤ 150000000000000) (hbase : base ≤ w.heap.size) :
    ∃ g' k' w', (Builtin.append_ #[22, 22] 22 #[sl8 g n k, .slice B m d]).run Tryd.prog w = .ok (sl8 g' (n + m) k') w' ∧ OR w' base (sl8 g' (n + m) k') (n + m) (thenB n f h) ∧ Below base w w' := by
  obtain ⟨i0, hi, hz0, hz1, hz2⟩ := infoB
  rcases B with _ | ad
  · obtain ⟨rfl, rfl⟩ := h0 rfl
    exact ⟨g, k, w, run_append_owned_none w base 22 22 5 i0 1 Tryd.underlying22 hi _ n _ ho, OR.congr ho (fun i hi => by unfold thenB; rw [if_pos (show i < n from hi)]), Below.refl _ _⟩
  · obtain ⟨v', w', hr, ho', hb⟩ := append_ownB w base _ n m f h ad d ho (fun i hi => by
      obtain ⟨ad', e, hc⟩ := hB i hi
      cases e
      exact hc) hn hbase
    obtain ⟨g', k', rfl, _⟩ := ho'.read (by omega)
    exact ⟨g', k', w', hr, ho', hb⟩
/-- The two messages in memory. -/
def Two (w : World) (z1 z2 : Int) (v1 v2 : Value) (w' : World) : Prop := Below w.heap.size w w' ∧ Msg w' w.heap.size z1 v1 ∧ Msg w' (w.heap.size + 1) z2 v2
theorem Two.start (w : World) (z1 z2 : Int) (v1 v2 : Value) : Two w z1 z2 v1 v2 ((w.alloc (.cells #[.int .i64 z1, v1] 36)).alloc (.cells #[.int .i64 z2, v2] 36)) := by
  refine ⟨((Below.refl _ _).alloc (Nat.le_refl _) _).alloc (by simp) _, (Msg.new w z1 v1).alloc _, ?_⟩
  have := Msg.new (w.alloc (.cells #[.int .i64 z1, v1] 36)) z2 v2
  simp only [World.size_alloc] at this
  exact this
theorem Two.next {w w1 w2 : World} {z1 z2 : Int} {v1 v2 : Value} (h : Two w z1 z2 v1 v2 w1) (hb : Below w1.heap.size w1 w2) : Two w z1 z2 v1 v2 w2 := ⟨h.1.trans (hb.mono h.1.size), h.2.1.below hb h.2.1.lt, h.2.2.below hb h.2.2.lt⟩
/-- The bytes of two messages are the same just if the messages are. -/
theorem enc_same (r1 n1 r2 n2 : Nat) (f g : Nat → Nat) (hr1 : r1 ≤ 4294967295) (hr2 : r2 ≤ 4294967295) (hn1 : n1 ≤ 65536) (hn2 : n2 ≤ 65536) (hf : ∀ i, f i < 18446744073709551616) (hg : ∀ i, g i < 18446744073709551616) :
    strB (Wire.encLen r1 n1) (Wire.encB r1 n1 f) = strB (Wire.encLen r2 n2) (Wire.encB r2 n2 g) ↔ (r1 = r2 ∧ Same n1 n2 (fun i => (f i : Int)) (fun i => (g i : Int))) := by
  constructor
  · intro h
    obtain ⟨hl, hb⟩ := strB_inj (Wire.encB_lt r1 n1 f) (Wire.encB_lt r2 n2 g) h
    obtain ⟨h1, h2, h3⟩ := Wire.enc_inj r1 n1 r2 n2 f g hr1 hr2 hn1 hn2 (fun i _ => hf i) (fun i _ => hg i) hl hb
    exact ⟨h1, h2, fun i hi => by show (f i : Int) = (g i : Int); rw [h3 i hi]⟩
  · rintro ⟨rfl, rfl, h⟩
    refine strB_congr fun i hi => ?_
    unfold Wire.encB
    split
    · rfl
    · split
      · rfl
      · unfold Wire.wby
        have hl : Wire.encLen r1 n1 = Wire.nlen r1 + Wire.nlen n1 + 8 * n1 := rfl
        have := h ((i - (Wire.nlen r1 + Wire.nlen n1)) / 8) (by omega)
        have e : f ((i - (Wire.nlen r1 + Wire.nlen n1)) / 8) = g ((i - (Wire.nlen r1 + Wire.nlen n1)) / 8) := by
          have : (f ((i - (Wire.nlen r1 + Wire.nlen n1)) / 8) : Int) = (g ((i - (Wire.nlen r1 + Wire.nlen n1)) / 8) : Int) := this
          omega
        rw [e]
/-- Behind a message's bytes: they are read just if nothing more stands there. -/
theorem enc_behind (r n k : Nat) (ws h : Nat → Nat) (hr : r ≤ 4294967295) (hn : n ≤ 65536) : Wire.fits (thenB (Wire.encLen r n) (Wire.encB r n ws) h) (Wire.encLen r n + k) ↔ k = 0 := by
  obtain ⟨h1, h2, h3⟩ := Wire.enc_reads r n ws (thenB (Wire.encLen r n) (Wire.encB r n ws) h) (Wire.encLen r n + k) hr hn (by omega) (fun i hi => by unfold thenB; rw [if_pos hi])
  unfold Wire.fits
  rw [h1, h2, h3]
  have := Wire.nlen_pos r
  have := Wire.nlen_pos n
  have hl : Wire.encLen r n = Wire.nlen r + Wire.nlen n + 8 * n := rfl
  simp only
  omega
set_option maxHeartbeats 4000000 in
set_option maxRecDepth 100000 in
theorem behind_walk (z1 z2 : Int) (A1 A2 B : Option Addr) (n1 c1 n2 c2 k d : Nat) (f g h : Nat → Nat) (w : World) (hg : Handle w)
    (hA1 : AtO w A1 n1 (fun i => (f i : Int))) (hA2 : AtO w A2 n2 (fun i => (g i : Int))) (hB : AtBO w B k h) (h0 : B = none → k = 0 ∧ d = 0) (hk : k ≤ 140737488355328) (hf : ∀ i, f i < 18446744073709551616) (hgg : ∀ i, g i < 18446744073709551616) (hh : ∀ i, h i < 256) :
    Calls Tryd.prog 9 #[msg z1 (.slice A1 n1 c1), msg z2 (.slice A2 n2 c2), .slice B k d] w fun e w' => e = .returned (.bool true) ∧ Below w.heap.size w w' := by
  have HA := Lib.hid (And.intro hA1 (And.intro hA2 (And.intro hB (And.intro h0 (And.intro hk (And.intro hf (And.intro hgg hh)))))))
  have HG := Lib.hid hg
  have HT := Lib.hid (Two.start w z1 z2 (.slice A1 n1 c1) (.slice A2 n2 c2))
  clear hA1 hA2 hB h0 hk hf hgg hh hg
  go_enter Tryd.func9, Tryd.ntmps9
  go_wp2_with fail
  generalize ((w.alloc (.cells #[.int .i64 z1, .slice A1 n1 c1] 36)).alloc (.cells #[.int .i64 z2, .slice A2 n2 c2] 36)) = w0 at HT ⊢
  refine (awake_any w0).mono ?_
  rintro e w1 ⟨rfl, hb1⟩
  have hT1 := HT.out.next hb1
  have a0 := hT1.2.1.cell0
  have a1 := hT1.2.1.cell1
  have b0 := hT1.2.2.cell0
  have b1 := hT1.2.2.cell1
  have H1 := Lib.hid hT1
  clear hb1 hT1 HT
  by_cases hn1 : 1000 < n1
  · have k1 : decide ((1000 : Int) < (n1 : Int)) = true := decide_eq_true (by omega)
    have k1' : decide (1000 < n1) = true := decide_eq_true hn1
    clear hn1
    go_wp2_with fail
    refine (awake_any w1).mono ?_
    rintro e w2 ⟨rfl, hb2⟩
    have H2 := Lib.hid (H1.out.next hb2)
    clear hb2
    go_wp2
    go_ret
    exact ⟨rfl, H2.out.1⟩
  · have k1 : decide ((1000 : Int) < (n1 : Int)) = false := decide_eq_false (by omega)
    have k1' : decide (1000 < n1) = false := decide_eq_false hn1
    have HN1 := Lib.hid (show True ∧ n1 ≤ 1000 from ⟨trivial, by omega⟩)
    clear hn1
    by_cases hn2 : 1000 < n2
    · have k2 : decide ((1000 : Int) < (n2 : Int)) = true := decide_eq_true (by omega)
      have k2' : decide (1000 < n2) = true := decide_eq_true hn2
      clear hn2
      go_wp2_with fail
      refine (awake_any w1).mono ?_
      rintro e w2 ⟨rfl, hb2⟩
      have H2 := Lib.hid (H1.out.next hb2)
      clear hb2
      go_wp2
      go_ret
      exact ⟨rfl, H2.out.1⟩
    · have k2 : decide ((1000 : Int) < (n2 : Int)) = false := decide_eq_false (by omega)
      have k2' : decide (1000 < n2) = false := decide_eq_false hn2
      have HN2 := Lib.hid (show True ∧ n2 ≤ 1000 from ⟨trivial, by omega⟩)
      clear hn2
      go_wp2_with fail
      refine (encode_any z1 A1 n1 c1 f w1 (HG.out.below H1.out.1 HG.out.pos) (HA.out.1.below H1.out.1) (by have := HN1.out.2; omega)).mono ?_
      clear a0 a1 b0 b1 k1 k1' k2 k2'
      rintro e w2 hE1
      rcases hE1 with ⟨_, T1, u1, rfl, hb2⟩ | ⟨r1, rfl, hr1, ga, ka, rfl, hoa, hb2⟩
      · have hT2 := H1.out.next hb2
        have b0 := hT2.2.2.cell0
        have b1 := hT2.2.2.cell1
        have H2 := Lib.hid hT2
        clear hT2 hb2
        go_wp2_with fail
        refine (encode_any z2 A2 n2 c2 g w2 (HG.out.below H2.out.1 HG.out.pos) (HA.out.2.1.below H2.out.1) (by have := HN2.out.2; omega)).mono ?_
        clear b0 b1
        rintro e w3 hE2
        rcases hE2 with ⟨_, T2, u2, rfl, hb3⟩ | ⟨r2, rfl, hr2, gb, kb, rfl, hob, hb3⟩
        · have H3 := Lib.hid (H2.out.next hb3)
          clear hb3
          go_wp2
          go_ret
          exact ⟨rfl, H3.out.1⟩
        · have H3 := Lib.hid (H2.out.next hb3)
          clear hb3 hob hr2
          go_wp2
          go_ret
          exact ⟨rfl, H3.out.1⟩
      · have hT2 := H1.out.next hb2
        have b0 := hT2.2.2.cell0
        have b1 := hT2.2.2.cell1
        have H2 := Lib.hid (And.intro hT2 (And.intro hoa.lt.2.2.2.2 (And.intro hoa.lt.2.1 hr1)))
        clear hT2 hb2 hoa hr1
        go_wp2_with fail
        refine (encode_any z2 A2 n2 c2 g w2 (HG.out.below H2.out.1.1 HG.out.pos) (HA.out.2.1.below H2.out.1.1) (by have := HN2.out.2; omega)).mono ?_
        clear b0 b1
        rintro e w3 hE2
        rcases hE2 with ⟨_, T2, u2, rfl, hb3⟩ | ⟨r2, rfl, hr2, gb, kb, rfl, hob, hb3⟩
        · have H3 := Lib.hid (H2.out.1.next hb3)
          clear hb3
          go_wp2
          go_ret
          exact ⟨rfl, H3.out.1⟩
        · have hT3 := H2.out.1.next hb3
          have a0 := hT3.2.1.cell0
          have a1 := hT3.2.1.cell1
          have b0 := hT3.2.2.cell0
          have b1 := hT3.2.2.cell1
          have H3 := Lib.hid (And.intro hT3 (And.intro (AtB.below H2.out.2.1 hb3) (And.intro hob.lt.2.2.2.2 (And.intro H2.out.2.2.2 hr2))))
          clear hT3 hb3 hob hr2 H2
          by_cases hrr : r1 = r2
          · have e1 : ((r1 : Int) == (r2 : Int)) = true := by rw [hrr]; simp
            have HRR := Lib.hid hrr
            clear hrr
            go_wp2_with fail
            refine (words_any A1 A2 n1 n2 c1 c2 _ _ w3 (by have := HN1.out.2; unfold maxLen; omega) (HA.out.1.below H3.out.1.1) (HA.out.2.1.below H3.out.1.1)).mono ?_
            rintro e w4 ⟨b, rfl, hbS, hb4⟩
            have Hb := Lib.hid (show b = true ↔ (r1 = r2 ∧ Same n1 n2 (fun i => (f i : Int)) (fun i => (g i : Int))) from ⟨fun hx => ⟨HRR.out, hbS.1 hx⟩, fun hx => hbS.2 hx.2⟩)
            have H4 := Lib.hid (And.intro (H3.out.1.next hb4) (And.intro (AtB.below H3.out.2.1 hb4) (And.intro (AtB.below H3.out.2.2.1 hb4) (And.intro H3.out.2.2.2.1 H3.out.2.2.2.2))))
            clear hbS hb4 H3 a0 a1 b0 b1 e1
            obtain ⟨la, hla⟩ : ∃ z, z = Wire.encLen r1 n1 := ⟨_, rfl⟩
            obtain ⟨lb, hlb⟩ : ∃ z, z = Wire.encLen r2 n2 := ⟨_, rfl⟩
            have hla2 : 0 < la ∧ la ≤ 9000 := by
              have h1 := Wire.nlen_most r1 H4.out.2.2.2.1
              have h2 := Wire.nlen_most n1 (by have := HN1.out.2; omega)
              have h3 := Wire.nlen_pos r1
              have h4 := HN1.out.2
              rw [hla]; unfold Wire.encLen; omega
            have hAa := H4.out.2.1
            have hAb := H4.out.2.2.1
            rw [← hla] at hAa ⊢
            rw [← hlb] at hAb ⊢
            obtain ⟨gc, kc, w5, hr5, ho5, hb5⟩ := copyB w4 (some ⟨ga, 0, none⟩) la ka _ hAa.opt (fun h => by cases h) (by omega)
            have hT5 := H4.out.1.next hb5
            obtain ⟨gd, kd, w6, hr6, ho6, hb6⟩ := append_more w5 w4.heap.size gc la kc k d B _ h ho5 (HA.out.2.2.1.below hT5.1) HA.out.2.2.2.1 hla2.1 (by have := HA.out.2.2.2.2.1; omega) hb5.size
            have HQ5 := Lib.hid hr5
            have HQ6 := Lib.hid hr6
            have hb46 : Below w4.heap.size w4 w6 := hb5.trans hb6
            have H6 := Lib.hid (And.intro (H4.out.1.next hb46) (And.intro (AtB.below hAa hb46) (And.intro (AtB.below hAb hb46) (And.intro ho6 (And.intro hla (And.intro hlb hla2))))))
            have HR := Lib.hid (And.intro H4.out.2.2.2.1 H4.out.2.2.2.2)
            clear hr5 hr6 ho5 hb5 ho6 hb6 hb46 hT5 hAa hAb hla hlb hla2 H4
            go_wp2_with (at_builtin; first
              | (refine wpList_append_run rfl _ _ 22 rfl (sl8 w4.heap.size 0 0) (sl8 ga la ka) (sl8 gc la kc) w5 rfl rfl HQ5.out ?_)
              | (refine wpList_append_run rfl _ _ 22 rfl (sl8 gc la kc) (.slice B k d) (sl8 gd (la + k) kd) w6 rfl rfl HQ6.out ?_))
            clear HQ5 HQ6
            have HFT := Lib.hid (enc_behind r1 n1 k f h HR.out.1 (by have := HN1.out.2; omega))
            rw [← H6.out.2.2.2.2.1] at HFT
            refine (decode_any _ (la + k) kd _ w6 (HG.out.below H6.out.1.1 HG.out.pos) H6.out.2.2.2.1.lt.2.2.2.2.opt H6.out.2.2.2.1.lt.2.2.1 (by have := H6.out.2.2.2.2.2.2; have := HA.out.2.2.2.2.1; unfold maxLen; omega) (fun i => by unfold thenB; split <;> first | exact Wire.encB_lt _ _ _ _ | exact HA.out.2.2.2.2.2.2.2 _)).mono ?_
            rintro e w7 hD
            have HSE := Lib.hid (enc_same r1 n1 r2 n2 f g HR.out.1 HR.out.2 (by have := HN1.out.2; omega) (by have := HN2.out.2; omega) HA.out.2.2.2.2.2.1 HA.out.2.2.2.2.2.2.1)
            rw [← H6.out.2.2.2.2.1, ← H6.out.2.2.2.2.2.1] at HSE
            by_cases hk0 : k = 0
            · have kz : ((k : Int) == 0) = true := by rw [hk0]; rfl
              obtain ⟨gw, rfl, _, _, hb7⟩ := hD.1 (HFT.out.2 hk0)
              clear hk0 hD
              generalize (Wire.hd (thenB la (Wire.encB r1 n1 f) h) (la + k)).1 = r7
              generalize (Wire.cn (thenB la (Wire.encB r1 n1 f) h) (la + k)).1 = q7
              have hb8 : Below w7.heap.size w7 (w7.alloc (.cells #[.int .i64 (r7 : Int), .slice (some ⟨gw, 0, none⟩) q7 q7] 36)) := (Below.refl _ _).alloc (Nat.le_refl _) _
              have hb68 := hb7.trans (hb8.mono hb7.size)
              have hca := conv_B _ ⟨ga, 0, none⟩ la ka _ (AtB.below H6.out.2.1 hb68) (Wire.encB_lt r1 n1 f)
              have hcb := conv_B _ ⟨gb, 0, none⟩ lb kb _ (AtB.below H6.out.2.2.1 hb68) (Wire.encB_lt r2 n2 g)
              have H8 := Lib.hid (H6.out.1.next hb68)
              generalize strB la (Wire.encB r1 n1 f) = s1 at hca HSE
              generalize strB lb (Wire.encB r2 n2 g) = s2 at hcb HSE
              have hsb : (s1.toList == s2.toList) = b := by
                cases b with
                | true => rw [HSE.out.2 (Hb.out.1 rfl)]; simp
                | false => exact str_ne fun hx => by have := Hb.out.2 (HSE.out.1 hx); cases this
              clear hb7 hb8 hb68 HSE Hb H6
              go_wp2
              go_ret
              exact ⟨by cases b <;> rfl, H8.out.1⟩
            · have kz : ((k : Int) == 0) = false := beq_false_of_ne (by omega)
              obtain ⟨p7, a7, rfl, hb7⟩ := hD.2 (fun hx => hk0 (HFT.out.1 hx))
              obtain ⟨T7, u7, hT7⟩ := chain_iface [(p7, a7)] 50
              rw [hT7]
              clear hk0 hD hT7
              have hb8 : Below w7.heap.size w7 (w7.alloc (.cells #[.int .i64 0, .slice none 0 0] 36)) := (Below.refl _ _).alloc (Nat.le_refl _) _
              have hb68 := hb7.trans (hb8.mono hb7.size)
              have hca := conv_B _ ⟨ga, 0, none⟩ la ka _ (AtB.below H6.out.2.1 hb68) (Wire.encB_lt r1 n1 f)
              have hcb := conv_B _ ⟨gb, 0, none⟩ lb kb _ (AtB.below H6.out.2.2.1 hb68) (Wire.encB_lt r2 n2 g)
              have H8 := Lib.hid (H6.out.1.next hb68)
              generalize strB la (Wire.encB r1 n1 f) = s1 at hca HSE
              generalize strB lb (Wire.encB r2 n2 g) = s2 at hcb HSE
              have hsb : (s1.toList == s2.toList) = b := by
                cases b with
                | true => rw [HSE.out.2 (Hb.out.1 rfl)]; simp
                | false => exact str_ne fun hx => by have := Hb.out.2 (HSE.out.1 hx); cases this
              clear hb7 hb8 hb68 HSE Hb H6
              go_wp2
              go_ret
              exact ⟨by cases b <;> rfl, H8.out.1⟩
          · have e1 : ((r1 : Int) == (r2 : Int)) = false := beq_false_of_ne (by omega)
            obtain ⟨b, hb⟩ : ∃ b, b = false := ⟨_, rfl⟩
            have Hb := Lib.hid (show b = true ↔ (r1 = r2 ∧ Same n1 n2 (fun i => (f i : Int)) (fun i => (g i : Int))) from ⟨fun hx => (by rw [hb] at hx; cases hx), fun hx => absurd hx.1 hrr⟩)
            have H4 := H3
            clear hrr H3
            obtain ⟨w4, hw4⟩ : ∃ z, z = w3 := ⟨_, rfl⟩
            subst hw4
            subst hb
            obtain ⟨b, hb⟩ : ∃ b, b = false := ⟨_, rfl⟩
            rw [← hb] at Hb
            have Hbf := Lib.hid hb
            clear hb
            obtain ⟨la, hla⟩ : ∃ z, z = Wire.encLen r1 n1 := ⟨_, rfl⟩
            obtain ⟨lb, hlb⟩ : ∃ z, z = Wire.encLen r2 n2 := ⟨_, rfl⟩
            have hla2 : 0 < la ∧ la ≤ 9000 := by
              have h1 := Wire.nlen_most r1 H4.out.2.2.2.1
              have h2 := Wire.nlen_most n1 (by have := HN1.out.2; omega)
              have h3 := Wire.nlen_pos r1
              have h4 := HN1.out.2
              rw [hla]; unfold Wire.encLen; omega
            have hAa := H4.out.2.1
            have hAb := H4.out.2.2.1
            rw [← hla] at hAa ⊢
            rw [← hlb] at hAb ⊢
            obtain ⟨gc, kc, w5, hr5, ho5, hb5⟩ := copyB w4 (some ⟨ga, 0, none⟩) la ka _ hAa.opt (fun h => by cases h) (by omega)
            have hT5 := H4.out.1.next hb5
            obtain ⟨gd, kd, w6, hr6, ho6, hb6⟩ := append_more w5 w4.heap.size gc la kc k d B _ h ho5 (HA.out.2.2.1.below hT5.1) HA.out.2.2.2.1 hla2.1 (by have := HA.out.2.2.2.2.1; omega) hb5.size
            have HQ5 := Lib.hid hr5
            have HQ6 := Lib.hid hr6
            have hb46 : Below w4.heap.size w4 w6 := hb5.trans hb6
            have H6 := Lib.hid (And.intro (H4.out.1.next hb46) (And.intro (AtB.below hAa hb46) (And.intro (AtB.below hAb hb46) (And.intro ho6 (And.intro hla (And.intro hlb hla2))))))
            have HR := Lib.hid (And.intro H4.out.2.2.2.1 H4.out.2.2.2.2)
            clear hr5 hr6 ho5 hb5 ho6 hb6 hb46 hT5 hAa hAb hla hlb hla2 H4
            go_wp2_with (at_builtin; first
              | (refine wpList_append_run rfl _ _ 22 rfl (sl8 w4.heap.size 0 0) (sl8 ga la ka) (sl8 gc la kc) w5 rfl rfl HQ5.out ?_)
              | (refine wpList_append_run rfl _ _ 22 rfl (sl8 gc la kc) (.slice B k d) (sl8 gd (la + k) kd) w6 rfl rfl HQ6.out ?_))
            clear HQ5 HQ6
            have HFT := Lib.hid (enc_behind r1 n1 k f h HR.out.1 (by have := HN1.out.2; omega))
            rw [← H6.out.2.2.2.2.1] at HFT
            refine (decode_any _ (la + k) kd _ w6 (HG.out.below H6.out.1.1 HG.out.pos) H6.out.2.2.2.1.lt.2.2.2.2.opt H6.out.2.2.2.1.lt.2.2.1 (by have := H6.out.2.2.2.2.2.2; have := HA.out.2.2.2.2.1; unfold maxLen; omega) (fun i => by unfold thenB; split <;> first | exact Wire.encB_lt _ _ _ _ | exact HA.out.2.2.2.2.2.2.2 _)).mono ?_
            rintro e w7 hD
            have HSE := Lib.hid (enc_same r1 n1 r2 n2 f g HR.out.1 HR.out.2 (by have := HN1.out.2; omega) (by have := HN2.out.2; omega) HA.out.2.2.2.2.2.1 HA.out.2.2.2.2.2.2.1)
            rw [← H6.out.2.2.2.2.1, ← H6.out.2.2.2.2.2.1] at HSE
            by_cases hk0 : k = 0
            · have kz : ((k : Int) == 0) = true := by rw [hk0]; rfl
              obtain ⟨gw, rfl, _, _, hb7⟩ := hD.1 (HFT.out.2 hk0)
              clear hk0 hD
              generalize (Wire.hd (thenB la (Wire.encB r1 n1 f) h) (la + k)).1 = r7
              generalize (Wire.cn (thenB la (Wire.encB r1 n1 f) h) (la + k)).1 = q7
              have hb8 : Below w7.heap.size w7 (w7.alloc (.cells #[.int .i64 (r7 : Int), .slice (some ⟨gw, 0, none⟩) q7 q7] 36)) := (Below.refl _ _).alloc (Nat.le_refl _) _
              have hb68 := hb7.trans (hb8.mono hb7.size)
              have hca := conv_B _ ⟨ga, 0, none⟩ la ka _ (AtB.below H6.out.2.1 hb68) (Wire.encB_lt r1 n1 f)
              have hcb := conv_B _ ⟨gb, 0, none⟩ lb kb _ (AtB.below H6.out.2.2.1 hb68) (Wire.encB_lt r2 n2 g)
              have H8 := Lib.hid (H6.out.1.next hb68)
              generalize strB la (Wire.encB r1 n1 f) = s1 at hca HSE
              generalize strB lb (Wire.encB r2 n2 g) = s2 at hcb HSE
              have hsb : (s1.toList == s2.toList) = b := by
                cases b with
                | true => rw [HSE.out.2 (Hb.out.1 rfl)]; simp
                | false => exact str_ne fun hx => by have := Hb.out.2 (HSE.out.1 hx); cases this
              rw [Hbf.out] at hsb
              clear hb7 hb8 hb68 HSE Hb H6
              go_wp2
              go_ret
              exact ⟨rfl, H8.out.1⟩
            · have kz : ((k : Int) == 0) = false := beq_false_of_ne (by omega)
              obtain ⟨p7, a7, rfl, hb7⟩ := hD.2 (fun hx => hk0 (HFT.out.1 hx))
              obtain ⟨T7, u7, hT7⟩ := chain_iface [(p7, a7)] 50
              rw [hT7]
              clear hk0 hD hT7
              have hb8 : Below w7.heap.size w7 (w7.alloc (.cells #[.int .i64 0, .slice none 0 0] 36)) := (Below.refl _ _).alloc (Nat.le_refl _) _
              have hb68 := hb7.trans (hb8.mono hb7.size)
              have hca := conv_B _ ⟨ga, 0, none⟩ la ka _ (AtB.below H6.out.2.1 hb68) (Wire.encB_lt r1 n1 f)
              have hcb := conv_B _ ⟨gb, 0, none⟩ lb kb _ (AtB.below H6.out.2.2.1 hb68) (Wire.encB_lt r2 n2 g)
              have H8 := Lib.hid (H6.out.1.next hb68)
              generalize strB la (Wire.encB r1 n1 f) = s1 at hca HSE
              generalize strB lb (Wire.encB r2 n2 g) = s2 at hcb HSE
              have hsb : (s1.toList == s2.toList) = b := by
                cases b with
                | true => rw [HSE.out.2 (Hb.out.1 rfl)]; simp
                | false => exact str_ne fun hx => by have := Hb.out.2 (HSE.out.1 hx); cases this
              rw [Hbf.out] at hsb
              clear hb7 hb8 hb68 HSE Hb H6
              go_wp2
              go_ret
              exact ⟨rfl, H8.out.1⟩
end Go.Proofs.YtoeohodajoibjaaDoor
