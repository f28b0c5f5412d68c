/- The document's Copy, Deliver. -/
import Derived.Test.YtfilhlilagmhlaaDoorNR2
namespace Go.Proofs.YtfilhlilagmhlaaDoor
open Go.RowKit

/-- The worlds in which the boxed net and the answer's room lie. -/
theorem room_same (w : World) (a b : Value) : RN ((w.alloc (.cells #[a, b] 29)).alloc (.cells #[a, b] 29)) (w.heap.size + 1) a b := by
  have := RN.new (w.alloc (.cells #[a, b] 29)) a b
  simp only [World.size_alloc] at this
  exact this
/-- The answer laid in the room: the net itself. -/
theorem laid_same {w w1 : World} {v : Nat → Value} {T : Txt} {a b x0 x1 : Value} (c : Int) (h : Rf w v T) (hb : Below w.heap.size w w1) (hr : RN w1 (w.heap.size + 1) a b) (e0 : v 0 = x0) (e1 : v 1 = x1) :
    RRes w T c (.returned (.tuple #[rv x0 x1, .int .i64 c])) ((w1.setCell ⟨w.heap.size + 1, 0, none⟩ x0).setCell ⟨w.heap.size + 1, 1, none⟩ x1) := by
  refine ⟨v, by rw [← e0, ← e1], ((h.below hb).set29 (i := 0) hr x0).set29 (i := 1) (hr.set0 x0) x1, ?_⟩
  exact (hb.setCell (p := ⟨w.heap.size + 1, 0, none⟩) (Nat.le_succ _) _).setCell (p := ⟨w.heap.size + 1, 1, none⟩) (Nat.le_succ _) _
/-- The document's Deliver answers a text too. -/
def RRes3 (w : World) (T : Txt) (t : ByteArray) (c : Int) (e : Ending) (w' : World) : Prop := ∃ v, e = .returned (.tuple #[rvf v, .string t, .int .i64 c]) ∧ Rf w' v T ∧ Below w.heap.size w w'
set_option maxHeartbeats 1000000 in
set_option maxRecDepth 100000 in
theorem rcopy_bad {w : World} (v : Nat → Value) (T : Txt) (z i : Int) (c : Int) (hc : c ≠ 0) (h : Rf w v T) (hAt : ∀ w1, Below w.heap.size w w1 → Calls Tryd.prog 22 #[rvf v, .int .i64 z, .int .i64 i] w1 (RAt w1 ⟨#[]⟩ c)) :
    Calls Tryd.prog 21 #[rvf v, .int .i64 z, .int .i64 i] w (RRes w T c) := by
  obtain ⟨A0, c0, A1, c1, h0, h1⟩ := h.vals
  obtain ⟨hbx0, hbx1, hbx2, hbx3⟩ := boxed w (v 0) (v 1)
  have HI := Lib.hid (And.intro h (And.intro h0 h1))
  unfold rvf at hAt ⊢
  simp only [h0, h1] at hbx0 hbx1 hbx2 hbx3 hAt ⊢
  generalize (T 0).length = n0 at *
  generalize (T 1).length = n1 at *
  have k1 : (c != 0) = true := by simpa using hc
  have HB := Lib.hid (And.intro hbx0 (And.intro hbx1 (And.intro hbx2 (And.intro hbx3 hAt))))
  clear h h0 h1 hbx0 hbx1 hbx2 hbx3 hc hAt
  go_enter Tryd.func21, Tryd.ntmps21
  go_wp2_with fail
  generalize (w.alloc (.cells #[.slice A0 n0 c0, .slice A1 n1 c1] 29)).alloc (.cells #[nilS, nilS] 29) = w0 at *
  refine (HB.out.2.2.2.2 w0 HB.out.2.2.1).mono ?_
  rintro e w1 ⟨rfl, hb1⟩
  have hr0 := HB.out.1.below hb1 HB.out.1.lt
  have hr1 := HB.out.2.1.below hb1 HB.out.2.1.lt
  have a0 := hr0.cell0
  have a1 := hr0.cell1
  have r0 := hr1.cell0
  have r1 := hr1.cell1
  have z0 := hr1.frozen 0
  have z1 := hr1.frozen 1
  have hb := HB.out.2.2.1.trans (hb1.mono HB.out.2.2.1.size)
  have HE := Lib.hid (And.intro (laid_same c HI.out.1 hb hr1 HI.out.2.1 HI.out.2.2) (hr1.set (.slice A0 n0 c0) (.slice A1 n1 c1)))
  clear hb1 hr0 hr1 hb HB HI
  go_wp2
  have s0 := HE.out.2.cell0
  have s1 := HE.out.2.cell1
  refine bodyPost_ret (v := .tuple #[rv (.slice A0 n0 c0) (.slice A1 n1 c1), .int .i64 c]) (by simp [results, Tryd.results21, go_sem, s0, s1]) rfl ?_
  obtain ⟨v', e', hR, hB⟩ := HE.out.1
  exact ⟨v', e', hR, hB⟩
set_option maxHeartbeats 1000000 in
set_option maxRecDepth 100000 in
theorem rdeliver_bad {w : World} (v : Nat → Value) (T : Txt) (z i : Int) (c : Int) (hc : c ≠ 0) (h : Rf w v T) (hAt : ∀ w1, Below w.heap.size w w1 → Calls Tryd.prog 22 #[rvf v, .int .i64 z, .int .i64 i] w1 (RAt w1 ⟨#[]⟩ c)) :
    Calls Tryd.prog 20 #[rvf v, .int .i64 z, .int .i64 i] w (RRes3 w T ⟨#[]⟩ c) := by
  obtain ⟨A0, c0, A1, c1, h0, h1⟩ := h.vals
  obtain ⟨hbx0, hbx1, hbx2, hbx3⟩ := boxed w (v 0) (v 1)
  have HI := Lib.hid (And.intro h (And.intro h0 h1))
  unfold rvf at hAt ⊢
  simp only [h0, h1] at hbx0 hbx1 hbx2 hbx3 hAt ⊢
  generalize (T 0).length = n0 at *
  generalize (T 1).length = n1 at *
  have k1 : (c != 0) = true := by simpa using hc
  have HB := Lib.hid (And.intro hbx0 (And.intro hbx1 (And.intro hbx2 (And.intro hbx3 hAt))))
  clear h h0 h1 hbx0 hbx1 hbx2 hbx3 hc hAt
  go_enter Tryd.func20, Tryd.ntmps20
  go_wp2_with fail
  generalize (w.alloc (.cells #[.slice A0 n0 c0, .slice A1 n1 c1] 29)).alloc (.cells #[nilS, nilS] 29) = w0 at *
  refine (HB.out.2.2.2.2 w0 HB.out.2.2.1).mono ?_
  rintro e w1 ⟨rfl, hb1⟩
  have hr0 := HB.out.1.below hb1 HB.out.1.lt
  have hr1 := HB.out.2.1.below hb1 HB.out.2.1.lt
  have a0 := hr0.cell0
  have a1 := hr0.cell1
  have r0 := hr1.cell0
  have r1 := hr1.cell1
  have z0 := hr1.frozen 0
  have z1 := hr1.frozen 1
  have hb := HB.out.2.2.1.trans (hb1.mono HB.out.2.2.1.size)
  have HE := Lib.hid (And.intro (laid_same c HI.out.1 hb hr1 HI.out.2.1 HI.out.2.2) (hr1.set (.slice A0 n0 c0) (.slice A1 n1 c1)))
  clear hb1 hr0 hr1 hb HB HI
  go_wp2
  have s0 := HE.out.2.cell0
  have s1 := HE.out.2.cell1
  refine bodyPost_ret (v := .tuple #[rv (.slice A0 n0 c0) (.slice A1 n1 c1), .string ⟨#[]⟩, .int .i64 c]) (by simp [results, Tryd.results20, go_sem, s0, s1]) rfl ?_
  obtain ⟨v', e', hR, hB⟩ := HE.out.1
  refine ⟨v', ?_, hR, hB⟩
  injection e' with e'
  injection e' with e'
  have e2 := congrArg (fun a => a[0]?) e'
  have e3 : rv (.slice A0 n0 c0) (.slice A1 n1 c1) = rvf v' := by simpa using e2
  rw [e3]
set_option maxHeartbeats 1000000 in
set_option maxRecDepth 100000 in
theorem rflip_bad {w : World} (v : Nat → Value) (T : Txt) (z i b : Int) (c : Int) (hc : c ≠ 0) (h : Rf w v T) (hAt : ∀ w1, Below w.heap.size w w1 → Calls Tryd.prog 22 #[rvf v, .int .i64 z, .int .i64 i] w1 (RAt w1 ⟨#[]⟩ c)) :
    Calls Tryd.prog 18 #[rvf v, .int .i64 z, .int .i64 i, .int .i64 b] w (RRes w T c) := by
  obtain ⟨A0, c0, A1, c1, h0, h1⟩ := h.vals
  obtain ⟨hbx0, hbx1, hbx2, hbx3⟩ := boxed w (v 0) (v 1)
  have HI := Lib.hid (And.intro h (And.intro h0 h1))
  unfold rvf at hAt ⊢
  simp only [h0, h1] at hbx0 hbx1 hbx2 hbx3 hAt ⊢
  generalize (T 0).length = n0 at *
  generalize (T 1).length = n1 at *
  have k1 : (c != 0) = true := by simpa using hc
  have HB := Lib.hid (And.intro hbx0 (And.intro hbx1 (And.intro hbx2 (And.intro hbx3 hAt))))
  clear h h0 h1 hbx0 hbx1 hbx2 hbx3 hc hAt
  go_enter Tryd.func18, Tryd.ntmps18
  go_wp2_with fail
  generalize (w.alloc (.cells #[.slice A0 n0 c0, .slice A1 n1 c1] 29)).alloc (.cells #[nilS, nilS] 29) = w0 at *
  refine (HB.out.2.2.2.2 w0 HB.out.2.2.1).mono ?_
  rintro e w1 ⟨rfl, hb1⟩
  have hr0 := HB.out.1.below hb1 HB.out.1.lt
  have hr1 := HB.out.2.1.below hb1 HB.out.2.1.lt
  have a0 := hr0.cell0
  have a1 := hr0.cell1
  have r0 := hr1.cell0
  have r1 := hr1.cell1
  have z0 := hr1.frozen 0
  have z1 := hr1.frozen 1
  have hb := HB.out.2.2.1.trans (hb1.mono HB.out.2.2.1.size)
  have HE := Lib.hid (And.intro (laid_same c HI.out.1 hb hr1 HI.out.2.1 HI.out.2.2) (hr1.set (.slice A0 n0 c0) (.slice A1 n1 c1)))
  clear hb1 hr0 hr1 hb HB HI
  go_wp2
  have s0 := HE.out.2.cell0
  have s1 := HE.out.2.cell1
  refine bodyPost_ret (v := .tuple #[rv (.slice A0 n0 c0) (.slice A1 n1 c1), .int .i64 c]) (by simp [results, Tryd.results18, go_sem, s0, s1]) rfl ?_
  obtain ⟨v', e', hR, hB⟩ := HE.out.1
  exact ⟨v', e', hR, hB⟩
set_option maxHeartbeats 1000000 in
set_option maxRecDepth 100000 in
/-- Copy of a frame that there is: Send of its text. -/
theorem rcopy_send {w : World} (v : Nat → Value) (T T' : Txt) (z i c : Int) (t : ByteArray) (h : Rf w v T) (hAt : ∀ w1, Below w.heap.size w w1 → Calls Tryd.prog 22 #[rvf v, .int .i64 z, .int .i64 i] w1 (RAt w1 t 0))
    (hSend : ∀ w1, Below w.heap.size w w1 → Calls Tryd.prog 19 #[rvf v, .int .i64 z, .string t] w1 (RRes w1 T' c)) :
    Calls Tryd.prog 21 #[rvf v, .int .i64 z, .int .i64 i] w (RRes w T' c) := by
  obtain ⟨A0, c0, A1, c1, h0, h1⟩ := h.vals
  obtain ⟨hbx0, hbx1, hbx2, hbx3⟩ := boxed w (v 0) (v 1)
  unfold rvf at hAt hSend ⊢
  simp only [h0, h1] at hbx0 hbx1 hbx2 hbx3 hAt hSend ⊢
  generalize (T 0).length = n0 at *
  generalize (T 1).length = n1 at *
  have HB := Lib.hid (And.intro hbx0 (And.intro hbx1 (And.intro hbx2 (And.intro hbx3 (And.intro hAt hSend)))))
  clear h h0 h1 hbx0 hbx1 hbx2 hbx3 hAt hSend
  go_enter Tryd.func21, Tryd.ntmps21
  go_wp2_with fail
  generalize (w.alloc (.cells #[.slice A0 n0 c0, .slice A1 n1 c1] 29)).alloc (.cells #[nilS, nilS] 29) = w0 at *
  refine (HB.out.2.2.2.2.1 w0 HB.out.2.2.1).mono ?_
  rintro e w1 ⟨rfl, hb1⟩
  have hr0 := HB.out.1.below hb1 HB.out.1.lt
  have a0 := hr0.cell0
  have a1 := hr0.cell1
  have H1 := Lib.hid (And.intro (HB.out.2.1.below hb1 HB.out.2.1.lt) (HB.out.2.2.1.trans (hb1.mono HB.out.2.2.1.size)))
  clear hr0 hb1
  go_wp2_with fail
  clear a0 a1
  refine (HB.out.2.2.2.2.2 w1 H1.out.2).mono ?_
  rintro e w2 ⟨v2, rfl, hR2, hb2⟩
  obtain ⟨B0, d0, B1, d1, e0, e1⟩ := hR2.vals
  unfold rvf
  rw [e0, e1]
  generalize (T' 0).length = m0 at *
  generalize (T' 1).length = m1 at *
  have hr1 := H1.out.1.below hb2 H1.out.1.lt
  have r0 := hr1.cell0
  have r1 := hr1.cell1
  have z0 := hr1.frozen 0
  have z1 := hr1.frozen 1
  have hb := H1.out.2.trans (hb2.mono H1.out.2.size)
  have HE := Lib.hid (And.intro (show RRes w T' c (.returned (.tuple #[rv (.slice B0 m0 d0) (.slice B1 m1 d1), .int .i64 c])) ((w2.setCell ⟨w.heap.size + 1, 0, none⟩ (.slice B0 m0 d0)).setCell ⟨w.heap.size + 1, 1, none⟩ (.slice B1 m1 d1)) from
    ⟨v2, by rw [← e0, ← e1], (hR2.set29 (i := 0) hr1 _).set29 (i := 1) (hr1.set0 _) _, (hb.setCell (p := ⟨w.heap.size + 1, 0, none⟩) (Nat.le_succ _) _).setCell (p := ⟨w.heap.size + 1, 1, none⟩) (Nat.le_succ _) _⟩) (hr1.set (.slice B0 m0 d0) (.slice B1 m1 d1)))
  clear hR2 hb2 e0 e1 hr1 hb H1 HB
  go_wp2
  have s0 := HE.out.2.cell0
  have s1 := HE.out.2.cell1
  exact bodyPost_ret (v := .tuple #[rv (.slice B0 m0 d0) (.slice B1 m1 d1), .int .i64 c]) (by simp [results, Tryd.results21, go_sem, s0, s1]) rfl HE.out.1
end Go.Proofs.YtfilhlilagmhlaaDoor
