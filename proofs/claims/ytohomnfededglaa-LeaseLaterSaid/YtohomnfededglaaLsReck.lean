/-
  Layer lease: the walk of LeaseReckons.
-/
import Derived.Test.YtohomnfededglaaLsAwake
import Derived.Test.YtohomnfededglaaLsRefL
import Derived.Test.YtohomnfededglaaLsKnown
import Derived.Test.YtohomnfededglaaRegLay
import Derived.BigQuiet
namespace Go.Proofs.Ytohomnfededglaa
open Go.RowKit Go.Gz

def Lz.list (l : Lz) : List Value := [.int .i64 l.e, .int .i64 l.s, .int .i64 l.f]
def zero3 : List Value := [.int .i64 0, .int .i64 0, .int .i64 0]
theorem BoxZ.of {W : World} {b : Nat} {l : Lz} {t : TypeId} {fz : Nat × Nat} (h : W.heap[b]? = some (.cells l.list.toArray t fz)) : BoxZ W b l :=
  ⟨(Array.getElem?_eq_some_iff.1 h).1, by simp [World.cell?, h, Lz.list], by simp [World.cell?, h, Lz.list], by simp [World.cell?, h, Lz.list]⟩
theorem free3 {W : World} {b : Nat} {cs : Array Value} {t : TypeId} (h : W.heap[b]? = some (.cells cs t (0, 0))) (i : Nat) : W.frozen? ⟨b, i, none⟩ = false := by
  simp [World.frozen?, h]

set_option maxHeartbeats 8000000 in
set_option maxRecDepth 100000 in
theorem reck_walk (a b : Lz) (n k : Int) (w : World) : Calls Try.prog 3 #[a.val, b.val, .agg #[.int .i64 n, .int .i64 k]] w fun e w' => e = .returned (.bool true) ∧ Below w.heap.size w w' := by
  have mx : Try.prog.follows .mixedOrders = true := by kernel_rfl
  obtain ⟨w0, hw0⟩ : ∃ w0, ((w.alloc (.cells #[.int .i64 a.e, .int .i64 a.s, .int .i64 a.f] 23)).alloc (.cells #[.int .i64 b.e, .int .i64 b.s, .int .i64 b.f] 23)).alloc (.cells #[.int .i64 n, .int .i64 k] 24) = w0 := ⟨_, rfl⟩
  have HB0 := Lib.hid (show Below w.heap.size w w0 from hw0 ▸ (((Below.refl _ _).alloc (Nat.le_refl _) _).alloc (by simp) _).alloc (by simp; omega) _)
  have HNA := Lib.hid (show BoxZ w0 w.heap.size a from hw0 ▸ ((BoxZ.new w a _).below (below_new _ _)).below (below_new _ _))
  have HNB := Lib.hid (show BoxZ w0 (w.heap.size + 1) b by
    have := (BoxZ.new (w.alloc (.cells #[.int .i64 a.e, .int .i64 a.s, .int .i64 a.f] 23)) b 23).below (below_new _ (.cells #[.int .i64 n, .int .i64 k] 24))
    rw [hw0] at this
    simpa using this)
  have HNK := Lib.hid (show w.heap.size + 1 + 1 < w0.heap.size ∧ w0.cell? ⟨w.heap.size + 1 + 1, 0, none⟩ = some (.int .i64 n) ∧ w0.cell? ⟨w.heap.size + 1 + 1, 1, none⟩ = some (.int .i64 k) by
    rw [← hw0]
    exact ⟨by simp, by simp [go_sem], by simp [go_sem]⟩)
  have CA := Lib.hid (fun w => awake_yes w)
  have CMa := Lib.hid (fun w => made_any a w)
  have CMb := Lib.hid (fun w => made_any b w)
  unfold Lz.val at *
  go_enter Try.func3, Try.ntmps3
  go_wp2_with fail
  refine (CA.out _).mono ?_
  rintro e1 w1 ⟨rfl, hb1⟩
  have H1 := Lib.hid hb1
  clear hb1 hw0
  go_wp2_with fail
  refine wp_region_layE mx (by kernel_rfl) [some (.agg #[.int .i64 a.e, .int .i64 a.s, .int .i64 a.f]), some (.agg #[.int .i64 a.e, .int .i64 a.s, .int .i64 a.f]), some (.agg #[.int .i64 b.e, .int .i64 b.s, .int .i64 b.f]), some (.agg #[.int .i64 b.e, .int .i64 b.s, .int .i64 b.f]), none, none, none, none]
    [⟨4, 6, 1, 26, zero3, fun _ => a.list⟩, ⟨5, 7, 3, 26, zero3, fun _ => b.list⟩] (by kernel_rfl) (by kernel_rfl) ?_ ?_ ?_ ?_
  · intro i o L vals w' hi hL hdep hC hJ hV hno
    have hlt : i < 8 := by have := (List.getElem?_eq_some_iff.1 hi).1; simpa using this
    simp only [List.mem_cons, List.not_mem_nil, or_false, forall_eq_or_imp, forall_eq] at hno
    generalize hA : frA _ _ L vals = a'
    have hT3 : a'.tmps.getD 3 undef = .pointer (some ⟨w.heap.size, 0, none⟩) := by rw [← hA, frA_base (by kernel_rfl)]; rfl
    have hT4 : a'.tmps.getD 4 undef = .pointer (some ⟨w.heap.size + 1, 0, none⟩) := by rw [← hA, frA_base (by kernel_rfl)]; rfl
    have hD := Lib.hid (fun k t (hk : L k = true) (ht : dstOf _ k = some t) => hA ▸ frA_done (by kernel_rfl) (vals := vals) hk ht)
    clear hA
    obtain ⟨_, x0, x1, x2⟩ := HNA.out.below (H1.out.trans (hJ.mono H1.out.size))
    obtain ⟨_, y0, y1, y2⟩ := HNB.out.below (H1.out.trans (hJ.mono H1.out.size))
    obtain rfl | rfl | rfl | rfl : i = 0 ∨ i = 1 ∨ i = 2 ∨ i = 3 := by omega
    all_goals
      injection hi with hi
      subst hi
      try simp [Region.binds] at hdep
    · exact step_run rfl (v := .agg #[.int .i64 a.e, .int .i64 a.s, .int .i64 a.f]) (w' := w') (by go_simp) ⟨EqV.self rfl, Below.refl _ _⟩
    · have d12 := hD.out 0 12 (by simp [hdep]) rfl
      rw [show vals 0 = _ from (hV 0 (by simp [hdep])).of rfl] at d12
      refine step_enter rfl (w' := w') (by go_simp) ((CMa.out _).mono ?_)
      rintro e x ⟨rfl, hb⟩
      exact ⟨_, rfl, EqV.self rfl, hb⟩
    · exact step_run rfl (v := .agg #[.int .i64 b.e, .int .i64 b.s, .int .i64 b.f]) (w' := w') (by go_simp) ⟨EqV.self rfl, Below.refl _ _⟩
    · have d14 := hD.out 2 14 (by simp [hdep]) rfl
      rw [show vals 2 = _ from (hV 2 (by simp [hdep])).of rfl] at d14
      refine step_enter rfl (w' := w') (by go_simp) ((CMb.out _).mono ?_)
      rintro e x ⟨rfl, hb⟩
      exact ⟨_, rfl, EqV.self rfl, hb⟩
  · intro y hy o L vals w' hi
    simp only [List.mem_cons, List.not_mem_nil, or_false] at hy
    rcases hy with rfl | rfl
    all_goals
      injection hi with hi
      subst hi
      exact step_run rfl (v := Lay.ptr w'.heap.size) (w' := w'.alloc (.cells zero3.toArray 26)) (by unfold Lay.ptr zero3; go_simp) ⟨rfl, rfl⟩
  · intro y hy o L vals w' q hi hLa hLr hJ hV hp hh
    simp only [List.mem_cons, List.not_mem_nil, or_false] at hy
    generalize hA : frA _ _ L vals = a'
    have hD := Lib.hid (fun k t (hk : L k = true) (ht : dstOf _ k = some t) => hA ▸ frA_done (by kernel_rfl) (vals := vals) hk ht)
    clear hA
    rcases hy with rfl | rfl
    · injection hi with hi
      subst hi
      simp only at hLa hLr hp hh
      have d7 := hD.out 4 7 hLa rfl
      have d13 := hD.out 1 13 hLr rfl
      rw [show vals 1 = _ from (hV 1 hLr).of rfl] at d13
      rw [hp] at d7
      unfold Lay.ptr at d7
      have hf := free3 hh
      have f0 := hf 0
      have f1 := hf 1
      have f2 := hf 2
      have z0 : w'.cell? ⟨q, 0, none⟩ = some (.int .i64 0) := by simp [World.cell?, hh, zero3]
      have z1 : w'.cell? ⟨q, 1, none⟩ = some (.int .i64 0) := by simp [World.cell?, hh, zero3]
      have z2 : w'.cell? ⟨q, 2, none⟩ = some (.int .i64 0) := by simp [World.cell?, hh, zero3]
      clear hf hh
      exact stepI_skip rfl (w' := layCells w' q 0 a.list) (by unfold Lz.list layCells layCells layCells layCells; go_simp) ⟨rfl, rfl⟩
    · injection hi with hi
      subst hi
      simp only at hLa hLr hp hh
      have d8 := hD.out 5 8 hLa rfl
      have d15 := hD.out 3 15 hLr rfl
      rw [show vals 3 = _ from (hV 3 hLr).of rfl] at d15
      rw [hp] at d8
      unfold Lay.ptr at d8
      have hf := free3 hh
      have f0 := hf 0
      have f1 := hf 1
      have f2 := hf 2
      have z0 : w'.cell? ⟨q, 0, none⟩ = some (.int .i64 0) := by simp [World.cell?, hh, zero3]
      have z1 : w'.cell? ⟨q, 1, none⟩ = some (.int .i64 0) := by simp [World.cell?, hh, zero3]
      have z2 : w'.cell? ⟨q, 2, none⟩ = some (.int .i64 0) := by simp [World.cell?, hh, zero3]
      clear hf hh
      exact stepI_skip rfl (w' := layCells w' q 0 b.list) (by unfold Lz.list layCells layCells layCells layCells; go_simp) ⟨rfl, rfl⟩
  · intro vals w2 hJ hV hB hN
    have e0 : vals 0 = .agg #[.int .i64 a.e, .int .i64 a.s, .int .i64 a.f] := (hV 0 (by decide)).of rfl
    have e1 : vals 1 = .agg #[.int .i64 a.e, .int .i64 a.s, .int .i64 a.f] := (hV 1 (by decide)).of rfl
    have e2 : vals 2 = .agg #[.int .i64 b.e, .int .i64 b.s, .int .i64 b.f] := (hV 2 (by decide)).of rfl
    have e3 : vals 3 = .agg #[.int .i64 b.e, .int .i64 b.s, .int .i64 b.f] := (hV 3 (by decide)).of rfl
    obtain ⟨p7, e4, hp7, h7⟩ := hB _ (List.mem_cons_self ..)
    obtain ⟨p8, e5, hp8, h8⟩ := hB _ (List.mem_cons_of_mem _ (List.mem_cons_self ..))
    simp only [Lay.ptr] at e4 e5
    simp only [putsL, Act.put, List.setIfInBounds_toArray, List.set_cons_zero, List.set_cons_succ, e0, e1, e2, e3, e4, e5]
    clear e0 e1 e2 e3 e4 e5 hN hV hB
    have H2 := Lib.hid (H1.out.trans (hJ.mono H1.out.size))
    have HX := Lib.hid (BoxZ.of h7)
    have HY := Lib.hid (BoxZ.of h8)
    clear hJ h7 h8 hp7 hp8
    have CL := Lib.hid (fun w => later_any a b w)
    have CLr := Lib.hid (fun w => refLater_any a b w)
    have CML := Lib.hid (fun w => made_any (laterZ a b) w)
    obtain ⟨l, hl⟩ : ∃ l, laterZ a b = l := ⟨_, rfl⟩
    simp only [hl] at CL CLr CML
    clear hl
    unfold Lz.val at CL CLr CML
    obtain ⟨_, x0, x1, x2⟩ := HX.out
    obtain ⟨_, y0, y1, y2⟩ := HY.out
    go_wp2_with fail
    refine (CL.out _).mono ?_
    rintro e3 w3 ⟨rfl, hb3⟩
    have H3 := Lib.hid hb3
    clear hb3 x0 x1 x2 y0 y1 y2 CL
    obtain ⟨w4, hw4⟩ : ∃ w4, w3.alloc (.cells #[.int .i64 l.e, .int .i64 l.s, .int .i64 l.f] 26) = w4 := ⟨_, rfl⟩
    have H4 := Lib.hid (show Below w2.heap.size w2 w4 from H3.out.trans ((hw4 ▸ below_new w3 _).mono H3.out.size))
    have HL := Lib.hid (show BoxZ w4 w3.heap.size l from hw4 ▸ BoxZ.new w3 l _)
    have H04 := Lib.hid (H2.out.trans (H4.out.mono H2.out.size))
    have Qm := Lib.hid (fun pw : BelowOf w4 => Calls.below_of pw (may_any a pw.w'))
    have Qrm := Lib.hid (fun pw : BelowOf w4 => Calls.below_of pw (refMay_any a pw.w'))
    have Qh := Lib.hid (fun pw : BelowOf w4 => Calls.below_of pw (holds_any a n pw.w'))
    have Qrh := Lib.hid (fun pw : BelowOf w4 => Calls.below_of pw (refHolds_any a n pw.w'))
    have Ql := Lib.hid (fun pw : BelowOf w4 => Calls.below_of pw (left_any a n pw.w'))
    have Qrl := Lib.hid (fun pw : BelowOf w4 => Calls.below_of pw (refLeft_any a n pw.w'))
    have Qs := Lib.hid (fun pw : BelowOf w4 => Calls.below_of pw (safe_any a n k pw.w'))
    have Qrs := Lib.hid (fun pw : BelowOf w4 => Calls.below_of pw (refSafe_any a n k pw.w'))
    have QL := Lib.hid (fun pw : BelowOf w4 => Calls.below_of pw (CLr.out pw.w'))
    have QM := Lib.hid (fun pw : BelowOf w4 => Calls.below_of pw (CML.out pw.w'))
    have heq := fun w => eql_lease l l w
    simp only [decide_true] at heq
    obtain ⟨v1, hv1⟩ : ∃ v, mayZ a = v := ⟨_, rfl⟩
    obtain ⟨v2, hv2⟩ : ∃ v, holdsZ a n = v := ⟨_, rfl⟩
    obtain ⟨v3, hv3⟩ : ∃ v, leftZ a n = v := ⟨_, rfl⟩
    obtain ⟨v4, hv4⟩ : ∃ v, safeZ a n k = v := ⟨_, rfl⟩
    rw [hv1] at Qm Qrm
    rw [hv2] at Qh Qrh
    rw [hv3] at Ql Qrl
    rw [hv4] at Qs Qrs
    clear hv1 hv2 hv3 hv4
    unfold Lz.val at *
    obtain ⟨k1, x0, x1, x2⟩ := HNA.out.below H04.out
    obtain ⟨k2, y0, y1, y2⟩ := HNB.out.below H04.out
    obtain ⟨k3, z0, z1, z2⟩ := HX.out.below H4.out
    obtain ⟨k4, l0, l1, l2⟩ := HL.out
    have n0 := (H04.out.cell (p := ⟨w.heap.size + 1 + 1, 0, none⟩) HNK.out.1).trans HNK.out.2.1
    have n1 := (H04.out.cell (p := ⟨w.heap.size + 1 + 1, 1, none⟩) HNK.out.1).trans HNK.out.2.2
    have k5 : w.heap.size + 1 + 1 < w4.heap.size := Nat.lt_of_lt_of_le HNK.out.1 H04.out.size
    have fa0 := fun pw : BelowOf w4 => pw.cell (a := ⟨w.heap.size, 0, none⟩) k1 x0
    have fa1 := fun pw : BelowOf w4 => pw.cell (a := ⟨w.heap.size, 1, none⟩) k1 x1
    have fa2 := fun pw : BelowOf w4 => pw.cell (a := ⟨w.heap.size, 2, none⟩) k1 x2
    have fb0 := fun pw : BelowOf w4 => pw.cell (a := ⟨w.heap.size + 1, 0, none⟩) k2 y0
    have fb1 := fun pw : BelowOf w4 => pw.cell (a := ⟨w.heap.size + 1, 1, none⟩) k2 y1
    have fb2 := fun pw : BelowOf w4 => pw.cell (a := ⟨w.heap.size + 1, 2, none⟩) k2 y2
    have fx0 := fun pw : BelowOf w4 => pw.cell (a := ⟨p7, 0, none⟩) k3 z0
    have fx1 := fun pw : BelowOf w4 => pw.cell (a := ⟨p7, 1, none⟩) k3 z1
    have fx2 := fun pw : BelowOf w4 => pw.cell (a := ⟨p7, 2, none⟩) k3 z2
    have fl0 := fun pw : BelowOf w4 => pw.cell (a := ⟨w3.heap.size, 0, none⟩) k4 l0
    have fl1 := fun pw : BelowOf w4 => pw.cell (a := ⟨w3.heap.size, 1, none⟩) k4 l1
    have fl2 := fun pw : BelowOf w4 => pw.cell (a := ⟨w3.heap.size, 2, none⟩) k4 l2
    have fn0 := fun pw : BelowOf w4 => pw.cell (a := ⟨w.heap.size + 1 + 1, 0, none⟩) k5 n0
    have fn1 := fun pw : BelowOf w4 => pw.cell (a := ⟨w.heap.size + 1 + 1, 1, none⟩) k5 n1
    clear x0 x1 x2 y0 y1 y2 z0 z1 z2 l0 l1 l2 n0 n1
    go_wp2_with fail
    try simp only [List.append]
    refine wp_region_quiet_below (by assumption) (by kernel_rfl) ?_
    repeat (go_big_quiet_step (first | (go_at_call 11; with_reducible exact Qm.out _) | (go_at_call 12; with_reducible exact Qrm.out _) | (go_at_call 13; with_reducible exact Qh.out _) | (go_at_call 14; with_reducible exact Qrh.out _) | (go_at_call 15; with_reducible exact Ql.out _) | (go_at_call 16; with_reducible exact Qrl.out _) | (go_at_call 17; with_reducible exact Qs.out _) | (go_at_call 18; with_reducible exact Qrs.out _) | (go_at_call 19; with_reducible exact QL.out _) | (go_at_call 9; first | (with_reducible exact QM.out _))))
    refine wpQuiet_nil ?_
    intro wq hw'
    obtain ⟨⟨wz, hbq⟩, hw''⟩ := hw'
    obtain rfl : wq = wz := hw''
    have HQ := Lib.hid (HB0.out.trans ((H04.out.trans (hbq.mono H04.out.size)).mono HB0.out.size))
    clear hbq
    go_wp2_with fail
    go_ret
    exact ⟨rfl, HQ.out⟩
end Go.Proofs.Ytohomnfededglaa
