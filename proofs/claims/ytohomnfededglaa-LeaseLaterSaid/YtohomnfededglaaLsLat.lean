/-
  Layer lease: the walk of LeaseLater.
-/
import Derived.Test.YtohomnfededglaaLsReck
namespace Go.Proofs.Ytohomnfededglaa
open Go.RowKit Go.Gz

theorem endOf_any (l : Lz) (h : IntKind.i64.wrap (l.s + l.f) = l.s + l.f) (w : World) : Calls Try.prog 22 #[l.val] w fun e w' => e = .returned (.int .i64 (l.s + l.f)) ∧ Below w.heap.size w w' := by
  obtain ⟨x, y, z⟩ := l
  simp only at h
  unfold Lz.val
  go_enter Try.func22, Try.ntmps22
  go_wp2_with fail
  go_ret
  exact ⟨rfl, below_new _ _⟩
theorem later_wrap (a b : Lz) : IntKind.i64.wrap ((laterZ a b).s + (laterZ a b).f) = (laterZ a b).s + (laterZ a b).f := by
  rcases laterZ_may a b with h | h
  · obtain ⟨h1, h2, h3, h4, h5⟩ := (mayZ_iff _).1 h
    exact IntWalk.i64_in _ (by omega)
  · rw [h]; rfl

set_option maxHeartbeats 16000000 in
set_option maxRecDepth 100000 in
theorem lat_walk (a b c : Lz) (w : World) : Calls Try.prog 7 #[a.val, b.val, c.val] w fun e w' => e = .returned (.bool true) ∧ Below w.heap.size w w' := by
  have mx : Try.prog.follows .mixedOrders = true := by kernel_rfl
  obtain ⟨w0, hw0⟩ : ∃ w0, ((w.alloc (.cells #[.int .i64 a.e, .int .i64 a.s, .int .i64 a.f] 23)).alloc (.cells #[.int .i64 b.e, .int .i64 b.s, .int .i64 b.f] 23)).alloc (.cells #[.int .i64 c.e, .int .i64 c.s, .int .i64 c.f] 23) = w0 := ⟨_, rfl⟩
  have HB0 := Lib.hid (show Below w.heap.size w w0 from hw0 ▸ (((Below.refl _ _).alloc (Nat.le_refl _) _).alloc (by simp) _).alloc (by simp; omega) _)
  have HNA := Lib.hid (show BoxZ w0 w.heap.size a from hw0 ▸ ⟨by first | (simp; done) | (simp; omega), by simp [go_sem], by simp [go_sem], by simp [go_sem]⟩)
  have HNB := Lib.hid (show BoxZ w0 (w.heap.size + 1) b from hw0 ▸ ⟨by first | (simp; done) | (simp; omega), by simp [go_sem], by simp [go_sem], by simp [go_sem]⟩)
  have HNC := Lib.hid (show BoxZ w0 (w.heap.size + 1 + 1) c from hw0 ▸ ⟨by first | (simp; done) | (simp; omega), by simp [go_sem], by simp [go_sem], by simp [go_sem]⟩)
  have CA := Lib.hid (fun w => awake_yes w)
  have CMa := Lib.hid (fun w => made_any a w)
  have CMb := Lib.hid (fun w => made_any b w)
  have CMc := Lib.hid (fun w => made_any c w)
  have Cab := Lib.hid (fun w => later_any a b w)
  have Cba := Lib.hid (fun w => later_any b a w)
  have Cbc := Lib.hid (fun w => later_any b c w)
  have Cpc := Lib.hid (fun w => later_any (laterZ a b) c w)
  have Car := Lib.hid (fun w => later_any a (laterZ b c) w)
  have Caa := Lib.hid (fun w => later_any a a w)
  have Ca0 := Lib.hid (fun w => later_any a noneZ w)
  have E1 := Lib.hid (fun w => endOf_any (laterZ a b) (later_wrap _ _) w)
  have E2 := Lib.hid (fun w => endOf_any (laterZ b a) (later_wrap _ _) w)
  have E3 := Lib.hid (fun w => endOf_any (laterZ (laterZ a b) c) (later_wrap _ _) w)
  have E4 := Lib.hid (fun w => endOf_any (laterZ a (laterZ b c)) (later_wrap _ _) w)
  have HS := Lib.hid (later_swap a b)
  have HT := Lib.hid (later_three a b c)
  rw [later_self a] at Caa
  obtain ⟨p, hp⟩ : ∃ p, laterZ a b = p := ⟨_, rfl⟩
  obtain ⟨q, hq⟩ : ∃ q, laterZ b a = q := ⟨_, rfl⟩
  obtain ⟨r, hr⟩ : ∃ r, laterZ b c = r := ⟨_, rfl⟩
  obtain ⟨s, hs⟩ : ∃ s, laterZ a noneZ = s := ⟨_, rfl⟩
  simp only [hp, hq, hr, hs] at Cab Cba Cbc Cpc Car Caa Ca0 E1 E2 E3 E4 HS HT
  obtain ⟨u, hu⟩ : ∃ u, laterZ p c = u := ⟨_, rfl⟩
  obtain ⟨v, hv⟩ : ∃ v, laterZ a r = v := ⟨_, rfl⟩
  simp only [hu, hv] at Cpc Car E3 E4 HT
  clear hp hq hr hs hu hv
  unfold noneZ at Ca0
  unfold Lz.val at *
  go_enter Try.func7, Try.ntmps7
  go_wp2_with fail
  refine (CA.out _).mono ?_
  rintro e1 w1 ⟨rfl, hb1⟩
  have H1 := Lib.hid hb1
  clear hb1 hw0
  go_wp2_with fail
  refine wp_region_layE mx (by kernel_rfl) [some (.agg #[.int .i64 a.e, .int .i64 a.s, .int .i64 a.f]), some (.agg #[.int .i64 a.e, .int .i64 a.s, .int .i64 a.f]), some (.agg #[.int .i64 b.e, .int .i64 b.s, .int .i64 b.f]), some (.agg #[.int .i64 b.e, .int .i64 b.s, .int .i64 b.f]), some (.agg #[.int .i64 c.e, .int .i64 c.s, .int .i64 c.f]), some (.agg #[.int .i64 c.e, .int .i64 c.s, .int .i64 c.f]), none, none, none, none, none, none]
    [⟨6, 9, 1, 26, zero3, fun _ => a.list⟩, ⟨7, 10, 3, 26, zero3, fun _ => b.list⟩, ⟨8, 11, 5, 26, zero3, fun _ => c.list⟩] (by kernel_rfl) (by kernel_rfl) ?_ ?_ ?_ ?_
  · intro i o L vals w' hi hL hdep hC hJ hV hno
    have hlt : i < 12 := by have := (List.getElem?_eq_some_iff.1 hi).1; simpa using this
    simp only [List.mem_cons, List.not_mem_nil, or_false, forall_eq_or_imp, forall_eq] at hno
    generalize hA : frA _ _ L vals = a'
    have hT3 : a'.tmps.getD 3 undef = .pointer (some ⟨w.heap.size, 0, none⟩) := by rw [← hA, frA_base (by kernel_rfl)]; rfl
    have hT4 : a'.tmps.getD 4 undef = .pointer (some ⟨w.heap.size + 1, 0, none⟩) := by rw [← hA, frA_base (by kernel_rfl)]; rfl
    have hT5 : a'.tmps.getD 5 undef = .pointer (some ⟨w.heap.size + 1 + 1, 0, none⟩) := by rw [← hA, frA_base (by kernel_rfl)]; rfl
    have hD := Lib.hid (fun k t (hk : L k = true) (ht : dstOf _ k = some t) => hA ▸ frA_done (by kernel_rfl) (vals := vals) hk ht)
    clear hA
    obtain ⟨_, x30, x31, x32⟩ := HNA.out.below (H1.out.trans (hJ.mono H1.out.size))
    obtain ⟨_, x40, x41, x42⟩ := HNB.out.below (H1.out.trans (hJ.mono H1.out.size))
    obtain ⟨_, x50, x51, x52⟩ := HNC.out.below (H1.out.trans (hJ.mono H1.out.size))
    obtain rfl | rfl | rfl | rfl | rfl | rfl : i = 0 ∨ i = 1 ∨ i = 2 ∨ i = 3 ∨ i = 4 ∨ i = 5 := by omega
    all_goals
      injection hi with hi
      subst hi
      try simp [Region.binds] at hdep
    · exact step_run rfl (v := .agg #[.int .i64 a.e, .int .i64 a.s, .int .i64 a.f]) (w' := w') (by go_simp) ⟨EqV.self rfl, Below.refl _ _⟩
    · have d17 := hD.out 0 17 (by simp [hdep]) rfl
      rw [show vals 0 = _ from (hV 0 (by simp [hdep])).of rfl] at d17
      refine step_enter rfl (w' := w') (by go_simp) ((CMa.out _).mono ?_)
      rintro e x ⟨rfl, hb⟩
      exact ⟨_, rfl, EqV.self rfl, hb⟩
    · exact step_run rfl (v := .agg #[.int .i64 b.e, .int .i64 b.s, .int .i64 b.f]) (w' := w') (by go_simp) ⟨EqV.self rfl, Below.refl _ _⟩
    · have d19 := hD.out 2 19 (by simp [hdep]) rfl
      rw [show vals 2 = _ from (hV 2 (by simp [hdep])).of rfl] at d19
      refine step_enter rfl (w' := w') (by go_simp) ((CMb.out _).mono ?_)
      rintro e x ⟨rfl, hb⟩
      exact ⟨_, rfl, EqV.self rfl, hb⟩
    · exact step_run rfl (v := .agg #[.int .i64 c.e, .int .i64 c.s, .int .i64 c.f]) (w' := w') (by go_simp) ⟨EqV.self rfl, Below.refl _ _⟩
    · have d21 := hD.out 4 21 (by simp [hdep]) rfl
      rw [show vals 4 = _ from (hV 4 (by simp [hdep])).of rfl] at d21
      refine step_enter rfl (w' := w') (by go_simp) ((CMc.out _).mono ?_)
      rintro e x ⟨rfl, hb⟩
      exact ⟨_, rfl, EqV.self rfl, hb⟩
  · intro y hy o L vals w' hi
    simp only [List.mem_cons, List.not_mem_nil, or_false] at hy
    rcases hy with rfl | rfl | rfl
    all_goals
      injection hi with hi
      subst hi
      exact step_run rfl (v := Lay.ptr w'.heap.size) (w' := w'.alloc (.cells zero3.toArray 26)) (by unfold Lay.ptr zero3; go_simp) ⟨rfl, rfl⟩
  · intro y hy o L vals w' qb hi hLa hLr hJ hV hp hh
    simp only [List.mem_cons, List.not_mem_nil, or_false] at hy
    generalize hA : frA _ _ L vals = a'
    have hD := Lib.hid (fun k t (hk : L k = true) (ht : dstOf _ k = some t) => hA ▸ frA_done (by kernel_rfl) (vals := vals) hk ht)
    clear hA
    rcases hy with rfl | rfl | rfl
    · injection hi with hi
      subst hi
      simp only at hLa hLr hp hh
      have d7 := hD.out 6 7 hLa rfl
      have d18 := hD.out 1 18 hLr rfl
      rw [show vals 1 = _ from (hV 1 hLr).of rfl] at d18
      rw [hp] at d7
      unfold Lay.ptr at d7
      have hf := free3 hh
      have f0 := hf 0
      have f1 := hf 1
      have f2 := hf 2
      have z0 : w'.cell? ⟨qb, 0, none⟩ = some (.int .i64 0) := by simp [World.cell?, hh, zero3]
      have z1 : w'.cell? ⟨qb, 1, none⟩ = some (.int .i64 0) := by simp [World.cell?, hh, zero3]
      have z2 : w'.cell? ⟨qb, 2, none⟩ = some (.int .i64 0) := by simp [World.cell?, hh, zero3]
      clear hf hh
      exact stepI_skip rfl (w' := layCells w' qb 0 a.list) (by unfold Lz.list layCells layCells layCells layCells; go_simp) ⟨rfl, rfl⟩
    · injection hi with hi
      subst hi
      simp only at hLa hLr hp hh
      have d8 := hD.out 7 8 hLa rfl
      have d20 := hD.out 3 20 hLr rfl
      rw [show vals 3 = _ from (hV 3 hLr).of rfl] at d20
      rw [hp] at d8
      unfold Lay.ptr at d8
      have hf := free3 hh
      have f0 := hf 0
      have f1 := hf 1
      have f2 := hf 2
      have z0 : w'.cell? ⟨qb, 0, none⟩ = some (.int .i64 0) := by simp [World.cell?, hh, zero3]
      have z1 : w'.cell? ⟨qb, 1, none⟩ = some (.int .i64 0) := by simp [World.cell?, hh, zero3]
      have z2 : w'.cell? ⟨qb, 2, none⟩ = some (.int .i64 0) := by simp [World.cell?, hh, zero3]
      clear hf hh
      exact stepI_skip rfl (w' := layCells w' qb 0 b.list) (by unfold Lz.list layCells layCells layCells layCells; go_simp) ⟨rfl, rfl⟩
    · injection hi with hi
      subst hi
      simp only at hLa hLr hp hh
      have d9 := hD.out 8 9 hLa rfl
      have d22 := hD.out 5 22 hLr rfl
      rw [show vals 5 = _ from (hV 5 hLr).of rfl] at d22
      rw [hp] at d9
      unfold Lay.ptr at d9
      have hf := free3 hh
      have f0 := hf 0
      have f1 := hf 1
      have f2 := hf 2
      have z0 : w'.cell? ⟨qb, 0, none⟩ = some (.int .i64 0) := by simp [World.cell?, hh, zero3]
      have z1 : w'.cell? ⟨qb, 1, none⟩ = some (.int .i64 0) := by simp [World.cell?, hh, zero3]
      have z2 : w'.cell? ⟨qb, 2, none⟩ = some (.int .i64 0) := by simp [World.cell?, hh, zero3]
      clear hf hh
      exact stepI_skip rfl (w' := layCells w' qb 0 c.list) (by unfold Lz.list layCells layCells layCells layCells; go_simp) ⟨rfl, rfl⟩
  · intro vals w2 hJ hV hB hN
    have e0 : vals 0 = .agg #[.int .i64 a.e, .int .i64 a.s, .int .i64 a.f] := (hV 0 (by decide)).of rfl
    have e1 : vals 1 = .agg #[.int .i64 a.e, .int .i64 a.s, .int .i64 a.f] := (hV 1 (by decide)).of rfl
    have e2 : vals 2 = .agg #[.int .i64 b.e, .int .i64 b.s, .int .i64 b.f] := (hV 2 (by decide)).of rfl
    have e3 : vals 3 = .agg #[.int .i64 b.e, .int .i64 b.s, .int .i64 b.f] := (hV 3 (by decide)).of rfl
    have e4 : vals 4 = .agg #[.int .i64 c.e, .int .i64 c.s, .int .i64 c.f] := (hV 4 (by decide)).of rfl
    have e5 : vals 5 = .agg #[.int .i64 c.e, .int .i64 c.s, .int .i64 c.f] := (hV 5 (by decide)).of rfl
    obtain ⟨X, e6, hX, gX⟩ := hB _ (List.mem_cons_self ..)
    obtain ⟨Y, e7, hY, gY⟩ := hB _ (List.mem_cons_of_mem _ (List.mem_cons_self ..))
    obtain ⟨Z, e8, hZ, gZ⟩ := hB _ (List.mem_cons_of_mem _ (List.mem_cons_of_mem _ (List.mem_cons_self ..)))
    simp only [Lay.ptr] at e6 e7 e8
    simp only [putsL, Act.put, List.setIfInBounds_toArray, List.set_cons_zero, List.set_cons_succ, e0, e1, e2, e3, e4, e5, e6, e7, e8]
    clear e0 e1 e2 e3 e4 e5 e6 e7 e8 hN hV hB
    have HX := Lib.hid (BoxZ.of gX)
    have HY := Lib.hid (BoxZ.of gY)
    have HZ := Lib.hid (BoxZ.of gZ)
    have Kw2 := Lib.hid hJ
    have Hw2 := Lib.hid ((H1.out.trans (hJ.mono H1.out.size)))
    clear hJ gX hX gY hY gZ hZ
    clear CMa CMb CMc
    go_wp2_with fail
    refine wp_region_layE mx (by kernel_rfl) [some (.agg #[.int .i64 a.e, .int .i64 a.s, .int .i64 a.f]), some (.agg #[.int .i64 b.e, .int .i64 b.s, .int .i64 b.f]), some (.agg #[.int .i64 p.e, .int .i64 p.s, .int .i64 p.f]), some (.agg #[.int .i64 b.e, .int .i64 b.s, .int .i64 b.f]), some (.agg #[.int .i64 a.e, .int .i64 a.s, .int .i64 a.f]), some (.agg #[.int .i64 q.e, .int .i64 q.s, .int .i64 q.f]), none, none, none, none]
      [⟨6, 8, 2, 26, zero3, fun _ => p.list⟩, ⟨7, 9, 5, 26, zero3, fun _ => q.list⟩] (by kernel_rfl) (by kernel_rfl) ?_ ?_ ?_ ?_
    · intro i o L vals w' hi hL hdep hC hJ hV hno
      have hlt : i < 10 := by have := (List.getElem?_eq_some_iff.1 hi).1; simpa using this
      simp only [List.mem_cons, List.not_mem_nil, or_false, forall_eq_or_imp, forall_eq] at hno
      generalize hA : frA _ _ L vals = a'
      have hT7 : a'.tmps.getD 7 undef = .pointer (some ⟨X, 0, none⟩) := by rw [← hA, frA_base (by kernel_rfl)]; rfl
      have hT8 : a'.tmps.getD 8 undef = .pointer (some ⟨Y, 0, none⟩) := by rw [← hA, frA_base (by kernel_rfl)]; rfl
      have hD := Lib.hid (fun k t (hk : L k = true) (ht : dstOf _ k = some t) => hA ▸ frA_done (by kernel_rfl) (vals := vals) hk ht)
      clear hA
      obtain ⟨_, x70, x71, x72⟩ := HX.out.below hJ
      obtain ⟨_, x80, x81, x82⟩ := HY.out.below hJ
      obtain rfl | rfl | rfl | rfl | rfl | rfl : i = 0 ∨ i = 1 ∨ i = 2 ∨ i = 3 ∨ i = 4 ∨ i = 5 := by omega
      all_goals
        injection hi with hi
        subst hi
        try simp [Region.binds] at hdep
      · exact step_run rfl (v := .agg #[.int .i64 a.e, .int .i64 a.s, .int .i64 a.f]) (w' := w') (by go_simp) ⟨EqV.self rfl, Below.refl _ _⟩
      · exact step_run rfl (v := .agg #[.int .i64 b.e, .int .i64 b.s, .int .i64 b.f]) (w' := w') (by go_simp) ⟨EqV.self rfl, Below.refl _ _⟩
      · have d23 := hD.out 0 23 (by simp [hdep]) rfl
        rw [show vals 0 = _ from (hV 0 (by simp [hdep])).of rfl] at d23
        have d24 := hD.out 1 24 (by simp [hdep]) rfl
        rw [show vals 1 = _ from (hV 1 (by simp [hdep])).of rfl] at d24
        refine step_enter rfl (w' := w') (by go_simp) ((Cab.out _).mono ?_)
        rintro e x ⟨rfl, hb⟩
        exact ⟨_, rfl, EqV.self rfl, hb⟩
      · exact step_run rfl (v := .agg #[.int .i64 b.e, .int .i64 b.s, .int .i64 b.f]) (w' := w') (by go_simp) ⟨EqV.self rfl, Below.refl _ _⟩
      · exact step_run rfl (v := .agg #[.int .i64 a.e, .int .i64 a.s, .int .i64 a.f]) (w' := w') (by go_simp) ⟨EqV.self rfl, Below.refl _ _⟩
      · have d26 := hD.out 3 26 (by simp [hdep]) rfl
        rw [show vals 3 = _ from (hV 3 (by simp [hdep])).of rfl] at d26
        have d27 := hD.out 4 27 (by simp [hdep]) rfl
        rw [show vals 4 = _ from (hV 4 (by simp [hdep])).of rfl] at d27
        refine step_enter rfl (w' := w') (by go_simp) ((Cba.out _).mono ?_)
        rintro e x ⟨rfl, hb⟩
        exact ⟨_, rfl, EqV.self rfl, hb⟩
    · intro y hy o L vals w' hi
      simp only [List.mem_cons, List.not_mem_nil, or_false] at hy
      rcases hy with rfl | rfl
      all_goals
        injection hi with hi
        subst hi
        exact step_run rfl (v := Lay.ptr w'.heap.size) (w' := w'.alloc (.cells zero3.toArray 26)) (by unfold Lay.ptr zero3; go_simp) ⟨rfl, rfl⟩
    · intro y hy o L vals w' qb hi hLa hLr hJ hV hp hh
      simp only [List.mem_cons, List.not_mem_nil, or_false] at hy
      generalize hA : frA _ _ L vals = a'
      have hD := Lib.hid (fun k t (hk : L k = true) (ht : dstOf _ k = some t) => hA ▸ frA_done (by kernel_rfl) (vals := vals) hk ht)
      clear hA
      rcases hy with rfl | rfl
      · injection hi with hi
        subst hi
        simp only at hLa hLr hp hh
        have d10 := hD.out 6 10 hLa rfl
        have d25 := hD.out 2 25 hLr rfl
        rw [show vals 2 = _ from (hV 2 hLr).of rfl] at d25
        rw [hp] at d10
        unfold Lay.ptr at d10
        have hf := free3 hh
        have f0 := hf 0
        have f1 := hf 1
        have f2 := hf 2
        have z0 : w'.cell? ⟨qb, 0, none⟩ = some (.int .i64 0) := by simp [World.cell?, hh, zero3]
        have z1 : w'.cell? ⟨qb, 1, none⟩ = some (.int .i64 0) := by simp [World.cell?, hh, zero3]
        have z2 : w'.cell? ⟨qb, 2, none⟩ = some (.int .i64 0) := by simp [World.cell?, hh, zero3]
        clear hf hh
        exact stepI_skip rfl (w' := layCells w' qb 0 p.list) (by unfold Lz.list layCells layCells layCells layCells; go_simp) ⟨rfl, rfl⟩
      · injection hi with hi
        subst hi
        simp only at hLa hLr hp hh
        have d11 := hD.out 7 11 hLa rfl
        have d28 := hD.out 5 28 hLr rfl
        rw [show vals 5 = _ from (hV 5 hLr).of rfl] at d28
        rw [hp] at d11
        unfold Lay.ptr at d11
        have hf := free3 hh
        have f0 := hf 0
        have f1 := hf 1
        have f2 := hf 2
        have z0 : w'.cell? ⟨qb, 0, none⟩ = some (.int .i64 0) := by simp [World.cell?, hh, zero3]
        have z1 : w'.cell? ⟨qb, 1, none⟩ = some (.int .i64 0) := by simp [World.cell?, hh, zero3]
        have z2 : w'.cell? ⟨qb, 2, none⟩ = some (.int .i64 0) := by simp [World.cell?, hh, zero3]
        clear hf hh
        exact stepI_skip rfl (w' := layCells w' qb 0 q.list) (by unfold Lz.list layCells layCells layCells layCells; go_simp) ⟨rfl, rfl⟩
    · intro vals w3 hJ hV hB hN
      have e0 : vals 0 = .agg #[.int .i64 a.e, .int .i64 a.s, .int .i64 a.f] := (hV 0 (by decide)).of rfl
      have e1 : vals 1 = .agg #[.int .i64 b.e, .int .i64 b.s, .int .i64 b.f] := (hV 1 (by decide)).of rfl
      have e2 : vals 2 = .agg #[.int .i64 p.e, .int .i64 p.s, .int .i64 p.f] := (hV 2 (by decide)).of rfl
      have e3 : vals 3 = .agg #[.int .i64 b.e, .int .i64 b.s, .int .i64 b.f] := (hV 3 (by decide)).of rfl
      have e4 : vals 4 = .agg #[.int .i64 a.e, .int .i64 a.s, .int .i64 a.f] := (hV 4 (by decide)).of rfl
      have e5 : vals 5 = .agg #[.int .i64 q.e, .int .i64 q.s, .int .i64 q.f] := (hV 5 (by decide)).of rfl
      obtain ⟨PP, e6, hPP, gPP⟩ := hB _ (List.mem_cons_self ..)
      obtain ⟨QQ, e7, hQQ, gQQ⟩ := hB _ (List.mem_cons_of_mem _ (List.mem_cons_self ..))
      simp only [Lay.ptr] at e6 e7
      simp only [putsL, Act.put, List.setIfInBounds_toArray, List.set_cons_zero, List.set_cons_succ, e0, e1, e2, e3, e4, e5, e6, e7]
      clear e0 e1 e2 e3 e4 e5 e6 e7 hN hV hB
      have HPP := Lib.hid (BoxZ.of gPP)
      have HQQ := Lib.hid (BoxZ.of gQQ)
      have Kw3 := Lib.hid hJ
      have Hw3 := Lib.hid (hJ)
      clear hJ gPP hPP gQQ hQQ
      go_wp2_with fail
      refine wp_region_layE mx (by kernel_rfl) [some (.agg #[.int .i64 a.e, .int .i64 a.s, .int .i64 a.f]), some (.agg #[.int .i64 b.e, .int .i64 b.s, .int .i64 b.f]), some (.agg #[.int .i64 p.e, .int .i64 p.s, .int .i64 p.f]), some (.agg #[.int .i64 c.e, .int .i64 c.s, .int .i64 c.f]), some (.agg #[.int .i64 u.e, .int .i64 u.s, .int .i64 u.f]), some (.agg #[.int .i64 a.e, .int .i64 a.s, .int .i64 a.f]), some (.agg #[.int .i64 b.e, .int .i64 b.s, .int .i64 b.f]), some (.agg #[.int .i64 c.e, .int .i64 c.s, .int .i64 c.f]), some (.agg #[.int .i64 r.e, .int .i64 r.s, .int .i64 r.f]), some (.agg #[.int .i64 v.e, .int .i64 v.s, .int .i64 v.f]), none, none, none, none]
        [⟨10, 12, 4, 26, zero3, fun _ => u.list⟩, ⟨11, 13, 9, 26, zero3, fun _ => v.list⟩] (by kernel_rfl) (by kernel_rfl) ?_ ?_ ?_ ?_
      · intro i o L vals w' hi hL hdep hC hJ hV hno
        have hlt : i < 14 := by have := (List.getElem?_eq_some_iff.1 hi).1; simpa using this
        simp only [List.mem_cons, List.not_mem_nil, or_false, forall_eq_or_imp, forall_eq] at hno
        generalize hA : frA _ _ L vals = a'
        have hT7 : a'.tmps.getD 7 undef = .pointer (some ⟨X, 0, none⟩) := by rw [← hA, frA_base (by kernel_rfl)]; rfl
        have hT8 : a'.tmps.getD 8 undef = .pointer (some ⟨Y, 0, none⟩) := by rw [← hA, frA_base (by kernel_rfl)]; rfl
        have hT9 : a'.tmps.getD 9 undef = .pointer (some ⟨Z, 0, none⟩) := by rw [← hA, frA_base (by kernel_rfl)]; rfl
        have hD := Lib.hid (fun k t (hk : L k = true) (ht : dstOf _ k = some t) => hA ▸ frA_done (by kernel_rfl) (vals := vals) hk ht)
        clear hA
        obtain ⟨_, x70, x71, x72⟩ := HX.out.below (Hw3.out.trans (hJ.mono Hw3.out.size))
        obtain ⟨_, x80, x81, x82⟩ := HY.out.below (Hw3.out.trans (hJ.mono Hw3.out.size))
        obtain ⟨_, x90, x91, x92⟩ := HZ.out.below (Hw3.out.trans (hJ.mono Hw3.out.size))
        obtain rfl | rfl | rfl | rfl | rfl | rfl | rfl | rfl | rfl | rfl : i = 0 ∨ i = 1 ∨ i = 2 ∨ i = 3 ∨ i = 4 ∨ i = 5 ∨ i = 6 ∨ i = 7 ∨ i = 8 ∨ i = 9 := by omega
        all_goals
          injection hi with hi
          subst hi
          try simp [Region.binds] at hdep
        · exact step_run rfl (v := .agg #[.int .i64 a.e, .int .i64 a.s, .int .i64 a.f]) (w' := w') (by go_simp) ⟨EqV.self rfl, Below.refl _ _⟩
        · exact step_run rfl (v := .agg #[.int .i64 b.e, .int .i64 b.s, .int .i64 b.f]) (w' := w') (by go_simp) ⟨EqV.self rfl, Below.refl _ _⟩
        · have d29 := hD.out 0 29 (by simp [hdep]) rfl
          rw [show vals 0 = _ from (hV 0 (by simp [hdep])).of rfl] at d29
          have d30 := hD.out 1 30 (by simp [hdep]) rfl
          rw [show vals 1 = _ from (hV 1 (by simp [hdep])).of rfl] at d30
          refine step_enter rfl (w' := w') (by go_simp) ((Cab.out _).mono ?_)
          rintro e x ⟨rfl, hb⟩
          exact ⟨_, rfl, EqV.self rfl, hb⟩
        · exact step_run rfl (v := .agg #[.int .i64 c.e, .int .i64 c.s, .int .i64 c.f]) (w' := w') (by go_simp) ⟨EqV.self rfl, Below.refl _ _⟩
        · have d31 := hD.out 2 31 (by simp [hdep]) rfl
          rw [show vals 2 = _ from (hV 2 (by simp [hdep])).of rfl] at d31
          have d32 := hD.out 3 32 (by simp [hdep]) rfl
          rw [show vals 3 = _ from (hV 3 (by simp [hdep])).of rfl] at d32
          refine step_enter rfl (w' := w') (by go_simp) ((Cpc.out _).mono ?_)
          rintro e x ⟨rfl, hb⟩
          exact ⟨_, rfl, EqV.self rfl, hb⟩
        · exact step_run rfl (v := .agg #[.int .i64 a.e, .int .i64 a.s, .int .i64 a.f]) (w' := w') (by go_simp) ⟨EqV.self rfl, Below.refl _ _⟩
        · exact step_run rfl (v := .agg #[.int .i64 b.e, .int .i64 b.s, .int .i64 b.f]) (w' := w') (by go_simp) ⟨EqV.self rfl, Below.refl _ _⟩
        · exact step_run rfl (v := .agg #[.int .i64 c.e, .int .i64 c.s, .int .i64 c.f]) (w' := w') (by go_simp) ⟨EqV.self rfl, Below.refl _ _⟩
        · have d35 := hD.out 6 35 (by simp [hdep]) rfl
          rw [show vals 6 = _ from (hV 6 (by simp [hdep])).of rfl] at d35
          have d36 := hD.out 7 36 (by simp [hdep]) rfl
          rw [show vals 7 = _ from (hV 7 (by simp [hdep])).of rfl] at d36
          refine step_enter rfl (w' := w') (by go_simp) ((Cbc.out _).mono ?_)
          rintro e x ⟨rfl, hb⟩
          exact ⟨_, rfl, EqV.self rfl, hb⟩
        · have d34 := hD.out 5 34 (by simp [hdep]) rfl
          rw [show vals 5 = _ from (hV 5 (by simp [hdep])).of rfl] at d34
          have d37 := hD.out 8 37 (by simp [hdep]) rfl
          rw [show vals 8 = _ from (hV 8 (by simp [hdep])).of rfl] at d37
          refine step_enter rfl (w' := w') (by go_simp) ((Car.out _).mono ?_)
          rintro e x ⟨rfl, hb⟩
          exact ⟨_, rfl, EqV.self rfl, hb⟩
      · intro y hy o L vals w' hi
        simp only [List.mem_cons, List.not_mem_nil, or_false] at hy
        rcases hy with rfl | rfl
        all_goals
          injection hi with hi
          subst hi
          exact step_run rfl (v := Lay.ptr w'.heap.size) (w' := w'.alloc (.cells zero3.toArray 26)) (by unfold Lay.ptr zero3; go_simp) ⟨rfl, rfl⟩
      · intro y hy o L vals w' qb hi hLa hLr hJ hV hp hh
        simp only [List.mem_cons, List.not_mem_nil, or_false] at hy
        generalize hA : frA _ _ L vals = a'
        have hD := Lib.hid (fun k t (hk : L k = true) (ht : dstOf _ k = some t) => hA ▸ frA_done (by kernel_rfl) (vals := vals) hk ht)
        clear hA
        rcases hy with rfl | rfl
        · injection hi with hi
          subst hi
          simp only at hLa hLr hp hh
          have d12 := hD.out 10 12 hLa rfl
          have d33 := hD.out 4 33 hLr rfl
          rw [show vals 4 = _ from (hV 4 hLr).of rfl] at d33
          rw [hp] at d12
          unfold Lay.ptr at d12
          have hf := free3 hh
          have f0 := hf 0
          have f1 := hf 1
          have f2 := hf 2
          have z0 : w'.cell? ⟨qb, 0, none⟩ = some (.int .i64 0) := by simp [World.cell?, hh, zero3]
          have z1 : w'.cell? ⟨qb, 1, none⟩ = some (.int .i64 0) := by simp [World.cell?, hh, zero3]
          have z2 : w'.cell? ⟨qb, 2, none⟩ = some (.int .i64 0) := by simp [World.cell?, hh, zero3]
          clear hf hh
          exact stepI_skip rfl (w' := layCells w' qb 0 u.list) (by unfold Lz.list layCells layCells layCells layCells; go_simp) ⟨rfl, rfl⟩
        · injection hi with hi
          subst hi
          simp only at hLa hLr hp hh
          have d13 := hD.out 11 13 hLa rfl
          have d38 := hD.out 9 38 hLr rfl
          rw [show vals 9 = _ from (hV 9 hLr).of rfl] at d38
          rw [hp] at d13
          unfold Lay.ptr at d13
          have hf := free3 hh
          have f0 := hf 0
          have f1 := hf 1
          have f2 := hf 2
          have z0 : w'.cell? ⟨qb, 0, none⟩ = some (.int .i64 0) := by simp [World.cell?, hh, zero3]
          have z1 : w'.cell? ⟨qb, 1, none⟩ = some (.int .i64 0) := by simp [World.cell?, hh, zero3]
          have z2 : w'.cell? ⟨qb, 2, none⟩ = some (.int .i64 0) := by simp [World.cell?, hh, zero3]
          clear hf hh
          exact stepI_skip rfl (w' := layCells w' qb 0 v.list) (by unfold Lz.list layCells layCells layCells layCells; go_simp) ⟨rfl, rfl⟩
      · intro vals w4 hJ hV hB hN
        have e0 : vals 0 = .agg #[.int .i64 a.e, .int .i64 a.s, .int .i64 a.f] := (hV 0 (by decide)).of rfl
        have e1 : vals 1 = .agg #[.int .i64 b.e, .int .i64 b.s, .int .i64 b.f] := (hV 1 (by decide)).of rfl
        have e2 : vals 2 = .agg #[.int .i64 p.e, .int .i64 p.s, .int .i64 p.f] := (hV 2 (by decide)).of rfl
        have e3 : vals 3 = .agg #[.int .i64 c.e, .int .i64 c.s, .int .i64 c.f] := (hV 3 (by decide)).of rfl
        have e4 : vals 4 = .agg #[.int .i64 u.e, .int .i64 u.s, .int .i64 u.f] := (hV 4 (by decide)).of rfl
        have e5 : vals 5 = .agg #[.int .i64 a.e, .int .i64 a.s, .int .i64 a.f] := (hV 5 (by decide)).of rfl
        have e6 : vals 6 = .agg #[.int .i64 b.e, .int .i64 b.s, .int .i64 b.f] := (hV 6 (by decide)).of rfl
        have e7 : vals 7 = .agg #[.int .i64 c.e, .int .i64 c.s, .int .i64 c.f] := (hV 7 (by decide)).of rfl
        have e8 : vals 8 = .agg #[.int .i64 r.e, .int .i64 r.s, .int .i64 r.f] := (hV 8 (by decide)).of rfl
        have e9 : vals 9 = .agg #[.int .i64 v.e, .int .i64 v.s, .int .i64 v.f] := (hV 9 (by decide)).of rfl
        obtain ⟨U, e10, hU, gU⟩ := hB _ (List.mem_cons_self ..)
        obtain ⟨V, e11, hV, gV⟩ := hB _ (List.mem_cons_of_mem _ (List.mem_cons_self ..))
        simp only [Lay.ptr] at e10 e11
        simp only [putsL, Act.put, List.setIfInBounds_toArray, List.set_cons_zero, List.set_cons_succ, e0, e1, e2, e3, e4, e5, e6, e7, e8, e9, e10, e11]
        clear e0 e1 e2 e3 e4 e5 e6 e7 e8 e9 e10 e11 hN hV hB
        have HU := Lib.hid (BoxZ.of gU)
        have HV := Lib.hid (BoxZ.of gV)
        have Kw4 := Lib.hid hJ
        have Hw4 := Lib.hid ((Hw3.out.trans (hJ.mono Hw3.out.size)))
        clear hJ gU hU gV hV
        have H04 := Lib.hid (Hw2.out.trans (Hw4.out.mono Hw2.out.size))
        obtain ⟨x, ps, pf⟩ := p
        obtain ⟨qe, qs, qf⟩ := q
        obtain ⟨y, us, uf⟩ := u
        obtain ⟨ve, vs, vf⟩ := v
        obtain ⟨hs1, hs2⟩ := HS.out
        obtain ⟨ht1, ht2⟩ := HT.out
        simp only at hs1 hs2 ht1 ht2 E1 E2 E3 E4
        subst hs1 ht1
        rw [← hs2] at E2
        rw [← ht2] at E4
        obtain ⟨z1, hz1⟩ : ∃ z, ps + pf = z := ⟨_, rfl⟩
        obtain ⟨z2, hz2⟩ : ∃ z, us + uf = z := ⟨_, rfl⟩
        rw [hz1] at E1 E2
        rw [hz2] at E3 E4
        clear hs2 ht2 hz1 hz2 HS HT
        have Q1 := Lib.hid (fun pw : BelowOf w4 => Calls.below_of pw (E1.out pw.w'))
        have Q2 := Lib.hid (fun pw : BelowOf w4 => Calls.below_of pw (E2.out pw.w'))
        have Q3 := Lib.hid (fun pw : BelowOf w4 => Calls.below_of pw (E3.out pw.w'))
        have Q4 := Lib.hid (fun pw : BelowOf w4 => Calls.below_of pw (E4.out pw.w'))
        have Qaa := Lib.hid (fun pw : BelowOf w4 => Calls.below_of pw (Caa.out pw.w'))
        have Qa0 := Lib.hid (fun pw : BelowOf w4 => Calls.below_of pw (Ca0.out pw.w'))
        have hss := fun w => eql_lease s s w
        simp only [decide_true] at hss
        have hpq := fun w => eql_lease ⟨x, ps, pf⟩ ⟨x, qs, qf⟩ w
        have huv := fun w => eql_lease ⟨y, us, uf⟩ ⟨y, vs, vf⟩ w
        simp only at hpq huv
        clear E1 E2 E3 E4 Caa Ca0 Cab Cba Cbc Cpc Car CA
        by_cases h1 : (⟨x, ps, pf⟩ : Lz) = ⟨x, qs, qf⟩
        · rw [show decide ((⟨x, ps, pf⟩ : Lz) = ⟨x, qs, qf⟩) = true from decide_eq_true h1] at hpq
          clear h1
          by_cases h2 : (⟨y, us, uf⟩ : Lz) = ⟨y, vs, vf⟩
          · rw [show decide ((⟨y, us, uf⟩ : Lz) = ⟨y, vs, vf⟩) = true from decide_eq_true h2] at huv
            clear h2
            obtain ⟨k1, x0, x1, x2⟩ := HX.out.below Hw4.out
            obtain ⟨k2, p0, p1, p2⟩ := HPP.out.below Kw4.out
            obtain ⟨k3, q0, q1, q2⟩ := HQQ.out.below Kw4.out
            obtain ⟨k4, u0, u1, u2⟩ := HU.out
            obtain ⟨k5, v0, v1, v2⟩ := HV.out
            simp only at p0 p1 p2 q0 q1 q2 u0 u1 u2 v0 v1 v2
            have fx0 := fun pw : BelowOf w4 => pw.cell (a := ⟨X, 0, none⟩) k1 x0
            have fx1 := fun pw : BelowOf w4 => pw.cell (a := ⟨X, 1, none⟩) k1 x1
            have fx2 := fun pw : BelowOf w4 => pw.cell (a := ⟨X, 2, none⟩) k1 x2
            have fp0 := fun pw : BelowOf w4 => pw.cell (a := ⟨PP, 0, none⟩) k2 p0
            have fp1 := fun pw : BelowOf w4 => pw.cell (a := ⟨PP, 1, none⟩) k2 p1
            have fp2 := fun pw : BelowOf w4 => pw.cell (a := ⟨PP, 2, none⟩) k2 p2
            have fq0 := fun pw : BelowOf w4 => pw.cell (a := ⟨QQ, 0, none⟩) k3 q0
            have fq1 := fun pw : BelowOf w4 => pw.cell (a := ⟨QQ, 1, none⟩) k3 q1
            have fq2 := fun pw : BelowOf w4 => pw.cell (a := ⟨QQ, 2, none⟩) k3 q2
            have fu0 := fun pw : BelowOf w4 => pw.cell (a := ⟨U, 0, none⟩) k4 u0
            have fu1 := fun pw : BelowOf w4 => pw.cell (a := ⟨U, 1, none⟩) k4 u1
            have fu2 := fun pw : BelowOf w4 => pw.cell (a := ⟨U, 2, none⟩) k4 u2
            have fv0 := fun pw : BelowOf w4 => pw.cell (a := ⟨V, 0, none⟩) k5 v0
            have fv1 := fun pw : BelowOf w4 => pw.cell (a := ⟨V, 1, none⟩) k5 v1
            have fv2 := fun pw : BelowOf w4 => pw.cell (a := ⟨V, 2, none⟩) k5 v2
            clear x0 x1 x2 p0 p1 p2 q0 q1 q2 u0 u1 u2 v0 v1 v2
            go_wp2_with fail
            try simp only [List.append]
            refine wp_region_quiet_below (by assumption) (by kernel_rfl) ?_
            repeat (go_big_quiet_step (first | (go_at_call 10; with_reducible exact Qaa.out _) | (go_at_call 10; with_reducible exact Qa0.out _) | (with_reducible exact Q1.out _) | (with_reducible exact Q2.out _) | (with_reducible exact Q3.out _) | (with_reducible exact Q4.out _)))
            refine wpQuiet_nil ?_
            intro wq hw'
            obtain ⟨⟨wz, hbq⟩, hw''⟩ := hw'
            obtain rfl : wq = wz := hw''
            have HQ := Lib.hid (HB0.out.trans ((H04.out.trans (hbq.mono H04.out.size)).mono HB0.out.size))
            clear hbq
            go_wp2_with fail
            go_ret
            exact ⟨rfl, HQ.out⟩
          · rw [show decide ((⟨y, us, uf⟩ : Lz) = ⟨y, vs, vf⟩) = false from decide_eq_false h2] at huv
            clear h2
            obtain ⟨k1, x0, x1, x2⟩ := HX.out.below Hw4.out
            obtain ⟨k2, p0, p1, p2⟩ := HPP.out.below Kw4.out
            obtain ⟨k3, q0, q1, q2⟩ := HQQ.out.below Kw4.out
            obtain ⟨k4, u0, u1, u2⟩ := HU.out
            obtain ⟨k5, v0, v1, v2⟩ := HV.out
            simp only at p0 p1 p2 q0 q1 q2 u0 u1 u2 v0 v1 v2
            have fx0 := fun pw : BelowOf w4 => pw.cell (a := ⟨X, 0, none⟩) k1 x0
            have fx1 := fun pw : BelowOf w4 => pw.cell (a := ⟨X, 1, none⟩) k1 x1
            have fx2 := fun pw : BelowOf w4 => pw.cell (a := ⟨X, 2, none⟩) k1 x2
            have fp0 := fun pw : BelowOf w4 => pw.cell (a := ⟨PP, 0, none⟩) k2 p0
            have fp1 := fun pw : BelowOf w4 => pw.cell (a := ⟨PP, 1, none⟩) k2 p1
            have fp2 := fun pw : BelowOf w4 => pw.cell (a := ⟨PP, 2, none⟩) k2 p2
            have fq0 := fun pw : BelowOf w4 => pw.cell (a := ⟨QQ, 0, none⟩) k3 q0
            have fq1 := fun pw : BelowOf w4 => pw.cell (a := ⟨QQ, 1, none⟩) k3 q1
            have fq2 := fun pw : BelowOf w4 => pw.cell (a := ⟨QQ, 2, none⟩) k3 q2
            have fu0 := fun pw : BelowOf w4 => pw.cell (a := ⟨U, 0, none⟩) k4 u0
            have fu1 := fun pw : BelowOf w4 => pw.cell (a := ⟨U, 1, none⟩) k4 u1
            have fu2 := fun pw : BelowOf w4 => pw.cell (a := ⟨U, 2, none⟩) k4 u2
            have fv0 := fun pw : BelowOf w4 => pw.cell (a := ⟨V, 0, none⟩) k5 v0
            have fv1 := fun pw : BelowOf w4 => pw.cell (a := ⟨V, 1, none⟩) k5 v1
            have fv2 := fun pw : BelowOf w4 => pw.cell (a := ⟨V, 2, none⟩) k5 v2
            clear x0 x1 x2 p0 p1 p2 q0 q1 q2 u0 u1 u2 v0 v1 v2
            go_wp2_with fail
            try simp only [List.append]
            refine wp_region_quiet_below (by assumption) (by kernel_rfl) ?_
            repeat (go_big_quiet_step (first | (go_at_call 10; with_reducible exact Qaa.out _) | (go_at_call 10; with_reducible exact Qa0.out _) | (with_reducible exact Q1.out _) | (with_reducible exact Q2.out _) | (with_reducible exact Q3.out _) | (with_reducible exact Q4.out _)))
            refine wpQuiet_nil ?_
            intro wq hw'
            obtain ⟨⟨wz, hbq⟩, hw''⟩ := hw'
            obtain rfl : wq = wz := hw''
            have HQ := Lib.hid (HB0.out.trans ((H04.out.trans (hbq.mono H04.out.size)).mono HB0.out.size))
            clear hbq
            go_wp2_with fail
            go_ret
            exact ⟨rfl, HQ.out⟩
        · rw [show decide ((⟨x, ps, pf⟩ : Lz) = ⟨x, qs, qf⟩) = false from decide_eq_false h1] at hpq
          clear h1
          by_cases h2 : (⟨y, us, uf⟩ : Lz) = ⟨y, vs, vf⟩
          · rw [show decide ((⟨y, us, uf⟩ : Lz) = ⟨y, vs, vf⟩) = true from decide_eq_true h2] at huv
            clear h2
            obtain ⟨k1, x0, x1, x2⟩ := HX.out.below Hw4.out
            obtain ⟨k2, p0, p1, p2⟩ := HPP.out.below Kw4.out
            obtain ⟨k3, q0, q1, q2⟩ := HQQ.out.below Kw4.out
            obtain ⟨k4, u0, u1, u2⟩ := HU.out
            obtain ⟨k5, v0, v1, v2⟩ := HV.out
            simp only at p0 p1 p2 q0 q1 q2 u0 u1 u2 v0 v1 v2
            have fx0 := fun pw : BelowOf w4 => pw.cell (a := ⟨X, 0, none⟩) k1 x0
            have fx1 := fun pw : BelowOf w4 => pw.cell (a := ⟨X, 1, none⟩) k1 x1
            have fx2 := fun pw : BelowOf w4 => pw.cell (a := ⟨X, 2, none⟩) k1 x2
            have fp0 := fun pw : BelowOf w4 => pw.cell (a := ⟨PP, 0, none⟩) k2 p0
            have fp1 := fun pw : BelowOf w4 => pw.cell (a := ⟨PP, 1, none⟩) k2 p1
            have fp2 := fun pw : BelowOf w4 => pw.cell (a := ⟨PP, 2, none⟩) k2 p2
            have fq0 := fun pw : BelowOf w4 => pw.cell (a := ⟨QQ, 0, none⟩) k3 q0
            have fq1 := fun pw : BelowOf w4 => pw.cell (a := ⟨QQ, 1, none⟩) k3 q1
            have fq2 := fun pw : BelowOf w4 => pw.cell (a := ⟨QQ, 2, none⟩) k3 q2
            have fu0 := fun pw : BelowOf w4 => pw.cell (a := ⟨U, 0, none⟩) k4 u0
            have fu1 := fun pw : BelowOf w4 => pw.cell (a := ⟨U, 1, none⟩) k4 u1
            have fu2 := fun pw : BelowOf w4 => pw.cell (a := ⟨U, 2, none⟩) k4 u2
            have fv0 := fun pw : BelowOf w4 => pw.cell (a := ⟨V, 0, none⟩) k5 v0
            have fv1 := fun pw : BelowOf w4 => pw.cell (a := ⟨V, 1, none⟩) k5 v1
            have fv2 := fun pw : BelowOf w4 => pw.cell (a := ⟨V, 2, none⟩) k5 v2
            clear x0 x1 x2 p0 p1 p2 q0 q1 q2 u0 u1 u2 v0 v1 v2
            go_wp2_with fail
            try simp only [List.append]
            refine wp_region_quiet_below (by assumption) (by kernel_rfl) ?_
            repeat (go_big_quiet_step (first | (go_at_call 10; with_reducible exact Qaa.out _) | (go_at_call 10; with_reducible exact Qa0.out _) | (with_reducible exact Q1.out _) | (with_reducible exact Q2.out _) | (with_reducible exact Q3.out _) | (with_reducible exact Q4.out _)))
            refine wpQuiet_nil ?_
            intro wq hw'
            obtain ⟨⟨wz, hbq⟩, hw''⟩ := hw'
            obtain rfl : wq = wz := hw''
            have HQ := Lib.hid (HB0.out.trans ((H04.out.trans (hbq.mono H04.out.size)).mono HB0.out.size))
            clear hbq
            go_wp2_with fail
            go_ret
            exact ⟨rfl, HQ.out⟩
          · rw [show decide ((⟨y, us, uf⟩ : Lz) = ⟨y, vs, vf⟩) = false from decide_eq_false h2] at huv
            clear h2
            obtain ⟨k1, x0, x1, x2⟩ := HX.out.below Hw4.out
            obtain ⟨k2, p0, p1, p2⟩ := HPP.out.below Kw4.out
            obtain ⟨k3, q0, q1, q2⟩ := HQQ.out.below Kw4.out
            obtain ⟨k4, u0, u1, u2⟩ := HU.out
            obtain ⟨k5, v0, v1, v2⟩ := HV.out
            simp only at p0 p1 p2 q0 q1 q2 u0 u1 u2 v0 v1 v2
            have fx0 := fun pw : BelowOf w4 => pw.cell (a := ⟨X, 0, none⟩) k1 x0
            have fx1 := fun pw : BelowOf w4 => pw.cell (a := ⟨X, 1, none⟩) k1 x1
            have fx2 := fun pw : BelowOf w4 => pw.cell (a := ⟨X, 2, none⟩) k1 x2
            have fp0 := fun pw : BelowOf w4 => pw.cell (a := ⟨PP, 0, none⟩) k2 p0
            have fp1 := fun pw : BelowOf w4 => pw.cell (a := ⟨PP, 1, none⟩) k2 p1
            have fp2 := fun pw : BelowOf w4 => pw.cell (a := ⟨PP, 2, none⟩) k2 p2
            have fq0 := fun pw : BelowOf w4 => pw.cell (a := ⟨QQ, 0, none⟩) k3 q0
            have fq1 := fun pw : BelowOf w4 => pw.cell (a := ⟨QQ, 1, none⟩) k3 q1
            have fq2 := fun pw : BelowOf w4 => pw.cell (a := ⟨QQ, 2, none⟩) k3 q2
            have fu0 := fun pw : BelowOf w4 => pw.cell (a := ⟨U, 0, none⟩) k4 u0
            have fu1 := fun pw : BelowOf w4 => pw.cell (a := ⟨U, 1, none⟩) k4 u1
            have fu2 := fun pw : BelowOf w4 => pw.cell (a := ⟨U, 2, none⟩) k4 u2
            have fv0 := fun pw : BelowOf w4 => pw.cell (a := ⟨V, 0, none⟩) k5 v0
            have fv1 := fun pw : BelowOf w4 => pw.cell (a := ⟨V, 1, none⟩) k5 v1
            have fv2 := fun pw : BelowOf w4 => pw.cell (a := ⟨V, 2, none⟩) k5 v2
            clear x0 x1 x2 p0 p1 p2 q0 q1 q2 u0 u1 u2 v0 v1 v2
            go_wp2_with fail
            try simp only [List.append]
            refine wp_region_quiet_below (by assumption) (by kernel_rfl) ?_
            repeat (go_big_quiet_step (first | (go_at_call 10; with_reducible exact Qaa.out _) | (go_at_call 10; with_reducible exact Qa0.out _) | (with_reducible exact Q1.out _) | (with_reducible exact Q2.out _) | (with_reducible exact Q3.out _) | (with_reducible exact Q4.out _)))
            refine wpQuiet_nil ?_
            intro wq hw'
            obtain ⟨⟨wz, hbq⟩, hw''⟩ := hw'
            obtain rfl : wq = wz := hw''
            have HQ := Lib.hid (HB0.out.trans ((H04.out.trans (hbq.mono H04.out.size)).mono HB0.out.size))
            clear hbq
            go_wp2_with fail
            go_ret
            exact ⟨rfl, HQ.out⟩
end Go.Proofs.Ytohomnfededglaa
