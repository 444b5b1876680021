/-
  Layer lease: from, epoch, end, May, Holds, Left, Safe, and the reference's.
-/
import Derived.Test.YtohomnfededglaaQuietBelow
import Derived.Test.YtohomnfededglaaLsMath
import Derived.Laws.EntriesVeiled
import Derived.WalkSpells
namespace Go.Proofs.Ytohomnfededglaa
open Go.RowKit Go.Gz

theorem from_any (a b c : Int) (w : World) : Calls Try.prog 26 #[.int .i64 a, .int .i64 b, .int .i64 c] w fun e w' => e = .returned (.bool (decide (a ≤ b ∧ b ≤ c))) ∧ Below w.heap.size w w' := by
  go_enter Try.func26, Try.ntmps26
  go_wp2_with fail
  all_goals
    go_ret
    refine ⟨?_, (Below.refl _ _)⟩
    first | (simp_all; done) | (simp_all; omega)
theorem epoch_any (l : Lz) (w : World) : Calls Try.prog 24 #[l.val] w fun e w' => e = .returned (.int .i64 l.e) ∧ Below w.heap.size w w' := by
  obtain ⟨x, y, z⟩ := l
  unfold Lz.val
  go_enter Try.func24, Try.ntmps24
  go_wp2_with fail
  go_ret
  exact ⟨rfl, (Below.refl _ _).alloc (Nat.le_refl _) _⟩
theorem end_any (l : Lz) (hl : mayZ l = true) (w : World) : Calls Try.prog 25 #[l.val] w fun e w' => e = .returned (.int .i64 (l.s + l.f)) ∧ Below w.heap.size w w' := by
  obtain ⟨x, y, z⟩ := l
  obtain ⟨h1, h2, h3, h4, h5⟩ := (mayZ_iff _).1 hl
  simp only at h1 h2 h3 h4 h5
  have hwr : IntKind.i64.wrap (y + z) = y + z := IntWalk.i64_in _ (by omega)
  unfold Lz.val
  go_enter Try.func25, Try.ntmps25
  go_wp2_with fail
  go_ret
  exact ⟨rfl, (Below.refl _ _).alloc (Nat.le_refl _) _⟩
/-- the cells of a boxed lease. -/
def BoxZ (W : World) (b : Nat) (l : Lz) : Prop := b < W.heap.size ∧ W.cell? ⟨b, 0, none⟩ = some (.int .i64 l.e) ∧ W.cell? ⟨b, 1, none⟩ = some (.int .i64 l.s) ∧ W.cell? ⟨b, 2, none⟩ = some (.int .i64 l.f)
theorem BoxZ.below {W w : World} {b : Nat} {l : Lz} (h : BoxZ W b l) (hb : Below W.heap.size W w) : BoxZ w b l :=
  ⟨Nat.lt_of_lt_of_le h.1 hb.size, by rw [hb.cell (p := ⟨b, 0, none⟩) h.1]; exact h.2.1, by rw [hb.cell (p := ⟨b, 1, none⟩) h.1]; exact h.2.2.1, by rw [hb.cell (p := ⟨b, 2, none⟩) h.1]; exact h.2.2.2⟩
theorem BoxZ.new (w : World) (l : Lz) (t : TypeId) : BoxZ (w.alloc (.cells #[.int .i64 l.e, .int .i64 l.s, .int .i64 l.f] t)) w.heap.size l :=
  ⟨by simp, by simp, by simp, by simp⟩
theorem below_new (w : World) (x : Obj) : Below w.heap.size w (w.alloc x) := (Below.refl _ _).alloc (Nat.le_refl _) _

theorem may_any (l : Lz) (w : World) : Calls Try.prog 11 #[l.val] w fun e w' => e = .returned (.bool (mayZ l)) ∧ Below w.heap.size w w' := by
  obtain ⟨x, y, z⟩ := l
  have B0 := Lib.hid (below_new w (.cells #[.int .i64 x, .int .i64 y, .int .i64 z] 26))
  have N0 := Lib.hid (BoxZ.new w ⟨x, y, z⟩ 26)
  unfold Lz.val
  have C1 := Lib.hid (fun w => from_any 0 y 1099511627776 w)
  have C2 := Lib.hid (fun w => from_any 1 z 1099511627776 w)
  obtain ⟨p, hp⟩ : ∃ p : Bool, decide ((0 : Int) ≤ y ∧ y ≤ 1099511627776) = p := ⟨_, rfl⟩
  obtain ⟨q, hq⟩ : ∃ q : Bool, decide ((1 : Int) ≤ z ∧ z ≤ 1099511627776) = q := ⟨_, rfl⟩
  rw [hp] at C1
  rw [hq] at C2
  have HX := Lib.hid (show mayZ ⟨x, y, z⟩ = (decide (1 ≤ x) && p && q) by
    rw [← hp, ← hq]
    unfold mayZ
    by_cases h1 : (1 : Int) ≤ x <;> by_cases h2 : (0 : Int) ≤ y <;> by_cases h3 : y ≤ 1099511627776 <;> by_cases h4 : (1 : Int) ≤ z <;> by_cases h5 : z ≤ 1099511627776 <;> simp [h1, h2, h3, h4, h5])
  clear hp hq
  go_enter Try.func11, Try.ntmps11
  by_cases hx : (1 : Int) ≤ x
  · have hxd : decide ((1 : Int) ≤ x) = true := decide_eq_true hx
    go_wp2_with fail
    refine (C1.out _).mono ?_
    rintro e w1 ⟨rfl, hb1⟩
    have H1 := Lib.hid (B0.out.trans (hb1.mono B0.out.size))
    obtain ⟨_, _, _, z2⟩ := N0.out.below hb1
    clear hb1
    cases p
    · go_wp2_with fail
      go_ret
      exact ⟨by rw [HX.out, hxd]; rfl, H1.out⟩
    · go_wp2_with fail
      refine (C2.out _).mono ?_
      rintro e w2 ⟨rfl, hb2⟩
      have H2 := Lib.hid (H1.out.trans (hb2.mono H1.out.size))
      clear hb2
      go_wp2_with fail
      go_ret
      exact ⟨by rw [HX.out, hxd]; rfl, H2.out⟩
  · have hxd : decide ((1 : Int) ≤ x) = false := decide_eq_false hx
    go_wp2_with fail
    go_ret
    exact ⟨by rw [HX.out, hxd]; rfl, B0.out⟩
theorem refMay_any (l : Lz) (w : World) : Calls Try.prog 12 #[l.val] w fun e w' => e = .returned (.bool (mayZ l)) ∧ Below w.heap.size w w' := by
  obtain ⟨x, y, z⟩ := l
  have B0 := Lib.hid (below_new w (.cells #[.int .i64 x, .int .i64 y, .int .i64 z] 23))
  unfold Lz.val
  go_enter Try.func12, Try.ntmps12
  go_wp2_with fail
  all_goals
    go_ret
    refine ⟨?_, B0.out⟩
    clear B0
    first | (simp_all [mayZ]; done) | (simp_all [mayZ]; omega)
theorem holds_any (l : Lz) (n : Int) (w : World) : Calls Try.prog 13 #[l.val, .int .i64 n] w fun e w' => e = .returned (.bool (holdsZ l n)) ∧ Below w.heap.size w w' := by
  have CM := Lib.hid (fun w => may_any l w)
  have CE := Lib.hid (fun (hl : mayZ l = true) w => end_any l hl w)
  have B0 := Lib.hid (below_new w (.cells #[.int .i64 l.e, .int .i64 l.s, .int .i64 l.f] 26))
  have N0 := Lib.hid (BoxZ.new w l 26)
  obtain ⟨m, hm⟩ : ∃ m, mayZ l = m := ⟨_, rfl⟩
  rw [hm] at CM CE
  have HX := Lib.hid (show holdsZ l n = (m && decide (l.s ≤ n) && decide (n < l.s + l.f)) by rw [← hm]; unfold holdsZ; simp [Bool.and_assoc])
  clear hm
  obtain ⟨x, y, z⟩ := l
  unfold Lz.val at *
  simp only at HX CE
  go_enter Try.func13, Try.ntmps13
  go_wp2_with fail
  refine (CM.out _).mono ?_
  rintro e w1 ⟨rfl, hb1⟩
  have H1 := Lib.hid (B0.out.trans (hb1.mono B0.out.size))
  obtain ⟨_, z0, z1, z2⟩ := N0.out.below hb1
  clear hb1
  cases m
  · go_wp2_with fail
    go_ret
    exact ⟨by rw [HX.out]; rfl, H1.out⟩
  · by_cases hx : y ≤ n
    · have hxd : decide (y ≤ n) = true := decide_eq_true hx
      go_wp2_with fail
      refine (CE.out (by simp) _).mono ?_
      rintro e w2 ⟨rfl, hb2⟩
      have H2 := Lib.hid (H1.out.trans (hb2.mono H1.out.size))
      clear hb2
      go_wp2_with fail
      go_ret
      exact ⟨by rw [HX.out, hxd]; rfl, H2.out⟩
    · have hxd : decide (y ≤ n) = false := decide_eq_false hx
      go_wp2_with fail
      go_ret
      exact ⟨by rw [HX.out, hxd]; rfl, H1.out⟩
theorem refHolds_any (l : Lz) (n : Int) (w : World) : Calls Try.prog 14 #[l.val, .int .i64 n] w fun e w' => e = .returned (.bool (holdsZ l n)) ∧ Below w.heap.size w w' := by
  have CM := Lib.hid (fun w => refMay_any l w)
  have B0 := Lib.hid (below_new w (.cells #[.int .i64 l.e, .int .i64 l.s, .int .i64 l.f] 23))
  have N0 := Lib.hid (BoxZ.new w l 23)
  have hwr : mayZ l = true → IntKind.i64.wrap (l.s + l.f) = l.s + l.f := fun h => by obtain ⟨h1, h2, h3, h4, h5⟩ := (mayZ_iff _).1 h; exact IntWalk.i64_in _ (by omega)
  obtain ⟨m, hm⟩ : ∃ m, mayZ l = m := ⟨_, rfl⟩
  rw [hm] at CM hwr
  have HX := Lib.hid (show holdsZ l n = (m && decide (l.s ≤ n) && decide (n < l.s + l.f)) by rw [← hm]; unfold holdsZ; simp [Bool.and_assoc])
  clear hm
  obtain ⟨x, y, z⟩ := l
  unfold Lz.val at *
  simp only at HX hwr
  go_enter Try.func14, Try.ntmps14
  go_wp2_with fail
  refine (CM.out _).mono ?_
  rintro e w1 ⟨rfl, hb1⟩
  have H1 := Lib.hid (B0.out.trans (hb1.mono B0.out.size))
  obtain ⟨_, z0, z1, z2⟩ := N0.out.below hb1
  clear hb1
  cases m
  · go_wp2_with fail
    go_ret
    exact ⟨by rw [HX.out]; rfl, H1.out⟩
  · have hw := hwr (by simp)
    clear hwr
    by_cases hx : y ≤ n
    · have hxd : decide (y ≤ n) = true := decide_eq_true hx
      go_wp2_with fail
      go_ret
      exact ⟨by rw [HX.out, hxd]; rfl, H1.out⟩
    · have hxd : decide (y ≤ n) = false := decide_eq_false hx
      go_wp2_with fail
      go_ret
      exact ⟨by rw [HX.out, hxd]; rfl, H1.out⟩
/-- what Left answers. -/
theorem left_is (l : Lz) (n : Int) (h : holdsZ l n = true) : leftZ l n = l.s + l.f - n ∧ IntKind.i64.wrap (l.s + l.f - n) = l.s + l.f - n ∧ IntKind.i64.wrap (l.s + l.f) = l.s + l.f ∧ mayZ l = true := by
  have h' := h
  unfold holdsZ at h'
  rw [Bool.and_eq_true, decide_eq_true_eq] at h'
  obtain ⟨h1, h2, h3, h4, h5⟩ := (mayZ_iff _).1 h'.1
  exact ⟨by unfold leftZ; rw [if_pos h], IntWalk.i64_in _ (by omega), IntWalk.i64_in _ (by omega), h'.1⟩
theorem left_any (l : Lz) (n : Int) (w : World) : Calls Try.prog 15 #[l.val, .int .i64 n] w fun e w' => e = .returned (.int .i64 (leftZ l n)) ∧ Below w.heap.size w w' := by
  have CM := Lib.hid (fun w => holds_any l n w)
  have CE := Lib.hid (fun (hl : mayZ l = true) w => end_any l hl w)
  have B0 := Lib.hid (below_new w (.cells #[.int .i64 l.e, .int .i64 l.s, .int .i64 l.f] 26))
  have N0 := Lib.hid (BoxZ.new w l 26)
  have HI := Lib.hid (left_is l n)
  have HX := Lib.hid (show holdsZ l n = false → leftZ l n = 0 from fun h => by unfold leftZ; rw [if_neg (by simp [h])])
  obtain ⟨m, hm⟩ : ∃ m, holdsZ l n = m := ⟨_, rfl⟩
  rw [hm] at CM HI HX
  clear hm
  obtain ⟨r, hr⟩ : ∃ r, leftZ l n = r := ⟨_, rfl⟩
  rw [hr] at HI HX ⊢
  clear hr
  obtain ⟨x, y, z⟩ := l
  unfold Lz.val at *
  simp only at HI CE
  go_enter Try.func15, Try.ntmps15
  go_wp2_with fail
  refine (CM.out _).mono ?_
  rintro e w1 ⟨rfl, hb1⟩
  have H1 := Lib.hid (B0.out.trans (hb1.mono B0.out.size))
  obtain ⟨_, z0, z1, z2⟩ := N0.out.below hb1
  clear hb1
  cases m
  · go_wp2_with fail
    go_ret
    exact ⟨by rw [HX.out (by simp)]; rfl, H1.out⟩
  · obtain ⟨q1, q2, q3, q4⟩ := HI.out (by simp)
    subst q1
    clear HI HX
    go_wp2_with fail
    refine (CE.out q4 _).mono ?_
    rintro e w2 ⟨rfl, hb2⟩
    have H2 := Lib.hid (H1.out.trans (hb2.mono H1.out.size))
    clear hb2
    go_wp2_with fail
    go_ret
    exact ⟨rfl, H2.out⟩
theorem refLeft_any (l : Lz) (n : Int) (w : World) : Calls Try.prog 16 #[l.val, .int .i64 n] w fun e w' => e = .returned (.int .i64 (leftZ l n)) ∧ Below w.heap.size w w' := by
  have CM := Lib.hid (fun w => refHolds_any l n w)
  have B0 := Lib.hid (below_new w (.cells #[.int .i64 l.e, .int .i64 l.s, .int .i64 l.f] 23))
  have N0 := Lib.hid (BoxZ.new w l 23)
  have HI := Lib.hid (left_is l n)
  have HX := Lib.hid (show holdsZ l n = false → leftZ l n = 0 from fun h => by unfold leftZ; rw [if_neg (by simp [h])])
  obtain ⟨m, hm⟩ : ∃ m, holdsZ l n = m := ⟨_, rfl⟩
  rw [hm] at CM HI HX
  clear hm
  obtain ⟨r, hr⟩ : ∃ r, leftZ l n = r := ⟨_, rfl⟩
  rw [hr] at HI HX ⊢
  clear hr
  obtain ⟨x, y, z⟩ := l
  unfold Lz.val at *
  simp only at HI
  go_enter Try.func16, Try.ntmps16
  go_wp2_with fail
  refine (CM.out _).mono ?_
  rintro e w1 ⟨rfl, hb1⟩
  have H1 := Lib.hid (B0.out.trans (hb1.mono B0.out.size))
  obtain ⟨_, z0, z1, z2⟩ := N0.out.below hb1
  clear hb1
  cases m
  · go_wp2_with fail
    go_ret
    exact ⟨by rw [HX.out (by simp)]; rfl, H1.out⟩
  · obtain ⟨q1, q2, q3, q4⟩ := HI.out (by simp)
    subst q1
    clear HI HX
    go_wp2_with fail
    go_ret
    exact ⟨rfl, H1.out⟩
theorem safe_bounds (l : Lz) (h : mayZ l = true) : 0 ≤ l.s + l.f ∧ l.s + l.f ≤ 2199023255552 := by
  obtain ⟨h1, h2, h3, h4, h5⟩ := (mayZ_iff _).1 h
  omega
theorem safe_any (l : Lz) (n k : Int) (w : World) : Calls Try.prog 17 #[l.val, .int .i64 n, .int .i64 k] w fun e w' => e = .returned (.bool (safeZ l n k)) ∧ Below w.heap.size w w' := by
  have CM := Lib.hid (fun w => may_any l w)
  have CE := Lib.hid (fun (hl : mayZ l = true) w => end_any l hl w)
  have B0 := Lib.hid (below_new w (.cells #[.int .i64 l.e, .int .i64 l.s, .int .i64 l.f] 26))
  have N0 := Lib.hid (BoxZ.new w l 26)
  have HI := Lib.hid (safe_bounds l)
  have HX := Lib.hid (show safeZ l n k = (!mayZ l || decide (l.s + l.f + clampZ k ≤ n)) from rfl)
  obtain ⟨m, hm⟩ : ∃ m, mayZ l = m := ⟨_, rfl⟩
  rw [hm] at CM CE HI HX
  clear hm
  obtain ⟨x, y, z⟩ := l
  unfold Lz.val at *
  simp only at HI CE HX
  go_enter Try.func17, Try.ntmps17
  go_wp2_with fail
  refine (CM.out _).mono ?_
  rintro e w1 ⟨rfl, hb1⟩
  have H1 := Lib.hid (B0.out.trans (hb1.mono B0.out.size))
  obtain ⟨_, z0, z1, z2⟩ := N0.out.below hb1
  clear hb1
  cases m
  · go_wp2_with fail
    go_ret
    exact ⟨by rw [HX.out]; rfl, H1.out⟩
  · obtain ⟨q1, q2⟩ := HI.out (by simp)
    clear HI
    go_wp2_with fail
    refine (CE.out (by simp) _).mono ?_
    rintro e w2 ⟨rfl, hb2⟩
    have H2 := Lib.hid (H1.out.trans (hb2.mono H1.out.size))
    clear hb2
    go_wp2_with fail
    all_goals
      go_ret
      refine ⟨?_, H2.out⟩
      rw [HX.out]
      refine congrArg (fun b => Ending.returned (Value.bool b)) ?_
      rw [Bool.not_true, Bool.false_or]
      refine decide_eq_decide.2 ?_
      unfold clampZ
      try unfold wrap64
      repeat' split
      all_goals omega
theorem refSafe_any (l : Lz) (n k : Int) (w : World) : Calls Try.prog 18 #[l.val, .int .i64 n, .int .i64 k] w fun e w' => e = .returned (.bool (safeZ l n k)) ∧ Below w.heap.size w w' := by
  have CM := Lib.hid (fun w => refMay_any l w)
  have B0 := Lib.hid (below_new w (.cells #[.int .i64 l.e, .int .i64 l.s, .int .i64 l.f] 23))
  have N0 := Lib.hid (BoxZ.new w l 23)
  have HI := Lib.hid (safe_bounds l)
  have HX := Lib.hid (show safeZ l n k = (!mayZ l || decide (l.s + l.f + clampZ k ≤ n)) from rfl)
  obtain ⟨m, hm⟩ : ∃ m, mayZ l = m := ⟨_, rfl⟩
  rw [hm] at CM HI HX
  clear hm
  obtain ⟨x, y, z⟩ := l
  unfold Lz.val at *
  simp only at HI HX
  go_enter Try.func18, Try.ntmps18
  go_wp2_with fail
  refine (CM.out _).mono ?_
  rintro e w1 ⟨rfl, hb1⟩
  have H1 := Lib.hid (B0.out.trans (hb1.mono B0.out.size))
  obtain ⟨_, z0, z1, z2⟩ := N0.out.below hb1
  clear hb1
  cases m
  · go_wp2_with fail
    go_ret
    exact ⟨by rw [HX.out]; rfl, H1.out⟩
  · obtain ⟨q1, q2⟩ := HI.out (by simp)
    have hwr : IntKind.i64.wrap (y + z) = y + z := IntWalk.i64_in _ (by omega)
    clear HI
    go_wp2_with fail
    all_goals
      go_ret
      refine ⟨?_, H1.out⟩
      rw [HX.out]
      refine congrArg (fun b => Ending.returned (Value.bool b)) ?_
      rw [Bool.not_true, Bool.false_or]
      refine decide_eq_decide.2 ?_
      unfold clampZ
      try unfold wrap64
      repeat' split
      all_goals omega
end Go.Proofs.Ytohomnfededglaa
