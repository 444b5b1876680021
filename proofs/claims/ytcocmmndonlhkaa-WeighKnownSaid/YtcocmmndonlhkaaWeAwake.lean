/-
  Layer weigh: a table that is written out; the document's example.
-/
import Derived.Test.YtcocmmndonlhkaaWeEq
import Derived.Test.YtcocmmndonlhkaaWeLit
namespace Go.Proofs.Ytcocmmndonlhkaa
open Go.RowKit Go.Gz Go.Sort

/-- the world behind the example's literals. -/
def awO (w : World) : Array Obj := #[.cells #[.int .i32 97] 21, .cells #[.int .i64 1, .int .i64 1, .int .i64 1] 25, .cells #[.slice (some ⟨w.heap.size, 0, none⟩) 1 1, .slice (some ⟨w.heap.size + 1, 0, none⟩) 1 1] 32, .cells #[.slice none 0 0, .slice (some ⟨w.heap.size + 1 + 1, 0, none⟩) 1 1, .int .i64 0, .bool false] 35, .cells #[.int .i32 97, .int .i32 98] 21]
def awW (w : World) : World := grow w (awO w)
theorem awW_eq (w : World) : (((((w.alloc (.cells #[.int .i32 97] 21)).alloc (.cells #[.int .i64 1, .int .i64 1, .int .i64 1] 25)).alloc (.cells #[.slice (some ⟨w.heap.size, 0, none⟩) 1 1, .slice (some ⟨w.heap.size + 1, 0, none⟩) 1 1] 32)).alloc (.cells #[.slice none 0 0, .slice (some ⟨w.heap.size + 1 + 1, 0, none⟩) 1 1, .int .i64 0, .bool false] 35)).alloc (.cells #[.int .i32 97, .int .i32 98] 21)) = awW w := by
  simp only [alloc_eq_grow, grow_grow]
  rfl
theorem awW_at (w : World) (k : Nat) : (awW w).heap[w.heap.size + k]? = (awO w)[k]? := by
  unfold awW grow
  rw [Array.getElem?_append_right (by omega), Nat.add_sub_cancel_left]
def awR (h : Nat) : WR := ⟨some ⟨h, 0, none⟩, [97], 1, some ⟨h + 1, 0, none⟩, [⟨1, 1, 1⟩], 1⟩
def awT (h : Nat) : TB := ⟨none, [], 0, some ⟨h + 1 + 1, 0, none⟩, [awR h], 1, 0, false⟩
theorem awT_may (h : Nat) : mayWB (awT h).ls (awT h).rs (awT h).top = true := by kernel_rfl
theorem awT_elem (h : Nat) : elemL (awT h).ls (awT h).rs [97, 98] = [⟨1, 1, 1⟩, ⟨64000, 32, 2⟩, ⟨60099, 0, 0⟩] := by kernel_rfl
theorem awT_at (w : World) : TableAt (awW w) (awT w.heap.size) := by
  refine ⟨Or.inl rfl, wrs_lit _ _ 32 (0, 0) _ (by rw [Nat.add_assoc, awW_at]; rfl) fun x hx => ?_, by simp [awT], by simp [awT], fun x hx => ?_⟩
  · obtain rfl : x = awR w.heap.size := by simpa [awT] using hx
    exact ⟨⟨row_heap _ _ _ 21 (0, 0) _ (by have := awW_at w 0; rw [Nat.add_zero] at this; rw [this]; rfl), Nat.le_refl 1, fun h => by cases h⟩, ⟨els_lit _ _ 25 (0, 0) _ (by rw [awW_at]; rfl), Nat.le_refl 1, fun h => by cases h⟩⟩
  · obtain rfl : x = awR w.heap.size := by simpa [awT] using hx
    exact ⟨by simp [awR], by simp [awR]⟩
theorem impl98 (w : World) : Calls Try.prog 6 #[.int .i32 98] w fun e w' => e = .returned (.agg #[.int .i64 64000, .int .i64 32, .int .i64 2, .int .i64 60099, .int .i64 0, .int .i64 0]) ∧ Below w.heap.size w w' := impl_any 98 (by decide) (by decide) w
theorem refImpl98 (w : World) : Calls Try.prog 10 #[.int .i32 98] w fun e w' => e = .returned (.agg #[.int .i64 64000, .int .i64 32, .int .i64 2, .int .i64 60099, .int .i64 0, .int .i64 0]) ∧ Below w.heap.size w w' := refImpl_any 98 (by decide) (by decide) w

set_option maxHeartbeats 4000000 in
set_option maxRecDepth 100000 in
theorem awake_true (W : World) : Calls Try.prog 4 #[] W fun e w' => e = .returned (.bool true) ∧ Below W.heap.size W w' := by
  have b1 := fun w : World => build_row (some ⟨W.heap.size, 0, none⟩) (some ⟨W.heap.size + 1, 0, none⟩) 1 1 1 1 w
  have b2 := fun w : World => build_tab1 (some ⟨W.heap.size + 1 + 1, 0, none⟩) 1 1 w
  have b3 := fun w : World => build_el3 1 1 1 w
  go_enter Try.func4, Try.ntmps4
  go_wp2_with fail
  rw [awW_eq]
  have hT := Lib.hid (awT_at W)
  have hbw := Lib.hid (show Below W.heap.size W (awW W) from grow_below W 0 _)
  have hsw : (awW W).heap.size = W.heap.size + 5 := by unfold awW; rw [size_grow]; rfl
  have hcl : ∀ k v, (match (awO W)[3]? with | some (Obj.cells c _ _) => c[k]? | _ => none) = some v → (awW W).cell? ⟨W.heap.size + 1 + 1 + 1, k, none⟩ = some v := fun k v h => by
    have e := awW_at W 3
    rw [show W.heap.size + 3 = W.heap.size + 1 + 1 + 1 by omega] at e
    unfold World.cell?
    rw [e]
    exact h
  have k0 := hcl 0 _ rfl
  have k1 := hcl 1 _ rfl
  have k2 := hcl 2 _ rfl
  have k3 := hcl 3 _ rfl
  have hrow := row_heap (awW W) .i32 (W.heap.size + 1 + 1 + 1 + 1) 21 (0, 0) [97, 98] (by rw [show W.heap.size + 1 + 1 + 1 + 1 = W.heap.size + 4 by omega, awW_at]; rfl)
  have hel := Lib.hid (elements_ok (awT W.heap.size) (awT_may _) [97, 98] (by decide) (some ⟨W.heap.size + 1 + 1 + 1 + 1, 0, none⟩) 2 (awW W) hT.out hrow (by decide))
  rw [awT_elem] at hel
  have hma := Lib.hid (fun w hb => mayW_any (awT W.heap.size) w (hT.out.below hb))
  rw [awT_may] at hma
  clear hcl hrow b1 b2
  generalize awW W = w0 at *
  refine hel.out.mono ?_
  rintro e w1 ⟨v, rfl, hb1, hown1⟩
  obtain ⟨p, c, rfl, _, _, hels⟩ := OwnE.row hown1
  have HELS := Lib.hid hels
  have hs1 := hb1.size
  have l0 := cell_below hb1 k0 (by show W.heap.size + 1 + 1 + 1 < _; omega)
  have l1 := cell_below hb1 k1 (by show W.heap.size + 1 + 1 + 1 < _; omega)
  have l2 := cell_below hb1 k2 (by show W.heap.size + 1 + 1 + 1 < _; omega)
  have l3 := cell_below hb1 k3 (by show W.heap.size + 1 + 1 + 1 < _; omega)
  have HB1 := Lib.hid hb1
  clear hb1 hown1 hels k0 k1 k2 k3 hel
  go_wp2_with fail
  refine (impl98 w1).mono ?_
  rintro e w2 ⟨rfl, hb2⟩
  have hs2 := hb2.size
  have m0 := cell_alloc (.cells #[.int .i64 64000, .int .i64 32, .int .i64 2, .int .i64 60099, .int .i64 0, .int .i64 0] 37) (cell_below hb2 l0 (by show W.heap.size + 1 + 1 + 1 < _; omega)) (by show W.heap.size + 1 + 1 + 1 < _; omega)
  have m1 := cell_alloc (.cells #[.int .i64 64000, .int .i64 32, .int .i64 2, .int .i64 60099, .int .i64 0, .int .i64 0] 37) (cell_below hb2 l1 (by show W.heap.size + 1 + 1 + 1 < _; omega)) (by show W.heap.size + 1 + 1 + 1 < _; omega)
  have m2 := cell_alloc (.cells #[.int .i64 64000, .int .i64 32, .int .i64 2, .int .i64 60099, .int .i64 0, .int .i64 0] 37) (cell_below hb2 l2 (by show W.heap.size + 1 + 1 + 1 < _; omega)) (by show W.heap.size + 1 + 1 + 1 < _; omega)
  have m3 := cell_alloc (.cells #[.int .i64 64000, .int .i64 32, .int .i64 2, .int .i64 60099, .int .i64 0, .int .i64 0] 37) (cell_below hb2 l3 (by show W.heap.size + 1 + 1 + 1 < _; omega)) (by show W.heap.size + 1 + 1 + 1 < _; omega)
  have HB12 := Lib.hid (hb2.alloc hs2 (.cells #[.int .i64 64000, .int .i64 32, .int .i64 2, .int .i64 60099, .int .i64 0, .int .i64 0] 37))
  have HB2 := Lib.hid (HB1.out.trans (HB12.out.mono hs1))
  have HELS2 := Lib.hid (HELS.out.below HB12.out)
  clear hb2 l0 l1 l2 l3
  have mx := mixedL
  go_wp2_with fail
  obtain ⟨w3, hw3⟩ : ∃ w3, w2.alloc (.cells #[.int .i64 64000, .int .i64 32, .int .i64 2, .int .i64 60099, .int .i64 0, .int .i64 0] 37) = w3 := ⟨_, rfl⟩
  rw [hw3] at m0 m1 m2 m3 HB12 HB2 HELS2 ⊢
  have n0 : w3.cell? ⟨w2.heap.size, 0, none⟩ = some (.int .i64 64000) := by rw [← hw3, World.cell?_alloc_new]; rfl
  have n1 : w3.cell? ⟨w2.heap.size, 1, none⟩ = some (.int .i64 32) := by rw [← hw3, World.cell?_alloc_new]; rfl
  have n2 : w3.cell? ⟨w2.heap.size, 2, none⟩ = some (.int .i64 2) := by rw [← hw3, World.cell?_alloc_new]; rfl
  have n3 : w3.cell? ⟨w2.heap.size, 3, none⟩ = some (.int .i64 60099) := by rw [← hw3, World.cell?_alloc_new]; rfl
  have n4 : w3.cell? ⟨w2.heap.size, 4, none⟩ = some (.int .i64 0) := by rw [← hw3, World.cell?_alloc_new]; rfl
  have n5 : w3.cell? ⟨w2.heap.size, 5, none⟩ = some (.int .i64 0) := by rw [← hw3, World.cell?_alloc_new]; rfl
  have hs3 : w2.heap.size < w3.heap.size := by rw [← hw3]; simp
  clear hw3 HB12
  have hmay := Lib.hid (hma.out w3.drew HB2.out.drew)
  clear hma b3
  have q46 := fun w : World => eq_arr 64000 32 2 60099 0 0 64000 32 2 60099 0 0 w
  go_region_with (first
    | (go_at_call 9; refine hmay.out.mono ?_; rintro e w4 ⟨rfl, hb4⟩; have o0 := cell_below hb4 n0 hs3; have o1 := cell_below hb4 n1 hs3; have o2 := cell_below hb4 n2 hs3; have o3 := cell_below hb4 n3 hs3; have o4 := cell_below hb4 n4 hs3; have o5 := cell_below hb4 n5 hs3; have HB4 := Lib.hid (HB2.out.drew.trans (hb4.mono HB2.out.size)); have hs4 := hb4.size; have HE4 := Lib.hid (HELS2.out.below ((Below.refl _ _).drew.trans hb4) |>.below ((Below.refl _ _).alloc (Nat.le_refl _) (.cells #[.int .i64 1, .int .i64 1, .int .i64 1, .int .i64 64000, .int .i64 32, .int .i64 2, .int .i64 60099, .int .i64 0, .int .i64 0] 25))); have HN4 := Lib.hid (els_lit (w4.alloc (.cells #[.int .i64 1, .int .i64 1, .int .i64 1, .int .i64 64000, .int .i64 32, .int .i64 2, .int .i64 60099, .int .i64 0, .int .i64 0] 25)) w4.heap.size 25 (0, 0) [⟨1, 1, 1⟩, ⟨64000, 32, 2⟩, ⟨60099, 0, 0⟩] (heap_new _ _)); clear hb4)
    | (go_at_call 8; refine (sameE_yes [⟨1, 1, 1⟩, ⟨64000, 32, 2⟩, ⟨60099, 0, 0⟩] p (some ⟨w4.heap.size, 0, none⟩) c 3 _ (by decide) HE4.out HN4.out).mono ?_; rintro e w5 ⟨rfl, hb5⟩; have hb45 : Below w4.heap.size w4 w5 := ((Below.refl _ _).alloc (Nat.le_refl _) _).trans (hb5.mono (by simp)); have r0 := cell_below hb45 o0 (Nat.lt_of_lt_of_le hs3 hs4); have r1 := cell_below hb45 o1 (Nat.lt_of_lt_of_le hs3 hs4); have r2 := cell_below hb45 o2 (Nat.lt_of_lt_of_le hs3 hs4); have r3 := cell_below hb45 o3 (Nat.lt_of_lt_of_le hs3 hs4); have r4 := cell_below hb45 o4 (Nat.lt_of_lt_of_le hs3 hs4); have r5 := cell_below hb45 o5 (Nat.lt_of_lt_of_le hs3 hs4); have hs5 : w2.heap.size < w5.heap.size := Nat.lt_of_lt_of_le (Nat.lt_of_lt_of_le hs3 hs4) hb45.size; have HB5 := Lib.hid (HB4.out.trans (hb45.mono HB4.out.size)); clear hb5 hb45)
    | (go_at_call 10; refine (refImpl98 _).mono ?_; rintro e w6 ⟨rfl, hb6⟩; have s0 := cell_below hb6 r0 hs5; have s1 := cell_below hb6 r1 hs5; have s2 := cell_below hb6 r2 hs5; have s3 := cell_below hb6 r3 hs5; have s4 := cell_below hb6 r4 hs5; have s5 := cell_below hb6 r5 hs5; have HB6 := Lib.hid (HB5.out.trans (hb6.mono HB5.out.size)); clear hb6))
  all_goals go_wp2_with fail
  all_goals go_ret
  all_goals first
    | exact ⟨rfl, hbw.out.trans (HB6.out.mono (by omega))⟩
    | exact ⟨by simp, hbw.out.trans (HB6.out.mono (by omega))⟩
end Go.Proofs.Ytcocmmndonlhkaa
