/-
  Layer weigh: which row may be.
-/
import Derived.Test.YticjgmhgpeihjaaGreatDoorWeMayB
import Derived.RegionTactic
import Derived.Deep.RegionWith
namespace Go.Proofs.YticjgmhgpeihjaaGreatDoor
open Go.RowKit Go.Gz Go.Sort

theorem row_take {w : World} {k : IntKind} {p : Option Addr} {xs : List Int} (h : Row w k p xs) (n : Nat) : Row w k p (xs.take n) := by
  rcases h with h | ⟨b, off, hp, hlt, hc⟩
  · exact Or.inl (by rw [h]; simp)
  · refine Or.inr ⟨b, off, hp, hlt, fun j hj => ?_⟩
    rw [List.length_take] at hj
    rw [hc j (by omega)]
    simp [List.getD, show j < n by omega]

/-- two boxes: a table, and a row. -/
abbrev boxTR (w : World) (lp : Option Addr) (ln lc : Nat) (rp : Option Addr) (rn rc : Nat) (top : Int) (sh : Bool) (op : Option Addr) (on oc : Nat) (tp : Option Addr) (tn tc : Nat) : World :=
  (w.alloc (.cells #[.slice lp ln lc, .slice rp rn rc, .int .i64 top, .bool sh] 25)).alloc (.cells #[.slice op on oc, .slice tp tn tc] 47)

set_option maxHeartbeats 4000000 in
set_option maxRecDepth 100000 in
theorem mayRow_walk (lp : Option Addr) (ln lc : Nat) (rp : Option Addr) (rn rc : Nat) (top : Int) (sh : Bool) (op : Option Addr) (on oc : Nat) (tp : Option Addr) (tn tc : Nat) (bw be bi : Bool) (fx : WR) (W : World)
    (hon : on ≤ oc)
    (hw : Hid (1 ≤ on → on ≤ 3 → ∀ w, Below W.heap.size W w → Calls Tryz.prog 64 #[.slice lp ln lc, .slice op on oc] w fun e w' => e = .returned (.bool bw) ∧ Below w.heap.size w w'))
    (he : Hid (tn ≤ 4 → ∀ w, Below W.heap.size W w → Calls Tryz.prog 65 #[.slice tp tn tc, .func (.func 66) #[] #[]] w fun e w' => e = .returned (.bool be) ∧ Below w.heap.size w w'))
    (hr : Hid (1 ≤ on → ∀ w, Below W.heap.size W w → Calls Tryz.prog 67 #[.slice rp rn rc, .slice op 1 oc] w (RetRow w fx bi))) :
    Calls Tryz.prog 46 #[.agg #[.slice lp ln lc, .slice rp rn rc, .int .i64 top, .bool sh], .agg #[.slice op on oc, .slice tp tn tc]] W fun e w' => e = .returned (.bool ((decide (1 ≤ on) && (decide (on ≤ 3) && bw)) && ((decide (tn ≤ 4) && !be) && bi))) ∧ Below W.heap.size W w' := by
  obtain ⟨bv, hbv⟩ : ∃ bv, ((decide (1 ≤ on) && (decide (on ≤ 3) && bw)) && ((decide (tn ≤ 4) && !be) && bi)) = bv := ⟨_, rfl⟩
  rw [hbv]
  have HV := Lib.hid hbv; clear hbv
  obtain ⟨wb, hwb⟩ : ∃ wb, wb = boxTR W lp ln lc rp rn rc top sh op on oc tp tn tc := ⟨_, rfl⟩
  have hb0 := Lib.hid (show Below W.heap.size W wb from hwb ▸ ((Below.refl _ _).alloc (Nat.le_refl _) _).alloc (by simp) _)
  have hs0 : wb.heap.size = W.heap.size + 1 + 1 := by rw [hwb]; simp
  have c0 : wb.cell? ⟨W.heap.size, 0, none⟩ = some (.slice lp ln lc) := by rw [hwb]; simp [boxTR]
  have c1 : wb.cell? ⟨W.heap.size, 1, none⟩ = some (.slice rp rn rc) := by rw [hwb]; simp [boxTR]
  have d0 : wb.cell? ⟨W.heap.size + 1, 0, none⟩ = some (.slice op on oc) := by rw [hwb]; simp [boxTR]
  have d1 : wb.cell? ⟨W.heap.size + 1, 1, none⟩ = some (.slice tp tn tc) := by rw [hwb]; simp [boxTR]
  have HW := Lib.hid hwb; clear hwb
  have H0 := Lib.hid hs0; clear hs0
  have C0 := Lib.hid c0
  have C1 := Lib.hid c1
  have D0 := Lib.hid d0
  have D1 := Lib.hid d1
  clear c0 c1 d0 d1
  by_cases h1 : 1 ≤ on
  · have h1z : (1 : Int) ≤ (on : Int) := by omega
    have h1b : decide ((on : Int) < 1) = false := decide_eq_false (by omega)
    by_cases h3 : on ≤ 3
    · have h3z : (on : Int) ≤ 3 := by omega
      have h3b : decide (3 < (on : Int)) = false := decide_eq_false (by omega)
      have hww := Lib.hid (hw.out h1 h3 wb hb0.out)
      have HR := Lib.hid (hr.out h1)
      have H3 := Lib.hid h3; clear h3
      have H1 := Lib.hid h1; clear h1
      clear hw hr
      go_enter Tryz.func46, Tryz.ntmps46
      have c0 := C0.out
      have d0 := D0.out
      rw [HW.out] at c0 d0
      go_wp2_with fail
      rw [show (W.alloc _).alloc _ = wb from HW.out.symm]
      refine hww.out.mono ?_
      rintro e w1 ⟨rfl, hb1⟩
      clear c0 d0
      have hs1 := hb1.size
      have c1' : w1.cell? ⟨W.heap.size, 1, none⟩ = some (.slice rp rn rc) := by rw [hb1.cell (p := ⟨W.heap.size, 1, none⟩) (by rw [H0.out]; show W.heap.size < _; omega)]; exact C1.out
      have d0' : w1.cell? ⟨W.heap.size + 1, 0, none⟩ = some (.slice op on oc) := by rw [hb1.cell (p := ⟨W.heap.size + 1, 0, none⟩) (by rw [H0.out]; show W.heap.size + 1 < _; omega)]; exact D0.out
      have d1' : w1.cell? ⟨W.heap.size + 1, 1, none⟩ = some (.slice tp tn tc) := by rw [hb1.cell (p := ⟨W.heap.size + 1, 1, none⟩) (by rw [H0.out]; show W.heap.size + 1 < _; omega)]; exact D1.out
      have HB1 := Lib.hid (hb0.out.trans (hb1.mono hb0.out.size))
      rw [H0.out] at hs1
      clear hb1
      cases bw with
      | false =>
        have e0 := Lib.hid (show bv = false by rw [← HV.out]; simp)
        go_wp2_with fail
        go_ret
        exact ⟨by rw [e0.out]; rfl, HB1.out⟩
      | true =>
        by_cases h4 : tn ≤ 4
        · have h4z : (tn : Int) ≤ 4 := by omega
          have h4b : decide (4 < (tn : Int)) = false := decide_eq_false (by omega)
          have HE := Lib.hid (he.out h4 w1 HB1.out)
          have H4 := Lib.hid h4; clear h4
          clear he
          go_wp2_with fail
          refine HE.out.mono ?_
          rintro e w2 ⟨rfl, hb2⟩
          have hs2 := hb2.size
          have c1'' : w2.cell? ⟨W.heap.size, 1, none⟩ = some (.slice rp rn rc) := by rw [hb2.cell (p := ⟨W.heap.size, 1, none⟩) (by show W.heap.size < _; omega)]; exact c1'
          have d0'' : w2.cell? ⟨W.heap.size + 1, 0, none⟩ = some (.slice op on oc) := by rw [hb2.cell (p := ⟨W.heap.size + 1, 0, none⟩) (by show W.heap.size + 1 < _; omega)]; exact d0'
          have HB2 := Lib.hid (HB1.out.trans (hb2.mono HB1.out.size))
          clear hb2 c1' d0' d1' HE
          cases be with
          | true =>
            have e0 := Lib.hid (show bv = false by rw [← HV.out]; simp)
            go_wp2_with fail
            go_ret
            exact ⟨by rw [e0.out]; rfl, HB2.out⟩
          | false =>
            have e0 := Lib.hid (show bv = bi by rw [← HV.out]; simp [H1.out, H3.out, H4.out])
            have HB2d := Lib.hid HB2.out.drew
            have a1 : (w2.alloc (.cells #[.slice none 0 0, .slice none 0 0] 47)).cell? ⟨W.heap.size, 1, none⟩ = some (.slice rp rn rc) := by rw [World.cell?_alloc_lt _ _ ⟨W.heap.size, 1, none⟩ (by show W.heap.size < _; omega)]; exact c1''
            have a0 : (w2.alloc (.cells #[.slice none 0 0, .slice none 0 0] 47)).cell? ⟨W.heap.size + 1, 0, none⟩ = some (.slice op on oc) := by rw [World.cell?_alloc_lt _ _ ⟨W.heap.size + 1, 0, none⟩ (by show W.heap.size + 1 < _; omega)]; exact d0''
            have HB2a := Lib.hid (HB2.out.alloc (by omega) (.cells #[.slice none 0 0, .slice none 0 0] 47)).drew
            have hon1 : (1 : Int) ≤ (oc : Int) := by have := H1.out; omega
            go_wp2_with fail
            go_region_with (go_at_call 67; first | (refine (HR.out _ HB2d.out).mono ?_; rintro e w3 ⟨rfl, hb3, _⟩) | (refine (HR.out _ HB2a.out).mono ?_; rintro e w3 ⟨rfl, hb3, _⟩; have q0 : w3.cell? ⟨w2.heap.size, 0, none⟩ = some (.slice none 0 0) := by {rw [hb3.cell (p := ⟨w2.heap.size, 0, none⟩) (by simp)]; simp}; have q1 : w3.cell? ⟨w2.heap.size, 1, none⟩ = some (.slice none 0 0) := by {rw [hb3.cell (p := ⟨w2.heap.size, 1, none⟩) (by simp)]; simp}; have q2 : w3.frozen? ⟨w2.heap.size, 0, none⟩ = false := by {rw [hb3.frozen (p := ⟨w2.heap.size, 0, none⟩) (by simp)]; simp}; have q3 : w3.frozen? ⟨w2.heap.size, 1, none⟩ = false := by {rw [hb3.frozen (p := ⟨w2.heap.size, 1, none⟩) (by simp)]; simp}))
            all_goals go_wp2_with fail
            all_goals go_ret
            all_goals refine ⟨by rw [e0.out]; rfl, ?_⟩
            all_goals first
              | exact (HB2d.out.trans (hb3.mono HB2d.out.size)).alloc (HB2d.out.trans (hb3.mono HB2d.out.size)).size _
              | exact ((HB2a.out.trans (hb3.mono HB2a.out.size)).setCell (p := ⟨w2.heap.size, 0, none⟩) HB2.out.size _).setCell (p := ⟨w2.heap.size, 1, none⟩) HB2.out.size _
        · have h4b : (4 : Int) < (tn : Int) := by omega
          have H4 := Lib.hid h4; clear h4 he
          have e0 := Lib.hid (show bv = false by rw [← HV.out]; simp [H4.out])
          go_wp2_with fail
          go_ret
          exact ⟨by rw [e0.out]; rfl, HB1.out⟩
    · have h3b : 3 < (on : Int) := by omega
      have H3 := Lib.hid h3; clear h3 hw he hr
      have e0 := Lib.hid (show bv = false by rw [← HV.out]; simp [H3.out])
      go_enter Tryz.func46, Tryz.ntmps46
      go_wp2_with fail
      go_ret
      exact ⟨by rw [e0.out]; rfl, by have := hb0.out; rw [HW.out] at this; exact this⟩
  · have h1b : (on : Int) < 1 := by omega
    have H1 := Lib.hid h1; clear h1 hw he hr
    have e0 := Lib.hid (show bv = false by rw [← HV.out]; simp [H1.out])
    go_enter Tryz.func46, Tryz.ntmps46
    go_wp2_with fail
    go_ret
    exact ⟨by rw [e0.out]; rfl, by have := hb0.out; rw [HW.out] at this; exact this⟩
set_option maxRecDepth 100000 in
theorem mayRow_any (T : TB) (hm : mayB T.ls = true) (hr : RisingW T.rs) (x : WR) (W : World) (hT : TableAt W T) (hx : RowAt W x) (hof : x.of.length ≤ 9223372036854775807) (hto : x.to.length ≤ 9223372036854775807) :
    Calls Tryz.prog 46 #[.agg #[.slice T.lp T.ls.length T.lc, .slice T.rp T.rs.length T.rc, .int .i64 T.top, .bool T.sh], .agg #[.slice x.op x.of.length x.oc, .slice x.tp x.to.length x.tc]] W fun e w' => e = .returned (.bool (mayRowB T.ls T.rs x)) ∧ Below W.heap.size W w' := by
  unfold mayRowB
  refine mayRow_walk _ _ _ _ _ _ _ _ _ _ _ _ _ _ _ _ _ (fndL T.rs (x.of.take 1)) W hx.1.2.1 (Lib.hid fun _ h3 w hb => whole_any T.ls hm T.lp T.lc x.of x.op x.oc w (hT.lore.below hb) (hx.1.1.below hb) hT.few.1 (by omega)) (Lib.hid fun _ w hb => containsEls 66 #[] egEl elNotB x.tp x.tc x.to w (hx.2.1.below hb) (by omega) fun y w1 hb1 => (elNot_any y w1).mono fun _ _ h => ⟨h.1, hb1.trans (h.2.mono hb1.size)⟩) (Lib.hid fun h1 w hb => ?_)
  have hlen : (x.of.take 1).length = 1 := by rw [List.length_take]; omega
  have := rowOf_any T.rs hr T.rp T.rc (x.of.take 1) x.op x.oc w (hT.rows.below hb) (row_take (hx.1.1.below hb) 1) hT.few.2.1 (by rw [hlen]; decide) fun y hy => (hT.few.2.2 y hy).1
  rw [hlen] at this
  exact this
end Go.Proofs.YticjgmhgpeihjaaGreatDoor
