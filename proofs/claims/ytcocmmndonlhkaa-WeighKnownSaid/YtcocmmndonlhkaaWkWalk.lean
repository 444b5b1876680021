/-
  WeighKnown: the walk.
-/
import Derived.Test.YtcocmmndonlhkaaWkW
import Derived.Test.YtcocmmndonlhkaaWkI
import Derived.Deep.RegionHeld3
namespace Go.Proofs.Ytcocmmndonlhkaa
open Go.RowKit Go.Gz Go.Sort

set_option maxHeartbeats 8000000 in
set_option maxRecDepth 100000 in
theorem wknown_walk (W : World) : Calls Try.prog 3 #[] W fun e w' => e = .returned (.bool true) ∧ Below W.heap.size W w' := by
  have C0 := Lib.hid (awake_true W)
  have b1 := fun (a b : Int) (w : World) => build_lore01 a b w
  have b4 := fun (a b : Int) (w : World) => build_elK a b w
  have br := build_row
  have bt := build_tabL
  go_enter Try.func3, Try.ntmps3
  go_wp2_with fail
  refine C0.out.mono ?_
  rintro e w1 ⟨rfl, hb1⟩
  have HB1 := Lib.hid hb1
  clear hb1 C0
  go_wp2_with fail
  refine (one_any _ _).mono ?_
  rintro e w' ⟨rfl, rfl⟩
  go_wp2_with fail
  refine (one_any _ _).mono ?_
  rintro e w' ⟨rfl, rfl⟩
  go_wp2_with fail
  refine (one_any _ _).mono ?_
  rintro e w' ⟨rfl, rfl⟩
  go_wp2_with fail
  refine (one_any _ _).mono ?_
  rintro e w' ⟨rfl, rfl⟩
  go_wp2_with fail
  simp only [alloc_eq_grow, grow_grow]
  generalize hw2 : grow w1 _ = w2
  have hk : wkW w1 = w2 := by rw [← hw2]; rfl
  have HT := Lib.hid (show TabIn w2 (wkT w1.heap.size) from hk ▸ wkT_at w1)
  have HX := Lib.hid (show BoxAt w2 (w1.heap.size + 16) (wkT w1.heap.size) from hk ▸ wkB_at w1)
  have HI := Lib.hid (show TxtsAt w2 (w1.heap.size + 23) w1.heap.size from hk ▸ wkX_at w1)
  have HB2 := Lib.hid (HB1.out.trans ((show Below w1.heap.size w1 w2 from hk ▸ grow_below w1 0 _).mono HB1.out.size))
  clear hw2 hk
  have ex : w1.heap.size + 1 + 1 + 1 + 1 + 1 + 1 + 1 + 1 + 1 + 1 + 1 + 1 + 1 + 1 + 1 + 1 = w1.heap.size + 16 := rfl
  have ei : w1.heap.size + 16 + 1 + 1 + 1 + 1 + 1 + 1 + 1 = w1.heap.size + 23 := rfl
  rw [ex, ei]
  clear ex ei
  generalize w1.heap.size + 16 = x at HX ⊢
  generalize w1.heap.size + 23 = g at HI ⊢
  generalize w1.heap.size = h at HI HX HT ⊢
  refine (impl_any 122 (by decide) (by decide) w2).mono ?_
  rintro e w3 ⟨rfl, hb3⟩
  have HB3 := Lib.hid hb3
  clear hb3
  have iv : implV 122 = .agg #[.int .i64 64000, .int .i64 32, .int .i64 2, .int .i64 60123, .int .i64 0, .int .i64 0] := rfl
  rw [iv]
  go_upto_region 7 with fail
  obtain ⟨hb, hhb⟩ : ∃ hb, w3.heap.size = hb := ⟨_, rfl⟩
  generalize hwq : World.alloc w3 _ = wq
  have hbq : hb < wq.heap.size := by rw [← hwq, ← hhb]; simp
  have q0 : wq.cell? ⟨hb, 0, none⟩ = some (.int .i64 64000) := by rw [← hwq, ← hhb]; simp
  have q1 : wq.cell? ⟨hb, 1, none⟩ = some (.int .i64 32) := by rw [← hwq, ← hhb]; simp
  have q2 : wq.cell? ⟨hb, 2, none⟩ = some (.int .i64 2) := by rw [← hwq, ← hhb]; simp
  have q3 : wq.cell? ⟨hb, 3, none⟩ = some (.int .i64 60123) := by rw [← hwq, ← hhb]; simp
  have q4 : wq.cell? ⟨hb, 4, none⟩ = some (.int .i64 0) := by rw [← hwq, ← hhb]; simp
  have q5 : wq.cell? ⟨hb, 5, none⟩ = some (.int .i64 0) := by rw [← hwq, ← hhb]; simp
  have HBq := Lib.hid (HB3.out.trans (show Below w2.heap.size w3 wq from hwq ▸ (Below.refl _ _).alloc HB3.out.size _))
  rw [hhb]
  clear hwq hhb iv
  have mx : Try.prog.follows .mixedOrders = true := by kernel_rfl
  refine wp_region_invC mx (by kernel_rfl) (WkI wq (wkV hb)) (fun vals => WkI.start wq _ vals) ?_ ?_
  · intro ix ox L vals w hi hL hdep hC hI
    have hlt29 : ix < 29 := by
      have := (List.getElem?_eq_some_iff.1 hi).1
      simpa using this
    generalize hA : frA _ _ L vals = a
    have h1 : a.tmps.getD 1 undef = .func (.func 5) #[] #[] := by rw [← hA, frA_base (by kernel_rfl)]; rfl
    have h4 : a.tmps.getD 4 undef = .pointer (some ⟨hb, 0, none⟩) := by rw [← hA, frA_base (by kernel_rfl)]; rfl
    have hD := Lib.hid (fun k t (hk : L k = true) (ht : dstOf _ k = some t) => hA ▸ frA_done (by kernel_rfl) (vals := vals) hk ht)
    clear hA
    have hsw := hI.bel.size
    have c0 : w.cell? ⟨hb, 0, none⟩ = some (.int .i64 64000) := cell_below hI.bel q0 hbq
    have c1 : w.cell? ⟨hb, 1, none⟩ = some (.int .i64 32) := cell_below hI.bel q1 hbq
    have c2 : w.cell? ⟨hb, 2, none⟩ = some (.int .i64 2) := cell_below hI.bel q2 hbq
    have c3 : w.cell? ⟨hb, 3, none⟩ = some (.int .i64 60123) := cell_below hI.bel q3 hbq
    have c4 : w.cell? ⟨hb, 4, none⟩ = some (.int .i64 0) := cell_below hI.bel q4 hbq
    have c5 : w.cell? ⟨hb, 5, none⟩ = some (.int .i64 0) := cell_below hI.bel q5 hbq
    have d0 : L 1 = true → L 0 = true := fun h => hC 1 _ rfl h ⟨0, .data⟩ (by simp) rfl
    have d1 : L 27 = true → L 1 = true := fun h => hC 27 _ rfl h ⟨1, .data⟩ (by simp) rfl
    have d2 : L 3 = true → L 2 = true := fun h => hC 3 _ rfl h ⟨2, .data⟩ (by simp) rfl
    have d3 : L 6 = true → L 3 = true := fun h => hC 6 _ rfl h ⟨3, .data⟩ (by simp) rfl
    have d4 : L 5 = true → L 4 = true := fun h => hC 5 _ rfl h ⟨4, .data⟩ (by simp) rfl
    have d5 : L 6 = true → L 5 = true := fun h => hC 6 _ rfl h ⟨5, .data⟩ (by simp) rfl
    have d6 : L 27 = true → L 6 = true := fun h => hC 27 _ rfl h ⟨6, .data⟩ (by simp) rfl
    have d7 : L 8 = true → L 7 = true := fun h => hC 8 _ rfl h ⟨7, .data⟩ (by simp) rfl
    have d8 : L 12 = true → L 8 = true := fun h => hC 12 _ rfl h ⟨8, .data⟩ (by simp) rfl
    have d9 : L 11 = true → L 9 = true := fun h => hC 11 _ rfl h ⟨9, .data⟩ (by simp) rfl
    have d10 : L 11 = true → L 10 = true := fun h => hC 11 _ rfl h ⟨10, .data⟩ (by simp) rfl
    have d11 : L 12 = true → L 11 = true := fun h => hC 12 _ rfl h ⟨11, .data⟩ (by simp) rfl
    have d12 : L 27 = true → L 12 = true := fun h => hC 27 _ rfl h ⟨12, .data⟩ (by simp) rfl
    have d13 : L 14 = true → L 13 = true := fun h => hC 14 _ rfl h ⟨13, .data⟩ (by simp) rfl
    have d14 : L 17 = true → L 14 = true := fun h => hC 17 _ rfl h ⟨14, .data⟩ (by simp) rfl
    have d15 : L 16 = true → L 15 = true := fun h => hC 16 _ rfl h ⟨15, .data⟩ (by simp) rfl
    have d16 : L 17 = true → L 16 = true := fun h => hC 17 _ rfl h ⟨16, .data⟩ (by simp) rfl
    have d17 : L 20 = true → L 17 = true := fun h => hC 20 _ rfl h ⟨17, .data⟩ (by simp) rfl
    have d18 : L 19 = true → L 18 = true := fun h => hC 19 _ rfl h ⟨18, .data⟩ (by simp) rfl
    have d19 : L 20 = true → L 19 = true := fun h => hC 20 _ rfl h ⟨19, .data⟩ (by simp) rfl
    have d20 : L 27 = true → L 20 = true := fun h => hC 27 _ rfl h ⟨20, .data⟩ (by simp) rfl
    have d21 : L 22 = true → L 21 = true := fun h => hC 22 _ rfl h ⟨21, .data⟩ (by simp) rfl
    have d22 : L 25 = true → L 22 = true := fun h => hC 25 _ rfl h ⟨22, .data⟩ (by simp) rfl
    have d23 : L 24 = true → L 23 = true := fun h => hC 24 _ rfl h ⟨23, .data⟩ (by simp) rfl
    have d24 : L 25 = true → L 24 = true := fun h => hC 25 _ rfl h ⟨24, .data⟩ (by simp) rfl
    have d25 : L 27 = true → L 25 = true := fun h => hC 27 _ rfl h ⟨25, .data⟩ (by simp) rfl
    have d26 : L 27 = true → L 26 = true := fun h => hC 27 _ rfl h ⟨26, .data⟩ (by simp) rfl
    have d27 : L 28 = true → L 27 = true := fun h => hC 28 _ rfl h ⟨27, .data⟩ (by simp) rfl
    clear hC
    obtain rfl | rfl | rfl | rfl | rfl | rfl | rfl | rfl | rfl | rfl | rfl | rfl | rfl | rfl | rfl | rfl | rfl | rfl | rfl | rfl | rfl | rfl | rfl | rfl | rfl | rfl | rfl | rfl | rfl : ix = 0 ∨ ix = 1 ∨ ix = 2 ∨ ix = 3 ∨ ix = 4 ∨ ix = 5 ∨ ix = 6 ∨ ix = 7 ∨ ix = 8 ∨ ix = 9 ∨ ix = 10 ∨ ix = 11 ∨ ix = 12 ∨ ix = 13 ∨ ix = 14 ∨ ix = 15 ∨ ix = 16 ∨ ix = 17 ∨ ix = 18 ∨ ix = 19 ∨ ix = 20 ∨ ix = 21 ∨ ix = 22 ∨ ix = 23 ∨ ix = 24 ∨ ix = 25 ∨ ix = 26 ∨ ix = 27 ∨ ix = 28 := by omega
    all_goals
      injection hi with hi
      subst hi
      simp [Region.binds] at hdep
    · have n1 : L 1 = false := falseOf d0 hL
      have n27 : L 27 = false := falseOf d1 n1
      have n28 : L 28 = false := falseOf d27 n27
      refine step_run rfl (v := .func (.func 5) #[] #[]) (w' := w) (by go_simp) ?_
      exact hI.value (i := 0) (by decide) rfl n27 n28
    · have n27 : L 27 = false := falseOf d1 hL
      have n28 : L 28 = false := falseOf d27 n27
      have e1 := hD.out 0 56 (by simp [hdep]) rfl
      rw [hI.val 0 (by decide) rfl (by simp [hdep])] at e1
      have e1' : a.tmps.getD 56 undef = .func (.func 5) #[] #[] := e1
      refine step_enter rfl (f := 5) (args := #[.int .i64 2]) (w' := w) (by clear e1; go_simp) ?_
      refine (one_any 2 w).mono ?_
      rintro e w' ⟨he, rfl⟩
      exact ⟨_, he, hI.row (i := 1) (by decide) rfl wkN_1 n27 n28 ((Below.refl _ _).alloc (Nat.le_refl _) _) (ownE_lit w wq.heap.size hsw [⟨2, 1, 1⟩] (by decide)) (fun _ hg => atNew hg)⟩
    · have n3 : L 3 = false := falseOf d2 hL
      have n6 : L 6 = false := falseOf d3 n3
      have n27 : L 27 = false := falseOf d6 n6
      have n28 : L 28 = false := falseOf d27 n27
      refine step_run rfl (v := .func (.func 5) #[] #[]) (w' := w) (by go_simp) ?_
      exact hI.value (i := 2) (by decide) rfl n27 n28
    · have n6 : L 6 = false := falseOf d3 hL
      have n27 : L 27 = false := falseOf d6 n6
      have n28 : L 28 = false := falseOf d27 n27
      have e1 := hD.out 2 58 (by simp [hdep]) rfl
      rw [hI.val 2 (by decide) rfl (by simp [hdep])] at e1
      have e1' : a.tmps.getD 58 undef = .func (.func 5) #[] #[] := e1
      refine step_enter rfl (f := 5) (args := #[.int .i64 3]) (w' := w) (by clear e1; go_simp) ?_
      refine (one_any 3 w).mono ?_
      rintro e w' ⟨he, rfl⟩
      exact ⟨_, he, hI.row (i := 3) (by decide) rfl wkN_3 n27 n28 ((Below.refl _ _).alloc (Nat.le_refl _) _) (ownE_lit w wq.heap.size hsw [⟨3, 1, 1⟩] (by decide)) (fun _ hg => atNew hg)⟩
    · have n5 : L 5 = false := falseOf d4 hL
      have n6 : L 6 = false := falseOf d5 n5
      have n27 : L 27 = false := falseOf d6 n6
      have n28 : L 28 = false := falseOf d27 n27
      refine step_run rfl (v := .agg #[.int .i64 0, .int .i64 7, .int .i64 1]) (w' := w) (by go_simp) ?_
      exact hI.value (i := 4) (by decide) rfl n27 n28
    · have n6 : L 6 = false := falseOf d5 hL
      have n27 : L 27 = false := falseOf d6 n6
      have n28 : L 28 = false := falseOf d27 n27
      have e0 := hD.out 4 60 (by simp [hdep]) rfl
      rw [hI.val 4 (by decide) rfl (by simp [hdep])] at e0
      have e0' : a.tmps[60]?.getD undef = .agg #[.int .i64 0, .int .i64 7, .int .i64 1] := by rw [← Array.getD_eq_getD_getElem?]; exact e0
      refine step_run rfl (v := .slice (some ⟨w.heap.size, 0, none⟩) 1 1) (w' := w.alloc (.cells #[.int .i64 0, .int .i64 7, .int .i64 1] 25)) (by go_simp) ?_
      exact hI.row (i := 5) (by decide) rfl wkN_5 n27 n28 ((Below.refl _ _).alloc (Nat.le_refl _) _) (ownE_lit w wq.heap.size hsw [⟨0, 7, 1⟩] (by decide)) (fun _ hg => atNew hg)
    · have n27 : L 27 = false := falseOf d6 hL
      have n28 : L 28 = false := falseOf d27 n27
      have e1 := hD.out 3 59 (by simp [hdep]) rfl
      have e2 := hD.out 5 61 (by simp [hdep]) rfl
      have l0 : wkLive L 3 = true := by simp [wkLive, wkRow, wkN, hdep, hL]
      have lx : wkLive L 5 = true := by simp [wkLive, wkRow, wkN, hdep]
      obtain ⟨p, c, f1, _, f2, f3⟩ := (hI.own 5 lx).row
      rw [f1] at e2
      refine stepI_app_el rfl _ _ rfl wq.heap.size (vals 3) [⟨3, 1, 1⟩] e1 (hI.own 3 l0) p c [⟨0, 7, 1⟩] e2 f3 f2 (by decide) hsw ?_
      intro v' w' hown hgr hat
      exact hI.app (i := 6) (r0 := 3) (by decide) rfl wkA_6 l0 n27 n28 hL hgr hown hat
    · have n8 : L 8 = false := falseOf d7 hL
      have n12 : L 12 = false := falseOf d8 n8
      have n27 : L 27 = false := falseOf d12 n12
      have n28 : L 28 = false := falseOf d27 n27
      refine step_run rfl (v := .func (.func 5) #[] #[]) (w' := w) (by go_simp) ?_
      exact hI.value (i := 7) (by decide) rfl n27 n28
    · have n12 : L 12 = false := falseOf d8 hL
      have n27 : L 27 = false := falseOf d12 n12
      have n28 : L 28 = false := falseOf d27 n27
      have e1 := hD.out 7 63 (by simp [hdep]) rfl
      rw [hI.val 7 (by decide) rfl (by simp [hdep])] at e1
      have e1' : a.tmps.getD 63 undef = .func (.func 5) #[] #[] := e1
      refine step_enter rfl (f := 5) (args := #[.int .i64 1]) (w' := w) (by clear e1; go_simp) ?_
      refine (one_any 1 w).mono ?_
      rintro e w' ⟨he, rfl⟩
      exact ⟨_, he, hI.row (i := 8) (by decide) rfl wkN_8 n27 n28 ((Below.refl _ _).alloc (Nat.le_refl _) _) (ownE_lit w wq.heap.size hsw [⟨1, 1, 1⟩] (by decide)) (fun _ hg => atNew hg)⟩
    · have n11 : L 11 = false := falseOf d9 hL
      have n12 : L 12 = false := falseOf d11 n11
      have n27 : L 27 = false := falseOf d12 n12
      have n28 : L 28 = false := falseOf d27 n27
      refine step_run rfl (v := .agg #[.int .i64 0, .int .i64 6, .int .i64 1]) (w' := w) (by go_simp) ?_
      exact hI.value (i := 9) (by decide) rfl n27 n28
    · have n11 : L 11 = false := falseOf d10 hL
      have n12 : L 12 = false := falseOf d11 n11
      have n27 : L 27 = false := falseOf d12 n12
      have n28 : L 28 = false := falseOf d27 n27
      refine step_run rfl (v := .agg #[.int .i64 0, .int .i64 5, .int .i64 1]) (w' := w) (by go_simp) ?_
      exact hI.value (i := 10) (by decide) rfl n27 n28
    · have n12 : L 12 = false := falseOf d11 hL
      have n27 : L 27 = false := falseOf d12 n12
      have n28 : L 28 = false := falseOf d27 n27
      have e0 := hD.out 9 65 (by simp [hdep]) rfl
      rw [hI.val 9 (by decide) rfl (by simp [hdep])] at e0
      have e0' : a.tmps[65]?.getD undef = .agg #[.int .i64 0, .int .i64 6, .int .i64 1] := by rw [← Array.getD_eq_getD_getElem?]; exact e0
      have e1 := hD.out 10 66 (by simp [hdep]) rfl
      rw [hI.val 10 (by decide) rfl (by simp [hdep])] at e1
      have e1' : a.tmps[66]?.getD undef = .agg #[.int .i64 0, .int .i64 5, .int .i64 1] := by rw [← Array.getD_eq_getD_getElem?]; exact e1
      refine step_run rfl (v := .slice (some ⟨w.heap.size, 0, none⟩) 2 2) (w' := w.alloc (.cells #[.int .i64 0, .int .i64 6, .int .i64 1, .int .i64 0, .int .i64 5, .int .i64 1] 25)) (by go_simp) ?_
      exact hI.row (i := 11) (by decide) rfl wkN_11 n27 n28 ((Below.refl _ _).alloc (Nat.le_refl _) _) (ownE_lit w wq.heap.size hsw [⟨0, 6, 1⟩, ⟨0, 5, 1⟩] (by decide)) (fun _ hg => atNew hg)
    · have n27 : L 27 = false := falseOf d12 hL
      have n28 : L 28 = false := falseOf d27 n27
      have e1 := hD.out 8 64 (by simp [hdep]) rfl
      have e2 := hD.out 11 67 (by simp [hdep]) rfl
      have l0 : wkLive L 8 = true := by simp [wkLive, wkRow, wkN, hdep, hL]
      have lx : wkLive L 11 = true := by simp [wkLive, wkRow, wkN, hdep]
      obtain ⟨p, c, f1, _, f2, f3⟩ := (hI.own 11 lx).row
      rw [f1] at e2
      refine stepI_app_el rfl _ _ rfl wq.heap.size (vals 8) [⟨1, 1, 1⟩] e1 (hI.own 8 l0) p c [⟨0, 6, 1⟩, ⟨0, 5, 1⟩] e2 f3 f2 (by decide) hsw ?_
      intro v' w' hown hgr hat
      exact hI.app (i := 12) (r0 := 8) (by decide) rfl wkA_12 l0 n27 n28 hL hgr hown hat
    · have n14 : L 14 = false := falseOf d13 hL
      have n17 : L 17 = false := falseOf d14 n14
      have n20 : L 20 = false := falseOf d17 n17
      have n27 : L 27 = false := falseOf d20 n20
      have n28 : L 28 = false := falseOf d27 n27
      refine step_run rfl (v := .func (.func 5) #[] #[]) (w' := w) (by go_simp) ?_
      exact hI.value (i := 13) (by decide) rfl n27 n28
    · have n17 : L 17 = false := falseOf d14 hL
      have n20 : L 20 = false := falseOf d17 n17
      have n27 : L 27 = false := falseOf d20 n20
      have n28 : L 28 = false := falseOf d27 n27
      have e1 := hD.out 13 69 (by simp [hdep]) rfl
      rw [hI.val 13 (by decide) rfl (by simp [hdep])] at e1
      have e1' : a.tmps.getD 69 undef = .func (.func 5) #[] #[] := e1
      refine step_enter rfl (f := 5) (args := #[.int .i64 1]) (w' := w) (by clear e1; go_simp) ?_
      refine (one_any 1 w).mono ?_
      rintro e w' ⟨he, rfl⟩
      exact ⟨_, he, hI.row (i := 14) (by decide) rfl wkN_14 n27 n28 ((Below.refl _ _).alloc (Nat.le_refl _) _) (ownE_lit w wq.heap.size hsw [⟨1, 1, 1⟩] (by decide)) (fun _ hg => atNew hg)⟩
    · have n16 : L 16 = false := falseOf d15 hL
      have n17 : L 17 = false := falseOf d16 n16
      have n20 : L 20 = false := falseOf d17 n17
      have n27 : L 27 = false := falseOf d20 n20
      have n28 : L 28 = false := falseOf d27 n27
      refine step_run rfl (v := .func (.func 5) #[] #[]) (w' := w) (by go_simp) ?_
      exact hI.value (i := 15) (by decide) rfl n27 n28
    · have n17 : L 17 = false := falseOf d16 hL
      have n20 : L 20 = false := falseOf d17 n17
      have n27 : L 27 = false := falseOf d20 n20
      have n28 : L 28 = false := falseOf d27 n27
      have e1 := hD.out 15 71 (by simp [hdep]) rfl
      rw [hI.val 15 (by decide) rfl (by simp [hdep])] at e1
      have e1' : a.tmps.getD 71 undef = .func (.func 5) #[] #[] := e1
      refine step_enter rfl (f := 5) (args := #[.int .i64 3]) (w' := w) (by clear e1; go_simp) ?_
      refine (one_any 3 w).mono ?_
      rintro e w' ⟨he, rfl⟩
      exact ⟨_, he, hI.row (i := 16) (by decide) rfl wkN_16 n27 n28 ((Below.refl _ _).alloc (Nat.le_refl _) _) (ownE_lit w wq.heap.size hsw [⟨3, 1, 1⟩] (by decide)) (fun _ hg => atNew hg)⟩
    · have n20 : L 20 = false := falseOf d17 hL
      have n27 : L 27 = false := falseOf d20 n20
      have n28 : L 28 = false := falseOf d27 n27
      have e1 := hD.out 14 70 (by simp [hdep]) rfl
      have e2 := hD.out 16 72 (by simp [hdep]) rfl
      have l0 : wkLive L 14 = true := by simp [wkLive, wkRow, wkN, hdep, hL]
      have lx : wkLive L 16 = true := by simp [wkLive, wkRow, wkN, hdep]
      obtain ⟨p, c, f1, _, f2, f3⟩ := (hI.own 16 lx).row
      rw [f1] at e2
      refine stepI_app_el rfl _ _ rfl wq.heap.size (vals 14) [⟨1, 1, 1⟩] e1 (hI.own 14 l0) p c [⟨3, 1, 1⟩] e2 f3 f2 (by decide) hsw ?_
      intro v' w' hown hgr hat
      exact hI.app (i := 17) (r0 := 14) (by decide) rfl wkA_17 l0 n27 n28 hL hgr hown hat
    · have n19 : L 19 = false := falseOf d18 hL
      have n20 : L 20 = false := falseOf d19 n19
      have n27 : L 27 = false := falseOf d20 n20
      have n28 : L 28 = false := falseOf d27 n27
      refine step_run rfl (v := .func (.func 5) #[] #[]) (w' := w) (by go_simp) ?_
      exact hI.value (i := 18) (by decide) rfl n27 n28
    · have n20 : L 20 = false := falseOf d19 hL
      have n27 : L 27 = false := falseOf d20 n20
      have n28 : L 28 = false := falseOf d27 n27
      have e1 := hD.out 18 74 (by simp [hdep]) rfl
      rw [hI.val 18 (by decide) rfl (by simp [hdep])] at e1
      have e1' : a.tmps.getD 74 undef = .func (.func 5) #[] #[] := e1
      refine step_enter rfl (f := 5) (args := #[.int .i64 4]) (w' := w) (by clear e1; go_simp) ?_
      refine (one_any 4 w).mono ?_
      rintro e w' ⟨he, rfl⟩
      exact ⟨_, he, hI.row (i := 19) (by decide) rfl wkN_19 n27 n28 ((Below.refl _ _).alloc (Nat.le_refl _) _) (ownE_lit w wq.heap.size hsw [⟨4, 1, 1⟩] (by decide)) (fun _ hg => atNew hg)⟩
    · have n27 : L 27 = false := falseOf d20 hL
      have n28 : L 28 = false := falseOf d27 n27
      have e1 := hD.out 17 73 (by simp [hdep]) rfl
      have e2 := hD.out 19 75 (by simp [hdep]) rfl
      have l0 : wkLive L 17 = true := by simp [wkLive, wkRow, wkN, hdep, hL]
      have lx : wkLive L 19 = true := by simp [wkLive, wkRow, wkN, hdep]
      obtain ⟨p, c, f1, _, f2, f3⟩ := (hI.own 19 lx).row
      rw [f1] at e2
      refine stepI_app_el rfl _ _ rfl wq.heap.size (vals 17) [⟨1, 1, 1⟩, ⟨3, 1, 1⟩] e1 (hI.own 17 l0) p c [⟨4, 1, 1⟩] e2 f3 f2 (by decide) hsw ?_
      intro v' w' hown hgr hat
      exact hI.app (i := 20) (r0 := 17) (by decide) rfl wkA_20 l0 n27 n28 hL hgr hown hat
    · have n22 : L 22 = false := falseOf d21 hL
      have n25 : L 25 = false := falseOf d22 n22
      have n27 : L 27 = false := falseOf d25 n25
      have n28 : L 28 = false := falseOf d27 n27
      refine step_run rfl (v := .pointer (some ⟨hb, 0, none⟩)) (w' := w) (by go_simp) ?_
      exact hI.value (i := 21) (by decide) rfl n27 n28
    · have n25 : L 25 = false := falseOf d22 hL
      have n27 : L 27 = false := falseOf d25 n25
      have n28 : L 28 = false := falseOf d27 n27
      have e1 := hD.out 21 77 (by simp [hdep]) rfl
      rw [hI.val 21 (by decide) rfl (by simp [hdep])] at e1
      have e1' : a.tmps.getD 77 undef = .pointer (some ⟨hb, 0, none⟩) := e1
      refine step_run rfl (v := .agg #[.int .i64 64000, .int .i64 32, .int .i64 2]) (w' := w) (by clear e1; go_simp) ?_
      exact hI.value (i := 22) (by decide) rfl n27 n28
    · have n24 : L 24 = false := falseOf d23 hL
      have n25 : L 25 = false := falseOf d24 n24
      have n27 : L 27 = false := falseOf d25 n25
      have n28 : L 28 = false := falseOf d27 n27
      refine step_run rfl (v := .pointer (some ⟨hb, 3, none⟩)) (w' := w) (by go_simp) ?_
      exact hI.value (i := 23) (by decide) rfl n27 n28
    · have n25 : L 25 = false := falseOf d24 hL
      have n27 : L 27 = false := falseOf d25 n25
      have n28 : L 28 = false := falseOf d27 n27
      have e1 := hD.out 23 79 (by simp [hdep]) rfl
      rw [hI.val 23 (by decide) rfl (by simp [hdep])] at e1
      have e1' : a.tmps.getD 79 undef = .pointer (some ⟨hb, 3, none⟩) := e1
      refine step_run rfl (v := .agg #[.int .i64 60123, .int .i64 0, .int .i64 0]) (w' := w) (by clear e1; go_simp) ?_
      exact hI.value (i := 24) (by decide) rfl n27 n28
    · have n27 : L 27 = false := falseOf d25 hL
      have n28 : L 28 = false := falseOf d27 n27
      have e0 := hD.out 22 78 (by simp [hdep]) rfl
      rw [hI.val 22 (by decide) rfl (by simp [hdep])] at e0
      have e0' : a.tmps[78]?.getD undef = .agg #[.int .i64 64000, .int .i64 32, .int .i64 2] := by rw [← Array.getD_eq_getD_getElem?]; exact e0
      have e1 := hD.out 24 80 (by simp [hdep]) rfl
      rw [hI.val 24 (by decide) rfl (by simp [hdep])] at e1
      have e1' : a.tmps[80]?.getD undef = .agg #[.int .i64 60123, .int .i64 0, .int .i64 0] := by rw [← Array.getD_eq_getD_getElem?]; exact e1
      refine step_run rfl (v := .slice (some ⟨w.heap.size, 0, none⟩) 2 2) (w' := w.alloc (.cells #[.int .i64 64000, .int .i64 32, .int .i64 2, .int .i64 60123, .int .i64 0, .int .i64 0] 25)) (by go_simp) ?_
      exact hI.row (i := 25) (by decide) rfl wkN_25 n27 n28 ((Below.refl _ _).alloc (Nat.le_refl _) _) (ownE_lit w wq.heap.size hsw [⟨64000, 32, 2⟩, ⟨60123, 0, 0⟩] (by decide)) (fun _ hg => atNew hg)
    · have n27 : L 27 = false := falseOf d26 hL
      have n28 : L 28 = false := falseOf d27 n27
      refine step_run rfl (v := .slice (some ⟨w.heap.size, 0, none⟩) 0 0) (w' := w.alloc (.cells #[] 25)) (by go_simp) ?_
      exact hI.row (i := 26) (by decide) rfl wkN_26 n27 n28 ((Below.refl _ _).alloc (Nat.le_refl _) _) (ownE_lit w wq.heap.size hsw [] (by decide)) (fun _ hg => atNew hg)
    · have n28 : L 28 = false := falseOf d27 hL
      have e0 := hD.out 1 57 (by simp [hdep]) rfl
      rw [Array.getD_eq_getD_getElem?] at e0
      have l0 : wkLive L 1 = true := by simp [wkLive, wkRow, wkN, hdep]
      obtain ⟨p0, k0, f0, _, _, _⟩ := (hI.own 1 l0).row
      have g0 : vals 1 = .slice p0 1 k0 := f0
      rw [g0] at e0
      have e1 := hD.out 6 62 (by simp [hdep]) rfl
      rw [Array.getD_eq_getD_getElem?] at e1
      have l1 : wkLive L 6 = true := by simp [wkLive, wkRow, wkN, hdep]
      obtain ⟨p1, k1, f1, _, _, _⟩ := (hI.own 6 l1).row
      have g1 : vals 6 = .slice p1 2 k1 := f1
      rw [g1] at e1
      have e2 := hD.out 12 68 (by simp [hdep]) rfl
      rw [Array.getD_eq_getD_getElem?] at e2
      have l2 : wkLive L 12 = true := by simp [wkLive, wkRow, wkN, hdep]
      obtain ⟨p2, k2, f2, _, _, _⟩ := (hI.own 12 l2).row
      have g2 : vals 12 = .slice p2 3 k2 := f2
      rw [g2] at e2
      have e3 := hD.out 20 76 (by simp [hdep]) rfl
      rw [Array.getD_eq_getD_getElem?] at e3
      have l3 : wkLive L 20 = true := by simp [wkLive, wkRow, wkN, hdep]
      obtain ⟨p3, k3, f3, _, _, _⟩ := (hI.own 20 l3).row
      have g3 : vals 20 = .slice p3 3 k3 := f3
      rw [g3] at e3
      have e4 := hD.out 25 81 (by simp [hdep]) rfl
      rw [Array.getD_eq_getD_getElem?] at e4
      have l4 : wkLive L 25 = true := by simp [wkLive, wkRow, wkN, hdep]
      obtain ⟨p4, k4, f4, _, _, _⟩ := (hI.own 25 l4).row
      have g4 : vals 25 = .slice p4 2 k4 := f4
      rw [g4] at e4
      have e5 := hD.out 26 82 (by simp [hdep]) rfl
      rw [Array.getD_eq_getD_getElem?] at e5
      have l5 : wkLive L 26 = true := by simp [wkLive, wkRow, wkN, hdep]
      obtain ⟨p5, k5, f5, _, _, _⟩ := (hI.own 26 l5).row
      have g5 : vals 26 = .slice p5 0 k5 := f5
      rw [g5] at e5
      have hJ := hI.last n28
      rw [g0, g1, g2, g3, g4, g5] at hJ
      refine step_run rfl (v := .slice (some ⟨w.heap.size, 0, none⟩) 6 6) (w' := w.alloc (.cells #[.slice p0 1 k0, .slice p1 2 k1, .slice p2 3 k2, .slice p3 3 k3, .slice p4 2 k4, .slice p5 0 k5] 23)) (by go_simp) hJ
    · skip
      have e1 := hD.out 27 83 (by simp [hdep]) rfl
      refine step_run rfl (v := vals 27) (w' := w) (by go_simp) ?_
      exact hI.done (by simp [hdep])
  · intro vals w4 hI
    obtain ⟨gw, hv, hw⟩ := hI.want
    have HW := Lib.hid hw
    have HB4 := Lib.hid (HBq.out.trans (hI.bel.mono HBq.out.size))
    simp only [putsL, Act.put, List.setIfInBounds_toArray, List.set_cons_zero, List.set_cons_succ]
    rw [hv]
    clear hI hw hv q0 q1 q2 q3 q4 q5 hbq HBq HB3 b4
    go_wp2_with fail
    go_loopg [6, 7, 8] 6 (fun gg vi _v7 _v8 wr => ∃ k : Nat, vi = .int .i64 k ∧ k ≤ 6 ∧ 6 - k ≤ gg ∧ Hid (Below w2.heap.size w2 wr) ∧ Hid (WantAt wr gw))
    case atStart => exact ⟨0, rfl, by omega, by omega, HB4, HW⟩
    case round =>
      clear HB4 HW
      obtain ⟨k, rfl, hk, hg, HBr, HWr⟩ := hrel
      obtain ⟨wo, rfl⟩ : ∃ wo : World, wo = wr := ⟨_, rfl⟩
      by_cases hlt : k < 6
      · have hltz : (k : Int) < 6 := by omega
        obtain ⟨hel1, hel2, hel3, hel4⟩ := wk_el h k hlt
        have hxl := (HI.out.below HBr.out).lt
        have hxc := (HI.out.below HBr.out).cell k hlt
        have HE0 := Lib.hid (fun w (hb : Below w2.heap.size w2 w) => elements_ok (wkT h) (wk_may h) wkIn[k]! hel2 (some ⟨h + 17 + k, 0, none⟩) wkIn[k]!.length w (HT.out.at_ hb (by simp [wkT, wkL]) (by simp [wkT, wkR])) ((HI.out.below hb).row k hlt) (by omega))
        rw [hel1] at HE0
        have HWk := Lib.hid (fun w (hb : Below wo.heap.size wo w) => (HWr.out.below hb).at_ k hlt)
        obtain ⟨tx, htx⟩ : ∃ tx, wkIn[k]! = tx := ⟨_, rfl⟩
        obtain ⟨ot, hot⟩ : ∃ ot, wkOut[k]! = ot := ⟨_, rfl⟩
        rw [htx] at HE0 hxc
        rw [hot] at HE0 HWk hel4
        clear hel1 hel2 hel3 htx hot
        obtain ⟨hx, t0, t1, t2, t3⟩ := HX.out.below HBr.out
        go_upto_region 11 with fail
        go_cut [7, 8] from 90 to 99 (fun v7 v8 wx => ∃ p c, v7 = .slice p ot.length c ∧ v8 = .int .i64 0 ∧ Hid (Below wo.heap.size wo wx ∧ Els wx p ot))
        case first =>
          have HE1 := Lib.hid (HE0.out wo.drew HBr.out.drew)
          go_region_with (go_at_call 7; (with_reducible refine HE1.out.mono ?_); rintro e w5 ⟨v5, rfl, hb5, hown5⟩; obtain ⟨p5, c5, rfl, _, _, hr5⟩ := hown5.row; have HB5 := Lib.hid ((Below.refl wo.heap.size wo).drew.trans (hb5.mono (by simp))); have HR5 := Lib.hid hr5; clear hb5 hown5 hr5)
          all_goals
            go_wp2_with fail
            go_meet
            exact ⟨_, _, rfl, rfl, Lib.hid ⟨HB5.out, HR5.out⟩⟩
        case rest =>
          obtain ⟨p5, c5, rfl, rfl, HC⟩ := hcut
          have HB5 := Lib.hid HC.out.1
          have HR5 := Lib.hid HC.out.2
          clear t0 t1 t2 t3 hxc HC HE0
          obtain ⟨q5, d5, hq5, hr6⟩ := HWk.out _ HB5.out
          have HR6 := Lib.hid hr6
          have hgl := (HWr.out.below HB5.out).lt
          clear hr6
          go_wp2_with fail
          refine (sameE_yes ot p5 q5 c5 d5 _ (by omega) HR5.out HR6.out).mono ?_
          rintro e w6 ⟨rfl, hb6⟩
          have hb56 := HB5.out.trans (hb6.mono HB5.out.size)
          have HB6 := Lib.hid (HBr.out.trans (hb56.mono HBr.out.size))
          have HW6 := Lib.hid (HWr.out.below hb56)
          clear hb6 hb56 hq5 hgl
          go_wp2_with fail
          go_roundg (6 - (k + 1))
          case measure => omega
          case rel => exact ⟨k + 1, by go_num, by omega, by omega, HB6, HW6⟩
      · obtain rfl : k = 6 := by omega
        clear HWr HI
        obtain ⟨hx, t0, t1, t2, t3⟩ := HX.out.below HBr.out
        go_upto_region 15 with fail
        clear t0 t1 t2 t3 hx
        go_wp2_with fail
        refine (one_any _ _).mono ?_
        rintro e w' ⟨rfl, rfl⟩
        go_wp2_with fail
        generalize hw9 : World.alloc (World.alloc (World.alloc (World.alloc wo _) _) _) _ = w9
        have hk : grow wo (wkQ h wo.heap.size) = w9 := by rw [← hw9]; simp only [alloc_eq_grow, grow_grow]; rfl
        have HXB := Lib.hid (show BoxAt w9 wo.heap.size (wkBs h wo.heap.size) from hk ▸ wkQ_box wo h)
        have HTB := Lib.hid (show TabIn w9 (wkBs h wo.heap.size) from hk ▸ wkQ_tab wo h (HT.out.lore.below HBr.out))
        have HB9 := Lib.hid (HBr.out.trans (show Below w2.heap.size wo w9 from (hk ▸ grow_below wo 0 _ : Below wo.heap.size wo w9).mono HBr.out.size))
        clear hw9 hk
        have hbad := wkBs_bad h wo.heap.size
        refine (elements_table (wkBs h wo.heap.size) hbad (.slice none 0 0) w9 (HTB.out.at_ (Below.refl _ _) (by simp [wkBs, wkB, wkL]) (by simp [wkBs, wkB]))).mono ?_
        rintro e w10 ⟨rfl, hb10⟩
        have HB10 := Lib.hid (HB9.out.trans (hb10.mono HB9.out.size))
        have HXB10 := Lib.hid (HXB.out.below hb10)
        have MB := Lib.hid (fun w (hb : Below w9.heap.size w9 w) => mayW_any (wkBs h wo.heap.size) w (HTB.out.at_ hb (by simp [wkBs, wkB, wkL]) (by simp [wkBs, wkB])))
        rw [hbad] at MB
        have MB10 := Lib.hid (MB.out w10 hb10)
        have MT := Lib.hid (fun w (hb : Below w2.heap.size w2 w) => mayW_any (wkT h) w (HT.out.at_ hb (by simp [wkT, wkL]) (by simp [wkT, wkR])))
        rw [wk_may] at MT
        clear hbad MB HTB HXB HB9 hb10
        generalize wkBs h wo.heap.size = tb at HXB10 MB10
        generalize wo.heap.size = y at HXB10 ⊢
        obtain ⟨hx, t0, t1, t2, t3⟩ := HXB10.out
        go_wp2_with fail
        refine MB10.out.mono ?_
        rintro e w11 ⟨rfl, hb11⟩
        have HB11 := Lib.hid (HB10.out.trans (hb11.mono HB10.out.size))
        clear t0 t1 t2 t3 hx hb11 MB10 HXB10
        obtain ⟨hx, t0, t1, t2, t3⟩ := HX.out.below HB11.out
        go_wp2_with fail
        refine (MT.out w11 HB11.out).mono ?_
        rintro e w12 ⟨rfl, hb12⟩
        have HB12 := Lib.hid (HB11.out.trans (hb12.mono HB11.out.size))
        clear t0 t1 t2 t3 hx hb12 MT
        go_wp2_with fail
        refine (impl_any 97 (by decide) (by decide) w12).mono ?_
        rintro e w13 ⟨rfl, hb13⟩
        have HB13 := Lib.hid (HB12.out.trans (hb13.mono HB12.out.size))
        clear hb13
        have iv : implV 97 = .agg #[.int .i64 64000, .int .i64 32, .int .i64 2, .int .i64 60098, .int .i64 0, .int .i64 0] := rfl
        rw [iv]
        go_wp2_with fail
        refine (impl_any 98 (by decide) (by decide) w13).mono ?_
        rintro e w14 ⟨rfl, hb14⟩
        have HB14 := Lib.hid (HB13.out.trans (hb14.mono HB13.out.size))
        clear hb14
        have iv : implV 98 = .agg #[.int .i64 64000, .int .i64 32, .int .i64 2, .int .i64 60099, .int .i64 0, .int .i64 0] := rfl
        rw [iv]
        have q46 := fun w : World => eq_arr 64000 32 2 60098 0 0 64000 32 2 60099 0 0 w
        go_wp2_with fail
        go_ret
        exact ⟨rfl, HB2.out.trans (HB14.out.mono HB2.out.size)⟩
end Go.Proofs.Ytcocmmndonlhkaa
