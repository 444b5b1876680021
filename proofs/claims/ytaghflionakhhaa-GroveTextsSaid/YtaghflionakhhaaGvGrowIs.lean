/-
  Layer grove, at int, string: how a node is made.
-/
import Derived.Test.YtaghflionakhhaaGvLeafIs
import Derived.Test.YtaghflionakhhaaRegMono
namespace Go.Proofs.Ytaghflionakhhaa
open Go.RowKit Go.Gz

/-- a box of the region's own. -/
def BoxPIs (n : Nat) (k : Int) (v : ByteArray) (d m : Int) : VP := ⟨fun u w => ∃ b, u = .pointer (some ⟨b, 0, none⟩) ∧ n ≤ b ∧ w.heap[b]? = some (.cells #[.int .i64 k, .string v, .pointer none, .pointer none, .int .i64 d, .int .i64 m] 120 (0, 0)),
  fun _ _ _ ⟨b, h1, h2, h3⟩ hb => ⟨b, h1, h2, by rw [hb.block b (Array.getElem?_eq_some_iff.1 h3).1]; exact h3⟩⟩

set_option maxHeartbeats 4000000 in
set_option maxRecDepth 100000 in
theorem grow_anyIs (S : Nat → Prop) (w : World) (s : Bool) (k : Int) (v : ByteArray) (p q : Option Addr) (a b : GT Int ByteArray) (ha : TrIs S w p a) (hb : TrIs S w q b) (hS : ∀ j, w.heap.size ≤ j → S j) (hn : a.many + b.many ≤ 100000000) :
    Calls Try.prog 94 #[.agg #[.int .i64 k, .string v], .int .i64 (sd s), .pointer p, .pointer q] w (GotIs S w (mkT s (k, v) a b)) := by
  have mx := mixedS
  have hda := a.deep_many
  have hdb := b.deep_many
  have HP := Lib.hid ha
  have HQ := Lib.hid hb
  have hS := Lib.hid hS
  clear ha hb
  obtain ⟨w0, hw0⟩ : ∃ w0, w.alloc (.cells #[.int .i64 k, .string v] 99) = w0 := ⟨_, rfl⟩
  have hb0 : Below w.heap.size w w0 := hw0 ▸ (Below.refl _ _).alloc (Nat.le_refl _) _
  have HB0 := Lib.hid hb0
  have c0 : w0.cell? ⟨w.heap.size, 0, none⟩ = some (.int .i64 k) := by rw [← hw0]; simp [go_sem]
  have c1 : w0.cell? ⟨w.heap.size, 1, none⟩ = some (.string v) := by rw [← hw0]; simp [go_sem]
  have z1 : w.heap.size < w0.heap.size := by rw [← hw0]; simp
  have HP0 := Lib.hid (HP.out.below hb0)
  have HQ0 := Lib.hid (HQ.out.below hb0)
  have hC0 := Lib.hid c0
  have hC1 := Lib.hid c1
  have hZ1 := Lib.hid z1
  clear hb0 c0 c1 z1
  go_enter Try.func94, Try.ntmps94
  go_wp2_with fail
  clear hw0
  refine wp_region_mono mx (by kernel_rfl) [VP.eq (.agg #[.int .i64 k, .string v]), VP.eq (.pointer p), VP.eq (.int .i64 (a.deep : Nat)), VP.eq (.pointer q), VP.eq (.int .i64 (b.deep : Nat)), VP.eq (.int .i64 (max a.deep b.deep : Nat)), VP.eq (.int .i64 ((max a.deep b.deep : Nat) + 1)), VP.eq (.pointer p), VP.eq (.int .i64 (a.many : Nat)), VP.eq (.int .i64 ((a.many : Nat) + 1)), VP.eq (.pointer q), VP.eq (.int .i64 (b.many : Nat)), VP.eq (.int .i64 ((a.many : Nat) + 1 + (b.many : Nat))), VP.eq (.agg #[.int .i64 k, .string v, .pointer none, .pointer none, .int .i64 ((max a.deep b.deep : Nat) + 1), .int .i64 ((a.many : Nat) + 1 + (b.many : Nat))]), BoxPIs w0.heap.size k v ((max a.deep b.deep : Nat) + 1) ((a.many : Nat) + 1 + (b.many : Nat)), BoxPIs w0.heap.size k v ((max a.deep b.deep : Nat) + 1) ((a.many : Nat) + 1 + (b.many : Nat))] ?_ ?_
  · intro i o L vals w' hi hL hdep hC hJ hV
    have hlt : i < 16 := by have := (List.getElem?_eq_some_iff.1 hi).1; simpa using this
    generalize hA : frA _ _ L vals = a'
    have hT2 : a'.tmps.getD 2 undef = .pointer p := by rw [← hA, frA_base (by kernel_rfl)]; rfl
    have hT3 : a'.tmps.getD 3 undef = .pointer q := by rw [← hA, frA_base (by kernel_rfl)]; rfl
    have hT4 : a'.tmps.getD 4 undef = .pointer (some ⟨w.heap.size, 0, none⟩) := by rw [← hA, frA_base (by kernel_rfl)]; rfl
    have hD := Lib.hid (fun k t (hk : L k = true) (ht : dstOf _ k = some t) => hA ▸ frA_done (by kernel_rfl) (vals := vals) hk ht)
    clear hA
    have bn := fun d m : Int => build_nodeIs k v d m w'
    have c0 : w'.cell? ⟨w.heap.size, 0, none⟩ = some (.int .i64 k) := by rw [hJ.cell (p := ⟨w.heap.size, 0, none⟩) hZ1.out]; exact hC0.out
    have c1 : w'.cell? ⟨w.heap.size, 1, none⟩ = some (.string v) := by rw [hJ.cell (p := ⟨w.heap.size, 1, none⟩) hZ1.out]; exact hC1.out
    obtain rfl | rfl | rfl | rfl | rfl | rfl | rfl | rfl | rfl | rfl | rfl | rfl | rfl | rfl | rfl | rfl : i = 0 ∨ i = 1 ∨ i = 2 ∨ i = 3 ∨ i = 4 ∨ i = 5 ∨ i = 6 ∨ i = 7 ∨ i = 8 ∨ i = 9 ∨ i = 10 ∨ i = 11 ∨ i = 12 ∨ i = 13 ∨ i = 14 ∨ i = 15 := by omega
    all_goals
      injection hi with hi
      subst hi
      try simp [Region.binds] at hdep
    · exact step_run rfl (v := .agg #[.int .i64 k, .string v]) (w' := w') (by go_simp) ⟨rfl, Below.refl _ _⟩
    · exact step_run rfl (v := .pointer p) (w' := w') (by go_simp) ⟨rfl, Below.refl _ _⟩
    · have d11 := hD.out 1 11 (by simp [hdep]) rfl
      rw [show vals 1 = .pointer p from hV 1 (by simp [hdep])] at d11
      refine step_enter rfl (w' := w') (by go_simp) ((depth_anyIs (HP0.out.below hJ)).mono ?_)
      rintro e w1 ⟨rfl, rfl⟩
      exact ⟨_, rfl, rfl, Below.refl _ _⟩
    · exact step_run rfl (v := .pointer q) (w' := w') (by go_simp) ⟨rfl, Below.refl _ _⟩
    · have d13 := hD.out 3 13 (by simp [hdep]) rfl
      rw [show vals 3 = .pointer q from hV 3 (by simp [hdep])] at d13
      refine step_enter rfl (w' := w') (by go_simp) ((depth_anyIs (HQ0.out.below hJ)).mono ?_)
      rintro e w1 ⟨rfl, rfl⟩
      exact ⟨_, rfl, rfl, Below.refl _ _⟩
    · have d12 := hD.out 2 12 (by simp [hdep]) rfl
      rw [show vals 2 = .int .i64 (a.deep : Nat) from hV 2 (by simp [hdep])] at d12
      have d14 := hD.out 4 14 (by simp [hdep]) rfl
      rw [show vals 4 = .int .i64 (b.deep : Nat) from hV 4 (by simp [hdep])] at d14
      exact step_run rfl (v := .int .i64 (max a.deep b.deep : Nat)) (w' := w') (by go_simp; split <;> omega) ⟨rfl, Below.refl _ _⟩
    · have d15 := hD.out 5 15 (by simp [hdep]) rfl
      rw [show vals 5 = .int .i64 (max a.deep b.deep : Nat) from hV 5 (by simp [hdep])] at d15
      exact step_run rfl (v := .int .i64 ((max a.deep b.deep : Nat) + 1)) (w' := w') (by go_simp; exact IntWalk.i64_in _ (by omega)) ⟨rfl, Below.refl _ _⟩
    · exact step_run rfl (v := .pointer p) (w' := w') (by go_simp) ⟨rfl, Below.refl _ _⟩
    · have d17 := hD.out 7 17 (by simp [hdep]) rfl
      rw [show vals 7 = .pointer p from hV 7 (by simp [hdep])] at d17
      refine step_enter rfl (w' := w') (by go_simp) ((len_anyIs (HP0.out.below hJ) (by omega)).mono ?_)
      rintro e w1 ⟨rfl, rfl⟩
      exact ⟨_, rfl, rfl, Below.refl _ _⟩
    · have d18 := hD.out 8 18 (by simp [hdep]) rfl
      rw [show vals 8 = .int .i64 (a.many : Nat) from hV 8 (by simp [hdep])] at d18
      exact step_run rfl (v := .int .i64 ((a.many : Nat) + 1)) (w' := w') (by go_simp; exact IntWalk.i64_in _ (by omega)) ⟨rfl, Below.refl _ _⟩
    · exact step_run rfl (v := .pointer q) (w' := w') (by go_simp) ⟨rfl, Below.refl _ _⟩
    · have d20 := hD.out 10 20 (by simp [hdep]) rfl
      rw [show vals 10 = .pointer q from hV 10 (by simp [hdep])] at d20
      refine step_enter rfl (w' := w') (by go_simp) ((len_anyIs (HQ0.out.below hJ) (by omega)).mono ?_)
      rintro e w1 ⟨rfl, rfl⟩
      exact ⟨_, rfl, rfl, Below.refl _ _⟩
    · have d19 := hD.out 9 19 (by simp [hdep]) rfl
      rw [show vals 9 = .int .i64 ((a.many : Nat) + 1) from hV 9 (by simp [hdep])] at d19
      have d21 := hD.out 11 21 (by simp [hdep]) rfl
      rw [show vals 11 = .int .i64 (b.many : Nat) from hV 11 (by simp [hdep])] at d21
      exact step_run rfl (v := .int .i64 ((a.many : Nat) + 1 + (b.many : Nat))) (w' := w') (by go_simp; exact IntWalk.i64_in _ (by omega)) ⟨rfl, Below.refl _ _⟩
    · have d10 := hD.out 0 10 (by simp [hdep]) rfl
      rw [show vals 0 = .agg #[.int .i64 k, .string v] from hV 0 (by simp [hdep])] at d10
      have d16 := hD.out 6 16 (by simp [hdep]) rfl
      rw [show vals 6 = .int .i64 ((max a.deep b.deep : Nat) + 1) from hV 6 (by simp [hdep])] at d16
      have d22 := hD.out 12 22 (by simp [hdep]) rfl
      rw [show vals 12 = .int .i64 ((a.many : Nat) + 1 + (b.many : Nat)) from hV 12 (by simp [hdep])] at d22
      have d10' := d10; rw [Array.getD_eq_getD_getElem?] at d10'
      have d16' := d16; rw [Array.getD_eq_getD_getElem?] at d16'
      have d22' := d22; rw [Array.getD_eq_getD_getElem?] at d22'
      exact step_run rfl (v := .agg #[.int .i64 k, .string v, .pointer none, .pointer none, .int .i64 ((max a.deep b.deep : Nat) + 1), .int .i64 ((a.many : Nat) + 1 + (b.many : Nat))]) (w' := w') (by go_simp) ⟨rfl, Below.refl _ _⟩
    · have d23 := hD.out 13 23 (by simp [hdep]) rfl
      rw [show vals 13 = .agg #[.int .i64 k, .string v, .pointer none, .pointer none, .int .i64 ((max a.deep b.deep : Nat) + 1), .int .i64 ((a.many : Nat) + 1 + (b.many : Nat))] from hV 13 (by simp [hdep])] at d23
      refine step_run rfl (v := .pointer (some ⟨w'.heap.size, 0, none⟩)) (w' := w'.alloc (.cells #[.int .i64 k, .string v, .pointer none, .pointer none, .int .i64 ((max a.deep b.deep : Nat) + 1), .int .i64 ((a.many : Nat) + 1 + (b.many : Nat))] 120)) (by go_simp) ⟨⟨w'.heap.size, rfl, hJ.size, ?_⟩, (Below.refl _ _).alloc (Nat.le_refl _) _⟩
      show (w'.heap.push _)[w'.heap.size]? = _
      simp
    · have d24 := hD.out 14 24 (by simp [hdep]) rfl
      exact step_run rfl (v := vals 14) (w' := w') (by go_simp) ⟨hV 14 (by simp [hdep]), Below.refl _ _⟩
  · intro vals w' hJ hV
    have e0 : vals 0 = .agg #[.int .i64 k, .string v] := hV 0 (by decide)
    have e1 : vals 1 = .pointer p := hV 1 (by decide)
    have e2 : vals 2 = .int .i64 (a.deep : Nat) := hV 2 (by decide)
    have e3 : vals 3 = .pointer q := hV 3 (by decide)
    have e4 : vals 4 = .int .i64 (b.deep : Nat) := hV 4 (by decide)
    have e5 : vals 5 = .int .i64 (max a.deep b.deep : Nat) := hV 5 (by decide)
    have e6 : vals 6 = .int .i64 ((max a.deep b.deep : Nat) + 1) := hV 6 (by decide)
    have e7 : vals 7 = .pointer p := hV 7 (by decide)
    have e8 : vals 8 = .int .i64 (a.many : Nat) := hV 8 (by decide)
    have e9 : vals 9 = .int .i64 ((a.many : Nat) + 1) := hV 9 (by decide)
    have e10 : vals 10 = .pointer q := hV 10 (by decide)
    have e11 : vals 11 = .int .i64 (b.many : Nat) := hV 11 (by decide)
    have e12 : vals 12 = .int .i64 ((a.many : Nat) + 1 + (b.many : Nat)) := hV 12 (by decide)
    have e13 : vals 13 = .agg #[.int .i64 k, .string v, .pointer none, .pointer none, .int .i64 ((max a.deep b.deep : Nat) + 1), .int .i64 ((a.many : Nat) + 1 + (b.many : Nat))] := hV 13 (by decide)
    have q14 := hV 14 (by decide)
    have q15 := hV 15 (by decide)
    simp only [putsL, Act.put, List.setIfInBounds_toArray, List.set_cons_zero, List.set_cons_succ, e0, e1, e2, e3, e4, e5, e6, e7, e8, e9, e10, e11, e12, e13]
    clear e0 e1 e2 e3 e4 e5 e6 e7 e8 e9 e10 e11 e12 e13
    obtain ⟨g, h15, hgn, hblk⟩ := q15
    rw [h15]
    generalize vals (0 + 1 + 1 + 1 + 1 + 1 + 1 + 1 + 1 + 1 + 1 + 1 + 1 + 1 + 1) = z14
    have hwn : w.heap.size ≤ g := by have := HB0.out.size; omega
    have HB1 := Lib.hid (HB0.out.trans (hJ.mono HB0.out.size))
    obtain ⟨d, hd⟩ : ∃ d : Int, ((max a.deep b.deep : Nat) : Int) + 1 = d := ⟨_, rfl⟩
    obtain ⟨m, hm⟩ : ∃ m : Int, (a.many : Int) + 1 + (b.many : Int) = m := ⟨_, rfl⟩
    rw [hd, hm] at hblk ⊢
    have HD := Lib.hid hd
    have HM := Lib.hid hm
    have HBL := Lib.hid hblk
    have HG := Lib.hid hwn
    clear hd hm hblk hwn h15 hgn q14 hJ hV hC0 hC1 hZ1 HP0 HQ0 HB0
    cases s with
    | false =>
      rw [show sd false = 0 from rfl]
      go_wp2_with fail
      refine wp_region_state mx (by kernel_rfl) [some (.pointer (some ⟨g, 0, none⟩)), some (.int .i64 0), some (.pointer (some ⟨g, 0, none⟩)), some (.int .i64 0), some (.int .i64 1), some (.pointer p), some (.pointer q), some (.pointer (some ⟨g, 0, none⟩)), some (.pointer (some ⟨g, 2, none⟩)), some (.pointer (some ⟨g, 2, none⟩)), none, some (.pointer (some ⟨g, 0, none⟩)), some (.pointer (some ⟨g, 2, none⟩)), some (.pointer (some ⟨g, 3, none⟩)), none] (fun L x => Below w.heap.size w x ∧ x.heap[g]? = some (.cells #[.int .i64 k, .string v, .pointer (if L 10 then p else none), .pointer (if L 14 then q else none), .int .i64 d, .int .i64 m] 120 (0, 0))) (⟨HB1.out.drew, HBL.out⟩) ?_ ?_
      · intro i o L vals w2 hi hL hdep hC hJ hV
        have hlt : i < 15 := by have := (List.getElem?_eq_some_iff.1 hi).1; simpa using this
        generalize hA : frA _ _ L vals = a'
        have hT1 : a'.tmps.getD 1 undef = .int .i64 0 := by rw [← hA, frA_base (by kernel_rfl)]; rfl
        have hT2 : a'.tmps.getD 2 undef = .pointer p := by rw [← hA, frA_base (by kernel_rfl)]; rfl
        have hT3 : a'.tmps.getD 3 undef = .pointer q := by rw [← hA, frA_base (by kernel_rfl)]; rfl
        have hT9 : a'.tmps.getD 9 undef = .pointer (some ⟨g, 0, none⟩) := by rw [← hA, frA_base (by kernel_rfl)]; rfl
        have hD := Lib.hid (fun k t (hk : L k = true) (ht : dstOf _ k = some t) => hA ▸ frA_done (by kernel_rfl) (vals := vals) hk ht)
        clear hA
        have c2 := cell_at hJ.2 2
        have c3 := cell_at hJ.2 3
        have f2 := frozen_at hJ.2 2
        have f3 := frozen_at hJ.2 3
        obtain rfl | rfl | rfl | rfl | rfl | rfl | rfl | rfl | rfl | rfl | rfl | rfl | rfl | rfl | rfl : i = 0 ∨ i = 1 ∨ i = 2 ∨ i = 3 ∨ i = 4 ∨ i = 5 ∨ i = 6 ∨ i = 7 ∨ i = 8 ∨ i = 9 ∨ i = 10 ∨ i = 11 ∨ i = 12 ∨ i = 13 ∨ i = 14 := by omega
        all_goals
          injection hi with hi
          subst hi
          try simp [Region.binds] at hdep
        · exact step_run rfl (v := .pointer (some ⟨g, 0, none⟩)) (w' := w2) (by go_simp) ⟨EqV.self rfl, hJ⟩
        · exact step_run rfl (v := .int .i64 0) (w' := w2) (by go_simp) ⟨EqV.self rfl, hJ⟩
        · exact step_run rfl (v := .pointer (some ⟨g, 0, none⟩)) (w' := w2) (by go_simp) ⟨EqV.self rfl, hJ⟩
        · exact step_run rfl (v := .int .i64 0) (w' := w2) (by go_simp) ⟨EqV.self rfl, hJ⟩
        · have d28 := hD.out 3 28 (by simp [hdep]) rfl
          rw [show vals 3 = .int .i64 0 from (hV 3 (by simp [hdep])).of rfl] at d28
          refine step_enter rfl (w' := w2) (by go_simp) ((other_low w2).mono ?_)
          rintro e w1 ⟨rfl, rfl⟩
          exact ⟨_, rfl, EqV.self rfl, hJ⟩
        · exact step_run rfl (v := .pointer p) (w' := w2) (by go_simp) ⟨EqV.self rfl, hJ⟩
        · exact step_run rfl (v := .pointer q) (w' := w2) (by go_simp) ⟨EqV.self rfl, hJ⟩
        · have d25 := hD.out 0 25 (by simp [hdep]) rfl
          rw [show vals 0 = .pointer (some ⟨g, 0, none⟩) from (hV 0 (by simp [hdep])).of rfl] at d25
          exact step_run rfl (v := .pointer (some ⟨g, 0, none⟩)) (w' := w2) (by go_simp) ⟨EqV.self rfl, hJ⟩
        · have d32 := hD.out 7 32 (by simp [hdep]) rfl
          rw [show vals 7 = .pointer (some ⟨g, 0, none⟩) from (hV 7 (by simp [hdep])).of rfl] at d32
          exact step_run rfl (v := .pointer (some ⟨g, 2, none⟩)) (w' := w2) (by go_simp) ⟨EqV.self rfl, hJ⟩
        · have d33 := hD.out 8 33 (by simp [hdep]) rfl
          rw [show vals 8 = .pointer (some ⟨g, 2, none⟩) from (hV 8 (by simp [hdep])).of rfl] at d33
          have d26 := hD.out 1 26 (by simp [hdep]) rfl
          rw [show vals 1 = .int .i64 0 from (hV 1 (by simp [hdep])).of rfl] at d26
          exact step_run rfl (v := .pointer (some ⟨g, 2, none⟩)) (w' := w2) (by go_simp) ⟨EqV.self rfl, hJ⟩
        · have d34 := hD.out 9 34 (by simp [hdep]) rfl
          rw [show vals 9 = .pointer (some ⟨g, 2, none⟩) from (hV 9 (by simp [hdep])).of rfl] at d34
          have d30 := hD.out 5 30 (by simp [hdep]) rfl
          rw [show vals 5 = .pointer p from (hV 5 (by simp [hdep])).of rfl] at d30
          refine stepI_skip rfl (w' := w2.setCell ⟨g, 2, none⟩ (.pointer p)) (by go_simp) ⟨EqV.no rfl, hJ.1.setCell HG.out _, ?_⟩
          exact set_at hJ.2 2 (.pointer p)
        · have d27 := hD.out 2 27 (by simp [hdep]) rfl
          rw [show vals 2 = .pointer (some ⟨g, 0, none⟩) from (hV 2 (by simp [hdep])).of rfl] at d27
          exact step_run rfl (v := .pointer (some ⟨g, 0, none⟩)) (w' := w2) (by go_simp) ⟨EqV.self rfl, hJ⟩
        · have d35 := hD.out 11 35 (by simp [hdep]) rfl
          rw [show vals 11 = .pointer (some ⟨g, 0, none⟩) from (hV 11 (by simp [hdep])).of rfl] at d35
          exact step_run rfl (v := .pointer (some ⟨g, 2, none⟩)) (w' := w2) (by go_simp) ⟨EqV.self rfl, hJ⟩
        · have d36 := hD.out 12 36 (by simp [hdep]) rfl
          rw [show vals 12 = .pointer (some ⟨g, 2, none⟩) from (hV 12 (by simp [hdep])).of rfl] at d36
          have d29 := hD.out 4 29 (by simp [hdep]) rfl
          rw [show vals 4 = .int .i64 1 from (hV 4 (by simp [hdep])).of rfl] at d29
          exact step_run rfl (v := .pointer (some ⟨g, 3, none⟩)) (w' := w2) (by go_simp) ⟨EqV.self rfl, hJ⟩
        · have d37 := hD.out 13 37 (by simp [hdep]) rfl
          rw [show vals 13 = .pointer (some ⟨g, 3, none⟩) from (hV 13 (by simp [hdep])).of rfl] at d37
          have d31 := hD.out 6 31 (by simp [hdep]) rfl
          rw [show vals 6 = .pointer q from (hV 6 (by simp [hdep])).of rfl] at d31
          refine stepI_skip rfl (w' := w2.setCell ⟨g, 3, none⟩ (.pointer q)) (by go_simp) ⟨EqV.no rfl, hJ.1.setCell HG.out _, ?_⟩
          exact set_at hJ.2 3 (.pointer q)
      · intro vals w2 hJ hV
        have e0 : vals 0 = .pointer (some ⟨g, 0, none⟩) := (hV 0 (by decide)).of rfl
        have e1 : vals 1 = .int .i64 0 := (hV 1 (by decide)).of rfl
        have e2 : vals 2 = .pointer (some ⟨g, 0, none⟩) := (hV 2 (by decide)).of rfl
        have e3 : vals 3 = .int .i64 0 := (hV 3 (by decide)).of rfl
        have e4 : vals 4 = .int .i64 1 := (hV 4 (by decide)).of rfl
        have e5 : vals 5 = .pointer p := (hV 5 (by decide)).of rfl
        have e6 : vals 6 = .pointer q := (hV 6 (by decide)).of rfl
        have e7 : vals 7 = .pointer (some ⟨g, 0, none⟩) := (hV 7 (by decide)).of rfl
        have e8 : vals 8 = .pointer (some ⟨g, 2, none⟩) := (hV 8 (by decide)).of rfl
        have e9 : vals 9 = .pointer (some ⟨g, 2, none⟩) := (hV 9 (by decide)).of rfl
        have e11 : vals 11 = .pointer (some ⟨g, 0, none⟩) := (hV 11 (by decide)).of rfl
        have e12 : vals 12 = .pointer (some ⟨g, 2, none⟩) := (hV 12 (by decide)).of rfl
        have e13 : vals 13 = .pointer (some ⟨g, 3, none⟩) := (hV 13 (by decide)).of rfl
        simp only [putsL, Act.put, List.setIfInBounds_toArray, List.set_cons_zero, List.set_cons_succ, e0, e1, e2, e3, e4, e5, e6, e7, e8, e9, e11, e12, e13]
        clear e0 e1 e2 e3 e4 e5 e6 e7 e8 e9 e11 e12 e13
        obtain ⟨hb2, hbl⟩ := hJ
        have HB2 := Lib.hid hb2
        have HBL2 := Lib.hid hbl
        clear hb2 hbl hV
        go_wp2_with fail
        go_ret
        refine ⟨_, rfl, node_inIs HB2.out (hS.out _ HG.out) HP.out HQ.out HBL2.out ?_ ?_, HB2.out⟩
        · rw [← HD.out]; simp only [GT.deep]; omega
        · rw [← HM.out]; simp only [GT.many]; omega
    | true =>
      rw [show sd true = 1 from rfl]
      go_wp2_with fail
      refine wp_region_state mx (by kernel_rfl) [some (.pointer (some ⟨g, 0, none⟩)), some (.int .i64 1), some (.pointer (some ⟨g, 0, none⟩)), some (.int .i64 1), some (.int .i64 0), some (.pointer p), some (.pointer q), some (.pointer (some ⟨g, 0, none⟩)), some (.pointer (some ⟨g, 2, none⟩)), some (.pointer (some ⟨g, 3, none⟩)), none, some (.pointer (some ⟨g, 0, none⟩)), some (.pointer (some ⟨g, 2, none⟩)), some (.pointer (some ⟨g, 2, none⟩)), none] (fun L x => Below w.heap.size w x ∧ x.heap[g]? = some (.cells #[.int .i64 k, .string v, .pointer (if L 14 then q else none), .pointer (if L 10 then p else none), .int .i64 d, .int .i64 m] 120 (0, 0))) (⟨HB1.out.drew, HBL.out⟩) ?_ ?_
      · intro i o L vals w2 hi hL hdep hC hJ hV
        have hlt : i < 15 := by have := (List.getElem?_eq_some_iff.1 hi).1; simpa using this
        generalize hA : frA _ _ L vals = a'
        have hT1 : a'.tmps.getD 1 undef = .int .i64 1 := by rw [← hA, frA_base (by kernel_rfl)]; rfl
        have hT2 : a'.tmps.getD 2 undef = .pointer p := by rw [← hA, frA_base (by kernel_rfl)]; rfl
        have hT3 : a'.tmps.getD 3 undef = .pointer q := by rw [← hA, frA_base (by kernel_rfl)]; rfl
        have hT9 : a'.tmps.getD 9 undef = .pointer (some ⟨g, 0, none⟩) := by rw [← hA, frA_base (by kernel_rfl)]; rfl
        have hD := Lib.hid (fun k t (hk : L k = true) (ht : dstOf _ k = some t) => hA ▸ frA_done (by kernel_rfl) (vals := vals) hk ht)
        clear hA
        have c2 := cell_at hJ.2 2
        have c3 := cell_at hJ.2 3
        have f2 := frozen_at hJ.2 2
        have f3 := frozen_at hJ.2 3
        obtain rfl | rfl | rfl | rfl | rfl | rfl | rfl | rfl | rfl | rfl | rfl | rfl | rfl | rfl | rfl : i = 0 ∨ i = 1 ∨ i = 2 ∨ i = 3 ∨ i = 4 ∨ i = 5 ∨ i = 6 ∨ i = 7 ∨ i = 8 ∨ i = 9 ∨ i = 10 ∨ i = 11 ∨ i = 12 ∨ i = 13 ∨ i = 14 := by omega
        all_goals
          injection hi with hi
          subst hi
          try simp [Region.binds] at hdep
        · exact step_run rfl (v := .pointer (some ⟨g, 0, none⟩)) (w' := w2) (by go_simp) ⟨EqV.self rfl, hJ⟩
        · exact step_run rfl (v := .int .i64 1) (w' := w2) (by go_simp) ⟨EqV.self rfl, hJ⟩
        · exact step_run rfl (v := .pointer (some ⟨g, 0, none⟩)) (w' := w2) (by go_simp) ⟨EqV.self rfl, hJ⟩
        · exact step_run rfl (v := .int .i64 1) (w' := w2) (by go_simp) ⟨EqV.self rfl, hJ⟩
        · have d28 := hD.out 3 28 (by simp [hdep]) rfl
          rw [show vals 3 = .int .i64 1 from (hV 3 (by simp [hdep])).of rfl] at d28
          refine step_enter rfl (w' := w2) (by go_simp) ((other_high w2).mono ?_)
          rintro e w1 ⟨rfl, rfl⟩
          exact ⟨_, rfl, EqV.self rfl, hJ⟩
        · exact step_run rfl (v := .pointer p) (w' := w2) (by go_simp) ⟨EqV.self rfl, hJ⟩
        · exact step_run rfl (v := .pointer q) (w' := w2) (by go_simp) ⟨EqV.self rfl, hJ⟩
        · have d25 := hD.out 0 25 (by simp [hdep]) rfl
          rw [show vals 0 = .pointer (some ⟨g, 0, none⟩) from (hV 0 (by simp [hdep])).of rfl] at d25
          exact step_run rfl (v := .pointer (some ⟨g, 0, none⟩)) (w' := w2) (by go_simp) ⟨EqV.self rfl, hJ⟩
        · have d32 := hD.out 7 32 (by simp [hdep]) rfl
          rw [show vals 7 = .pointer (some ⟨g, 0, none⟩) from (hV 7 (by simp [hdep])).of rfl] at d32
          exact step_run rfl (v := .pointer (some ⟨g, 2, none⟩)) (w' := w2) (by go_simp) ⟨EqV.self rfl, hJ⟩
        · have d33 := hD.out 8 33 (by simp [hdep]) rfl
          rw [show vals 8 = .pointer (some ⟨g, 2, none⟩) from (hV 8 (by simp [hdep])).of rfl] at d33
          have d26 := hD.out 1 26 (by simp [hdep]) rfl
          rw [show vals 1 = .int .i64 1 from (hV 1 (by simp [hdep])).of rfl] at d26
          exact step_run rfl (v := .pointer (some ⟨g, 3, none⟩)) (w' := w2) (by go_simp) ⟨EqV.self rfl, hJ⟩
        · have d34 := hD.out 9 34 (by simp [hdep]) rfl
          rw [show vals 9 = .pointer (some ⟨g, 3, none⟩) from (hV 9 (by simp [hdep])).of rfl] at d34
          have d30 := hD.out 5 30 (by simp [hdep]) rfl
          rw [show vals 5 = .pointer p from (hV 5 (by simp [hdep])).of rfl] at d30
          refine stepI_skip rfl (w' := w2.setCell ⟨g, 3, none⟩ (.pointer p)) (by go_simp) ⟨EqV.no rfl, hJ.1.setCell HG.out _, ?_⟩
          exact set_at hJ.2 3 (.pointer p)
        · have d27 := hD.out 2 27 (by simp [hdep]) rfl
          rw [show vals 2 = .pointer (some ⟨g, 0, none⟩) from (hV 2 (by simp [hdep])).of rfl] at d27
          exact step_run rfl (v := .pointer (some ⟨g, 0, none⟩)) (w' := w2) (by go_simp) ⟨EqV.self rfl, hJ⟩
        · have d35 := hD.out 11 35 (by simp [hdep]) rfl
          rw [show vals 11 = .pointer (some ⟨g, 0, none⟩) from (hV 11 (by simp [hdep])).of rfl] at d35
          exact step_run rfl (v := .pointer (some ⟨g, 2, none⟩)) (w' := w2) (by go_simp) ⟨EqV.self rfl, hJ⟩
        · have d36 := hD.out 12 36 (by simp [hdep]) rfl
          rw [show vals 12 = .pointer (some ⟨g, 2, none⟩) from (hV 12 (by simp [hdep])).of rfl] at d36
          have d29 := hD.out 4 29 (by simp [hdep]) rfl
          rw [show vals 4 = .int .i64 0 from (hV 4 (by simp [hdep])).of rfl] at d29
          exact step_run rfl (v := .pointer (some ⟨g, 2, none⟩)) (w' := w2) (by go_simp) ⟨EqV.self rfl, hJ⟩
        · have d37 := hD.out 13 37 (by simp [hdep]) rfl
          rw [show vals 13 = .pointer (some ⟨g, 2, none⟩) from (hV 13 (by simp [hdep])).of rfl] at d37
          have d31 := hD.out 6 31 (by simp [hdep]) rfl
          rw [show vals 6 = .pointer q from (hV 6 (by simp [hdep])).of rfl] at d31
          refine stepI_skip rfl (w' := w2.setCell ⟨g, 2, none⟩ (.pointer q)) (by go_simp) ⟨EqV.no rfl, hJ.1.setCell HG.out _, ?_⟩
          exact set_at hJ.2 2 (.pointer q)
      · intro vals w2 hJ hV
        have e0 : vals 0 = .pointer (some ⟨g, 0, none⟩) := (hV 0 (by decide)).of rfl
        have e1 : vals 1 = .int .i64 1 := (hV 1 (by decide)).of rfl
        have e2 : vals 2 = .pointer (some ⟨g, 0, none⟩) := (hV 2 (by decide)).of rfl
        have e3 : vals 3 = .int .i64 1 := (hV 3 (by decide)).of rfl
        have e4 : vals 4 = .int .i64 0 := (hV 4 (by decide)).of rfl
        have e5 : vals 5 = .pointer p := (hV 5 (by decide)).of rfl
        have e6 : vals 6 = .pointer q := (hV 6 (by decide)).of rfl
        have e7 : vals 7 = .pointer (some ⟨g, 0, none⟩) := (hV 7 (by decide)).of rfl
        have e8 : vals 8 = .pointer (some ⟨g, 2, none⟩) := (hV 8 (by decide)).of rfl
        have e9 : vals 9 = .pointer (some ⟨g, 3, none⟩) := (hV 9 (by decide)).of rfl
        have e11 : vals 11 = .pointer (some ⟨g, 0, none⟩) := (hV 11 (by decide)).of rfl
        have e12 : vals 12 = .pointer (some ⟨g, 2, none⟩) := (hV 12 (by decide)).of rfl
        have e13 : vals 13 = .pointer (some ⟨g, 2, none⟩) := (hV 13 (by decide)).of rfl
        simp only [putsL, Act.put, List.setIfInBounds_toArray, List.set_cons_zero, List.set_cons_succ, e0, e1, e2, e3, e4, e5, e6, e7, e8, e9, e11, e12, e13]
        clear e0 e1 e2 e3 e4 e5 e6 e7 e8 e9 e11 e12 e13
        obtain ⟨hb2, hbl⟩ := hJ
        have HB2 := Lib.hid hb2
        have HBL2 := Lib.hid hbl
        clear hb2 hbl hV
        go_wp2_with fail
        go_ret
        refine ⟨_, rfl, node_inIs HB2.out (hS.out _ HG.out) HQ.out HP.out HBL2.out ?_ ?_, HB2.out⟩
        · rw [← HD.out]; simp only [GT.deep]; omega
        · rw [← HM.out]; simp only [GT.many]; omega
end Go.Proofs.Ytaghflionakhhaa
