/-
  Layer grove, at int, string: a node that may be two levels out is made even.
-/
import Derived.Test.YtaghflionakhhaaGvGrowIs
namespace Go.Proofs.Ytaghflionakhhaa
open Go.RowKit Go.Gz

/-- a tree of the region's own. -/
def TrPIs (S : Nat → Prop) (t : GT Int ByteArray) : VP := ⟨fun u w => ∃ r, u = .pointer r ∧ TrIs S w r t, fun _ _ _ ⟨r, h1, h2⟩ hb => ⟨r, h1, TrS.below h2 hb⟩⟩

set_option maxHeartbeats 4000000 in
set_option maxRecDepth 100000 in
theorem even_anyIs (S : Nat → Prop) (w : World) (s : Bool) (k : Int) (v : ByteArray) (p q : Option Addr) (a b : GT Int ByteArray) (ha : TrIs S w p a) (hb : TrIs S w q b) (hS : ∀ j, w.heap.size ≤ j → S j) (hn : a.many + b.many ≤ 10000000) :
    Calls Try.prog 95 #[.agg #[.int .i64 k, .string v], .int .i64 (sd s), .pointer p, .pointer q] w (GotIs S w (evenT s (k, v) a b)) := by
  have mx := mixedS
  have hda := a.deep_many
  have hdb := b.deep_many
  have HP := Lib.hid ha
  have HQ := Lib.hid hb
  have hS := Lib.hid hS
  clear ha hb
  obtain ⟨w0, hw0⟩ : ∃ w0, w.alloc (.cells #[.int .i64 k, .string v] 99) = w0 := ⟨_, rfl⟩
  have hb0 : Below w.heap.size w w0 := hw0 ▸ (Below.refl _ _).alloc (Nat.le_refl _) _
  have HB0 := Lib.hid hb0
  have c0 : w0.cell? ⟨w.heap.size, 0, none⟩ = some (.int .i64 k) := by rw [← hw0]; simp [go_sem]
  have c1 : w0.cell? ⟨w.heap.size, 1, none⟩ = some (.string v) := by rw [← hw0]; simp [go_sem]
  have z1 : w.heap.size < w0.heap.size := by rw [← hw0]; simp
  have HP0 := Lib.hid (HP.out.below hb0)
  have HQ0 := Lib.hid (HQ.out.below hb0)
  have hC0 := Lib.hid c0
  have hC1 := Lib.hid c1
  have hZ1 := Lib.hid z1
  clear hb0 c0 c1 z1
  go_enter Try.func95, Try.ntmps95
  go_wp2_with fail
  clear hw0
  refine (depth_anyIs HP0.out).mono ?_
  rintro e wz ⟨rfl, rfl⟩
  go_wp2_with fail
  refine (depth_anyIs HQ0.out).mono ?_
  rintro e wz ⟨rfl, rfl⟩
  by_cases h : a.deep ≤ b.deep + 1
  · have hle : ((a.deep : Nat) : Int) ≤ ((b.deep : Nat) : Int) + 1 := by omega
    have c0 := hC0.out
    have c1 := hC1.out
    go_wp2_with fail
    refine (grow_anyIs S w0 s k v p q a b HP0.out HQ0.out (fun j hj => hS.out j (by have := HB0.out.size; omega)) (by omega)).mono ?_
    rintro e w1 ⟨r, rfl, ht, hb1⟩
    have HT := Lib.hid ht
    have HB := Lib.hid (HB0.out.trans (hb1.mono HB0.out.size))
    clear ht hb1
    go_wp2_with fail
    go_ret
    refine ⟨r, rfl, ?_, HB.out⟩
    rw [even_small h]
    exact HT.out
  · have hle : ¬ ((a.deep : Nat) : Int) ≤ ((b.deep : Nat) : Int) + 1 := by omega
    go_wp2_with fail
    obtain ⟨nk, nv, l, r, har⟩ : ∃ nk nv l r, a = GT.node nk nv l r := by
      cases a with
      | nil => simp [GT.deep] at h
      | node a b c d => exact ⟨a, b, c, d, rfl⟩
    subst har
    clear hle
    have HNO := Lib.hid h
    obtain ⟨g, pl, pr, rfl, hn'⟩ := HP0.out.node
    have HN := Lib.hid hn'
    have hdl := l.deep_many
    have hdr := r.deep_many
    clear hn' h hda hdb
    cases s with
    | false =>
      rw [show sd false = 0 from rfl]
      go_wp2_with fail
      refine wp_region_mono mx (by kernel_rfl) [VP.eq (.pointer (some ⟨g, 0, none⟩)), VP.eq (.int .i64 0), VP.eq (.pointer (some ⟨g, 0, none⟩)), VP.eq (.pointer (some ⟨g, 2, none⟩)), VP.eq (.pointer (some ⟨g, 2, none⟩)), VP.eq (.pointer pl), VP.eq (.pointer (some ⟨g, 0, none⟩)), VP.eq (.int .i64 0), VP.eq (.int .i64 1), VP.eq (.pointer (some ⟨g, 0, none⟩)), VP.eq (.pointer (some ⟨g, 2, none⟩)), VP.eq (.pointer (some ⟨g, 3, none⟩)), VP.eq (.pointer pr), VP.eq (.pointer pl), VP.eq (.pointer pr)] ?_ ?_
      · intro i o L vals w2 hi hL hdep hC hJ hV
        have hlt : i < 15 := by have := (List.getElem?_eq_some_iff.1 hi).1; simpa using this
        generalize hA : frA _ _ L vals = a'
        have hT1 : a'.tmps.getD 1 undef = .int .i64 0 := by rw [← hA, frA_base (by kernel_rfl)]; rfl
        have hT2 : a'.tmps.getD 2 undef = .pointer (some ⟨g, 0, none⟩) := by rw [← hA, frA_base (by kernel_rfl)]; rfl
        have hD := Lib.hid (fun k t (hk : L k = true) (ht : dstOf _ k = some t) => hA ▸ frA_done (by kernel_rfl) (vals := vals) hk ht)
        clear hA
        have c2 := (HN.out.below hJ).c2
        have c3 := (HN.out.below hJ).c3
        obtain rfl | rfl | rfl | rfl | rfl | rfl | rfl | rfl | rfl | rfl | rfl | rfl | rfl | rfl | rfl : i = 0 ∨ i = 1 ∨ i = 2 ∨ i = 3 ∨ i = 4 ∨ i = 5 ∨ i = 6 ∨ i = 7 ∨ i = 8 ∨ i = 9 ∨ i = 10 ∨ i = 11 ∨ i = 12 ∨ i = 13 ∨ i = 14 := by omega
        all_goals
          injection hi with hi
          subst hi
          try simp [Region.binds] at hdep
        · exact step_run rfl (v := .pointer (some ⟨g, 0, none⟩)) (w' := w2) (by go_simp) ⟨rfl, Below.refl _ _⟩
        · exact step_run rfl (v := .int .i64 0) (w' := w2) (by go_simp) ⟨rfl, Below.refl _ _⟩
        · have d22 := hD.out 0 22 (by simp [hdep]) rfl
          rw [show vals 0 = .pointer (some ⟨g, 0, none⟩) from hV 0 (by simp [hdep])] at d22
          exact step_run rfl (v := .pointer (some ⟨g, 0, none⟩)) (w' := w2) (by go_simp) ⟨rfl, Below.refl _ _⟩
        · have d24 := hD.out 2 24 (by simp [hdep]) rfl
          rw [show vals 2 = .pointer (some ⟨g, 0, none⟩) from hV 2 (by simp [hdep])] at d24
          exact step_run rfl (v := .pointer (some ⟨g, 2, none⟩)) (w' := w2) (by go_simp) ⟨rfl, Below.refl _ _⟩
        · have d25 := hD.out 3 25 (by simp [hdep]) rfl
          rw [show vals 3 = .pointer (some ⟨g, 2, none⟩) from hV 3 (by simp [hdep])] at d25
          have d23 := hD.out 1 23 (by simp [hdep]) rfl
          rw [show vals 1 = .int .i64 0 from hV 1 (by simp [hdep])] at d23
          exact step_run rfl (v := .pointer (some ⟨g, 2, none⟩)) (w' := w2) (by go_simp) ⟨rfl, Below.refl _ _⟩
        · have d26 := hD.out 4 26 (by simp [hdep]) rfl
          rw [show vals 4 = .pointer (some ⟨g, 2, none⟩) from hV 4 (by simp [hdep])] at d26
          exact step_run rfl (v := .pointer pl) (w' := w2) (by go_simp) ⟨rfl, Below.refl _ _⟩
        · exact step_run rfl (v := .pointer (some ⟨g, 0, none⟩)) (w' := w2) (by go_simp) ⟨rfl, Below.refl _ _⟩
        · exact step_run rfl (v := .int .i64 0) (w' := w2) (by go_simp) ⟨rfl, Below.refl _ _⟩
        · have d29 := hD.out 7 29 (by simp [hdep]) rfl
          rw [show vals 7 = .int .i64 0 from hV 7 (by simp [hdep])] at d29
          refine step_enter rfl (w' := w2) (by go_simp) ((other_low w2).mono ?_)
          rintro e w1 ⟨rfl, rfl⟩
          exact ⟨_, rfl, rfl, Below.refl _ _⟩
        · have d28 := hD.out 6 28 (by simp [hdep]) rfl
          rw [show vals 6 = .pointer (some ⟨g, 0, none⟩) from hV 6 (by simp [hdep])] at d28
          exact step_run rfl (v := .pointer (some ⟨g, 0, none⟩)) (w' := w2) (by go_simp) ⟨rfl, Below.refl _ _⟩
        · have d31 := hD.out 9 31 (by simp [hdep]) rfl
          rw [show vals 9 = .pointer (some ⟨g, 0, none⟩) from hV 9 (by simp [hdep])] at d31
          exact step_run rfl (v := .pointer (some ⟨g, 2, none⟩)) (w' := w2) (by go_simp) ⟨rfl, Below.refl _ _⟩
        · have d32 := hD.out 10 32 (by simp [hdep]) rfl
          rw [show vals 10 = .pointer (some ⟨g, 2, none⟩) from hV 10 (by simp [hdep])] at d32
          have d30 := hD.out 8 30 (by simp [hdep]) rfl
          rw [show vals 8 = .int .i64 1 from hV 8 (by simp [hdep])] at d30
          exact step_run rfl (v := .pointer (some ⟨g, 3, none⟩)) (w' := w2) (by go_simp) ⟨rfl, Below.refl _ _⟩
        · have d33 := hD.out 11 33 (by simp [hdep]) rfl
          rw [show vals 11 = .pointer (some ⟨g, 3, none⟩) from hV 11 (by simp [hdep])] at d33
          exact step_run rfl (v := .pointer pr) (w' := w2) (by go_simp) ⟨rfl, Below.refl _ _⟩
        · have d27 := hD.out 5 27 (by simp [hdep]) rfl
          rw [show vals 5 = .pointer pl from hV 5 (by simp [hdep])] at d27
          exact step_run rfl (v := .pointer pl) (w' := w2) (by go_simp) ⟨rfl, Below.refl _ _⟩
        · have d34 := hD.out 12 34 (by simp [hdep]) rfl
          rw [show vals 12 = .pointer pr from hV 12 (by simp [hdep])] at d34
          exact step_run rfl (v := .pointer pr) (w' := w2) (by go_simp) ⟨rfl, Below.refl _ _⟩
      · intro vals w2 hJ hV
        have e0 : vals 0 = .pointer (some ⟨g, 0, none⟩) := hV 0 (by decide)
        have e1 : vals 1 = .int .i64 0 := hV 1 (by decide)
        have e2 : vals 2 = .pointer (some ⟨g, 0, none⟩) := hV 2 (by decide)
        have e3 : vals 3 = .pointer (some ⟨g, 2, none⟩) := hV 3 (by decide)
        have e4 : vals 4 = .pointer (some ⟨g, 2, none⟩) := hV 4 (by decide)
        have e5 : vals 5 = .pointer pl := hV 5 (by decide)
        have e6 : vals 6 = .pointer (some ⟨g, 0, none⟩) := hV 6 (by decide)
        have e7 : vals 7 = .int .i64 0 := hV 7 (by decide)
        have e8 : vals 8 = .int .i64 1 := hV 8 (by decide)
        have e9 : vals 9 = .pointer (some ⟨g, 0, none⟩) := hV 9 (by decide)
        have e10 : vals 10 = .pointer (some ⟨g, 2, none⟩) := hV 10 (by decide)
        have e11 : vals 11 = .pointer (some ⟨g, 3, none⟩) := hV 11 (by decide)
        have e12 : vals 12 = .pointer pr := hV 12 (by decide)
        have e13 : vals 13 = .pointer pl := hV 13 (by decide)
        have e14 : vals 14 = .pointer pr := hV 14 (by decide)
        simp only [putsL, Act.put, List.setIfInBounds_toArray, List.set_cons_zero, List.set_cons_succ, e0, e1, e2, e3, e4, e5, e6, e7, e8, e9, e10, e11, e12, e13, e14]
        clear e0 e1 e2 e3 e4 e5 e6 e7 e8 e9 e10 e11 e12 e13 e14
        have HJ2 := Lib.hid hJ
        have HN2 := Lib.hid (HN.out.below hJ)
        have HQ2 := Lib.hid (HQ0.out.below hJ)
        have c0 : w2.cell? ⟨w.heap.size, 0, none⟩ = some (.int .i64 k) := by rw [hJ.cell (p := ⟨w.heap.size, 0, none⟩) hZ1.out]; exact hC0.out
        have c1 : w2.cell? ⟨w.heap.size, 1, none⟩ = some (.string v) := by rw [hJ.cell (p := ⟨w.heap.size, 1, none⟩) hZ1.out]; exact hC1.out
        have hC02 := Lib.hid c0
        have hC12 := Lib.hid c1
        have hZ2 := Lib.hid (show w.heap.size < w2.heap.size by have := hJ.size; have := hZ1.out; omega)
        have HI2 := Lib.hid HN2.out.hr
        have HO2 := Lib.hid HN2.out.hl
        have HB2 := Lib.hid (HB0.out.trans (hJ.mono HB0.out.size))
        clear hJ hV c0 c1
        go_wp2_with fail
        refine (depth_anyIs HI2.out).mono ?_
        rintro e wz ⟨rfl, rfl⟩
        go_wp2_with fail
        refine (depth_anyIs HO2.out).mono ?_
        rintro e wz ⟨rfl, rfl⟩
        by_cases h2 : r.deep ≤ l.deep
        · have hle2 : ((r.deep : Nat) : Int) ≤ ((l.deep : Nat) : Int) := by omega
          have HR := Lib.hid (even_outer_false (x := (k, v)) HNO.out h2)
          go_wp2_with fail
          clear hle2
          refine wp_region_mono mx (by kernel_rfl) [VP.eq (.pointer (some ⟨g, 0, none⟩)), VP.eq (.pointer (some ⟨g, 0, none⟩)), VP.eq (.pointer (some ⟨g, 0, none⟩)), VP.eq (.agg #[.int .i64 nk, .string nv]), VP.eq (.int .i64 0), VP.eq (.pointer pl), VP.eq (.agg #[.int .i64 k, .string v]), VP.eq (.int .i64 0), VP.eq (.pointer pr), VP.eq (.pointer q), TrPIs S (mkT false (k, v) r b), TrPIs S (mkT false (nk, nv) l (mkT false (k, v) r b)), TrPIs S (mkT false (nk, nv) l (mkT false (k, v) r b))] ?_ ?_
          · intro i o L vals w3 hi hL hdep hC hJ hV
            have hlt : i < 13 := by have := (List.getElem?_eq_some_iff.1 hi).1; simpa using this
            generalize hA : frA _ _ L vals = a'
            have hT1 : a'.tmps.getD 1 undef = .int .i64 0 := by rw [← hA, frA_base (by kernel_rfl)]; rfl
            have hT2 : a'.tmps.getD 2 undef = .pointer (some ⟨g, 0, none⟩) := by rw [← hA, frA_base (by kernel_rfl)]; rfl
            have hT3 : a'.tmps.getD 3 undef = .pointer q := by rw [← hA, frA_base (by kernel_rfl)]; rfl
            have hT4 : a'.tmps.getD 4 undef = .pointer (some ⟨w.heap.size, 0, none⟩) := by rw [← hA, frA_base (by kernel_rfl)]; rfl
            have hT9 : a'.tmps.getD 9 undef = .pointer pl := by rw [← hA, frA_base (by kernel_rfl)]; rfl
            have hT10 : a'.tmps.getD 10 undef = .pointer pr := by rw [← hA, frA_base (by kernel_rfl)]; rfl
            have hD := Lib.hid (fun k t (hk : L k = true) (ht : dstOf _ k = some t) => hA ▸ frA_done (by kernel_rfl) (vals := vals) hk ht)
            clear hA
            have n0 := (HN2.out.below hJ).c0
            have n1 := (HN2.out.below hJ).c1
            have c0 : w3.cell? ⟨w.heap.size, 0, none⟩ = some (.int .i64 k) := by rw [hJ.cell (p := ⟨w.heap.size, 0, none⟩) hZ2.out]; exact hC02.out
            have c1 : w3.cell? ⟨w.heap.size, 1, none⟩ = some (.string v) := by rw [hJ.cell (p := ⟨w.heap.size, 1, none⟩) hZ2.out]; exact hC12.out
            have hS3 : ∀ j, w3.heap.size ≤ j → S j := fun j hj => hS.out j (by have := hJ.size; have := HB2.out.size; omega)
            simp only [GT.many] at hn
            obtain rfl | rfl | rfl | rfl | rfl | rfl | rfl | rfl | rfl | rfl | rfl | rfl | rfl : i = 0 ∨ i = 1 ∨ i = 2 ∨ i = 3 ∨ i = 4 ∨ i = 5 ∨ i = 6 ∨ i = 7 ∨ i = 8 ∨ i = 9 ∨ i = 10 ∨ i = 11 ∨ i = 12 := by omega
            all_goals
              injection hi with hi
              subst hi
              try simp [Region.binds] at hdep
            · exact step_run rfl (v := .pointer (some ⟨g, 0, none⟩)) (w' := w3) (by go_simp) ⟨rfl, Below.refl _ _⟩
            · have d40 := hD.out 0 40 (by simp [hdep]) rfl
              rw [show vals 0 = .pointer (some ⟨g, 0, none⟩) from hV 0 (by simp [hdep])] at d40
              exact step_run rfl (v := .pointer (some ⟨g, 0, none⟩)) (w' := w3) (by go_simp) ⟨rfl, Below.refl _ _⟩
            · have d41 := hD.out 1 41 (by simp [hdep]) rfl
              rw [show vals 1 = .pointer (some ⟨g, 0, none⟩) from hV 1 (by simp [hdep])] at d41
              exact step_run rfl (v := .pointer (some ⟨g, 0, none⟩)) (w' := w3) (by go_simp) ⟨rfl, Below.refl _ _⟩
            · have d42 := hD.out 2 42 (by simp [hdep]) rfl
              rw [show vals 2 = .pointer (some ⟨g, 0, none⟩) from hV 2 (by simp [hdep])] at d42
              exact step_run rfl (v := .agg #[.int .i64 nk, .string nv]) (w' := w3) (by go_simp) ⟨rfl, Below.refl _ _⟩
            · exact step_run rfl (v := .int .i64 0) (w' := w3) (by go_simp) ⟨rfl, Below.refl _ _⟩
            · exact step_run rfl (v := .pointer pl) (w' := w3) (by go_simp) ⟨rfl, Below.refl _ _⟩
            · exact step_run rfl (v := .agg #[.int .i64 k, .string v]) (w' := w3) (by go_simp) ⟨rfl, Below.refl _ _⟩
            · exact step_run rfl (v := .int .i64 0) (w' := w3) (by go_simp) ⟨rfl, Below.refl _ _⟩
            · exact step_run rfl (v := .pointer pr) (w' := w3) (by go_simp) ⟨rfl, Below.refl _ _⟩
            · exact step_run rfl (v := .pointer q) (w' := w3) (by go_simp) ⟨rfl, Below.refl _ _⟩
            · have d46 := hD.out 6 46 (by simp [hdep]) rfl
              rw [show vals 6 = .agg #[.int .i64 k, .string v] from hV 6 (by simp [hdep])] at d46
              have d47 := hD.out 7 47 (by simp [hdep]) rfl
              rw [show vals 7 = .int .i64 0 from hV 7 (by simp [hdep])] at d47
              have d48 := hD.out 8 48 (by simp [hdep]) rfl
              rw [show vals 8 = .pointer pr from hV 8 (by simp [hdep])] at d48
              have d49 := hD.out 9 49 (by simp [hdep]) rfl
              rw [show vals 9 = .pointer q from hV 9 (by simp [hdep])] at d49
              refine step_enter rfl (w' := w3) (by go_simp <;> rfl) ((grow_anyIs S w3 false k v pr q r b (HI2.out.below hJ) (HQ2.out.below hJ) hS3 (by omega)).mono ?_)
              rintro e w1 ⟨r, rfl, ht, hb1⟩
              exact ⟨_, rfl, ⟨r, rfl, ht⟩, hb1⟩
            · have d43 := hD.out 3 43 (by simp [hdep]) rfl
              rw [show vals 3 = .agg #[.int .i64 nk, .string nv] from hV 3 (by simp [hdep])] at d43
              have d44 := hD.out 4 44 (by simp [hdep]) rfl
              rw [show vals 4 = .int .i64 0 from hV 4 (by simp [hdep])] at d44
              have d45 := hD.out 5 45 (by simp [hdep]) rfl
              rw [show vals 5 = .pointer pl from hV 5 (by simp [hdep])] at d45
              have d50 := hD.out 10 50 (by simp [hdep]) rfl
              obtain ⟨r50, hr50, ht50⟩ := hV 10 (by simp [hdep])
              rw [hr50] at d50
              refine step_enter rfl (w' := w3) (by go_simp <;> rfl) ((grow_anyIs S w3 false nk nv pl r50 l (mkT false (k, v) r b) (HO2.out.below hJ) ht50 hS3 (by rw [many_mk]; omega)).mono ?_)
              rintro e w1 ⟨r, rfl, ht, hb1⟩
              exact ⟨_, rfl, ⟨r, rfl, ht⟩, hb1⟩
            · have d51 := hD.out 11 51 (by simp [hdep]) rfl
              exact step_run rfl (v := vals 11) (w' := w3) (by go_simp) ⟨hV 11 (by simp [hdep]), Below.refl _ _⟩
          · intro vals w3 hJ hV
            have e0 : vals 0 = .pointer (some ⟨g, 0, none⟩) := hV 0 (by decide)
            have e1 : vals 1 = .pointer (some ⟨g, 0, none⟩) := hV 1 (by decide)
            have e2 : vals 2 = .pointer (some ⟨g, 0, none⟩) := hV 2 (by decide)
            have e3 : vals 3 = .agg #[.int .i64 nk, .string nv] := hV 3 (by decide)
            have e4 : vals 4 = .int .i64 0 := hV 4 (by decide)
            have e5 : vals 5 = .pointer pl := hV 5 (by decide)
            have e6 : vals 6 = .agg #[.int .i64 k, .string v] := hV 6 (by decide)
            have e7 : vals 7 = .int .i64 0 := hV 7 (by decide)
            have e8 : vals 8 = .pointer pr := hV 8 (by decide)
            have e9 : vals 9 = .pointer q := hV 9 (by decide)
            have q10 := hV 10 (by decide)
            have q11 := hV 11 (by decide)
            have q12 := hV 12 (by decide)
            simp only [putsL, Act.put, List.setIfInBounds_toArray, List.set_cons_zero, List.set_cons_succ, e0, e1, e2, e3, e4, e5, e6, e7, e8, e9]
            clear e0 e1 e2 e3 e4 e5 e6 e7 e8 e9
            obtain ⟨r, hr, ht⟩ := q12
            rw [hr]
            have HB3 := Lib.hid (HB2.out.trans (hJ.mono HB2.out.size))
            have HT3 := Lib.hid ht
            clear hJ hV q10 q11 hr ht
            go_wp2_with fail
            go_ret
            refine ⟨r, rfl, ?_, HB3.out⟩
            rw [HR.out]
            exact HT3.out
        · have hle2 : ¬ ((r.deep : Nat) : Int) ≤ ((l.deep : Nat) : Int) := by omega
          go_wp2_with fail
          clear hle2
          obtain ⟨ik, iv, il, ir, hir⟩ : ∃ ik iv il ir, r = GT.node ik iv il ir := by
            cases r with
            | nil => simp [GT.deep] at h2
            | node a b c d => exact ⟨a, b, c, d, rfl⟩
          subst hir
          have HR := Lib.hid (even_inner_false (x := (k, v)) HNO.out h2)
          obtain ⟨gi, jl, jr, rfl, hni⟩ := HI2.out.node
          have HNI := Lib.hid hni
          clear hni
          refine wp_region_mono mx (by kernel_rfl) [VP.eq (.pointer (some ⟨gi, 0, none⟩)), VP.eq (.pointer (some ⟨gi, 0, none⟩)), VP.eq (.pointer (some ⟨gi, 0, none⟩)), VP.eq (.agg #[.int .i64 ik, .string iv]), VP.eq (.int .i64 0), VP.eq (.pointer (some ⟨g, 0, none⟩)), VP.eq (.pointer (some ⟨g, 0, none⟩)), VP.eq (.pointer (some ⟨g, 0, none⟩)), VP.eq (.agg #[.int .i64 nk, .string nv]), VP.eq (.int .i64 0), VP.eq (.pointer pl), VP.eq (.pointer (some ⟨gi, 0, none⟩)), VP.eq (.int .i64 0), VP.eq (.pointer (some ⟨gi, 0, none⟩)), VP.eq (.pointer (some ⟨gi, 2, none⟩)), VP.eq (.pointer (some ⟨gi, 2, none⟩)), VP.eq (.pointer jl), TrPIs S (mkT false (nk, nv) l il), VP.eq (.agg #[.int .i64 k, .string v]), VP.eq (.int .i64 0), VP.eq (.pointer (some ⟨gi, 0, none⟩)), VP.eq (.int .i64 0), VP.eq (.int .i64 1), VP.eq (.pointer (some ⟨gi, 0, none⟩)), VP.eq (.pointer (some ⟨gi, 2, none⟩)), VP.eq (.pointer (some ⟨gi, 3, none⟩)), VP.eq (.pointer jr), VP.eq (.pointer q), TrPIs S (mkT false (k, v) ir b), TrPIs S (mkT false (ik, iv) (mkT false (nk, nv) l il) (mkT false (k, v) ir b)), TrPIs S (mkT false (ik, iv) (mkT false (nk, nv) l il) (mkT false (k, v) ir b))] ?_ ?_
          · intro i o L vals w3 hi hL hdep hC hJ hV
            have hlt : i < 31 := by have := (List.getElem?_eq_some_iff.1 hi).1; simpa using this
            generalize hA : frA _ _ L vals = a'
            have hT1 : a'.tmps.getD 1 undef = .int .i64 0 := by rw [← hA, frA_base (by kernel_rfl)]; rfl
            have hT2 : a'.tmps.getD 2 undef = .pointer (some ⟨g, 0, none⟩) := by rw [← hA, frA_base (by kernel_rfl)]; rfl
            have hT3 : a'.tmps.getD 3 undef = .pointer q := by rw [← hA, frA_base (by kernel_rfl)]; rfl
            have hT4 : a'.tmps.getD 4 undef = .pointer (some ⟨w.heap.size, 0, none⟩) := by rw [← hA, frA_base (by kernel_rfl)]; rfl
            have hT9 : a'.tmps.getD 9 undef = .pointer pl := by rw [← hA, frA_base (by kernel_rfl)]; rfl
            have hT10 : a'.tmps.getD 10 undef = .pointer (some ⟨gi, 0, none⟩) := by rw [← hA, frA_base (by kernel_rfl)]; rfl
            have hD := Lib.hid (fun k t (hk : L k = true) (ht : dstOf _ k = some t) => hA ▸ frA_done (by kernel_rfl) (vals := vals) hk ht)
            clear hA
            have n0 := (HN2.out.below hJ).c0
            have n1 := (HN2.out.below hJ).c1
            have i0 := (HNI.out.below hJ).c0
            have i1 := (HNI.out.below hJ).c1
            have i2 := (HNI.out.below hJ).c2
            have i3 := (HNI.out.below hJ).c3
            have c0 : w3.cell? ⟨w.heap.size, 0, none⟩ = some (.int .i64 k) := by rw [hJ.cell (p := ⟨w.heap.size, 0, none⟩) hZ2.out]; exact hC02.out
            have c1 : w3.cell? ⟨w.heap.size, 1, none⟩ = some (.string v) := by rw [hJ.cell (p := ⟨w.heap.size, 1, none⟩) hZ2.out]; exact hC12.out
            have hS3 : ∀ j, w3.heap.size ≤ j → S j := fun j hj => hS.out j (by have := hJ.size; have := HB2.out.size; omega)
            simp only [GT.many] at hn
            obtain rfl | rfl | rfl | rfl | rfl | rfl | rfl | rfl | rfl | rfl | rfl | rfl | rfl | rfl | rfl | rfl | rfl | rfl | rfl | rfl | rfl | rfl | rfl | rfl | rfl | rfl | rfl | rfl | rfl | rfl | rfl : i = 0 ∨ i = 1 ∨ i = 2 ∨ i = 3 ∨ i = 4 ∨ i = 5 ∨ i = 6 ∨ i = 7 ∨ i = 8 ∨ i = 9 ∨ i = 10 ∨ i = 11 ∨ i = 12 ∨ i = 13 ∨ i = 14 ∨ i = 15 ∨ i = 16 ∨ i = 17 ∨ i = 18 ∨ i = 19 ∨ i = 20 ∨ i = 21 ∨ i = 22 ∨ i = 23 ∨ i = 24 ∨ i = 25 ∨ i = 26 ∨ i = 27 ∨ i = 28 ∨ i = 29 ∨ i = 30 := by omega
            all_goals
              injection hi with hi
              subst hi
              try simp [Region.binds] at hdep
            · exact step_run rfl (v := .pointer (some ⟨gi, 0, none⟩)) (w' := w3) (by go_simp) ⟨rfl, Below.refl _ _⟩
            · have d52 := hD.out 0 52 (by simp [hdep]) rfl
              rw [show vals 0 = .pointer (some ⟨gi, 0, none⟩) from hV 0 (by simp [hdep])] at d52
              exact step_run rfl (v := .pointer (some ⟨gi, 0, none⟩)) (w' := w3) (by go_simp) ⟨rfl, Below.refl _ _⟩
            · have d53 := hD.out 1 53 (by simp [hdep]) rfl
              rw [show vals 1 = .pointer (some ⟨gi, 0, none⟩) from hV 1 (by simp [hdep])] at d53
              exact step_run rfl (v := .pointer (some ⟨gi, 0, none⟩)) (w' := w3) (by go_simp) ⟨rfl, Below.refl _ _⟩
            · have d54 := hD.out 2 54 (by simp [hdep]) rfl
              rw [show vals 2 = .pointer (some ⟨gi, 0, none⟩) from hV 2 (by simp [hdep])] at d54
              exact step_run rfl (v := .agg #[.int .i64 ik, .string iv]) (w' := w3) (by go_simp) ⟨rfl, Below.refl _ _⟩
            · exact step_run rfl (v := .int .i64 0) (w' := w3) (by go_simp) ⟨rfl, Below.refl _ _⟩
            · exact step_run rfl (v := .pointer (some ⟨g, 0, none⟩)) (w' := w3) (by go_simp) ⟨rfl, Below.refl _ _⟩
            · have d57 := hD.out 5 57 (by simp [hdep]) rfl
              rw [show vals 5 = .pointer (some ⟨g, 0, none⟩) from hV 5 (by simp [hdep])] at d57
              exact step_run rfl (v := .pointer (some ⟨g, 0, none⟩)) (w' := w3) (by go_simp) ⟨rfl, Below.refl _ _⟩
            · have d58 := hD.out 6 58 (by simp [hdep]) rfl
              rw [show vals 6 = .pointer (some ⟨g, 0, none⟩) from hV 6 (by simp [hdep])] at d58
              exact step_run rfl (v := .pointer (some ⟨g, 0, none⟩)) (w' := w3) (by go_simp) ⟨rfl, Below.refl _ _⟩
            · have d59 := hD.out 7 59 (by simp [hdep]) rfl
              rw [show vals 7 = .pointer (some ⟨g, 0, none⟩) from hV 7 (by simp [hdep])] at d59
              exact step_run rfl (v := .agg #[.int .i64 nk, .string nv]) (w' := w3) (by go_simp) ⟨rfl, Below.refl _ _⟩
            · exact step_run rfl (v := .int .i64 0) (w' := w3) (by go_simp) ⟨rfl, Below.refl _ _⟩
            · exact step_run rfl (v := .pointer pl) (w' := w3) (by go_simp) ⟨rfl, Below.refl _ _⟩
            · exact step_run rfl (v := .pointer (some ⟨gi, 0, none⟩)) (w' := w3) (by go_simp) ⟨rfl, Below.refl _ _⟩
            · exact step_run rfl (v := .int .i64 0) (w' := w3) (by go_simp) ⟨rfl, Below.refl _ _⟩
            · have d63 := hD.out 11 63 (by simp [hdep]) rfl
              rw [show vals 11 = .pointer (some ⟨gi, 0, none⟩) from hV 11 (by simp [hdep])] at d63
              exact step_run rfl (v := .pointer (some ⟨gi, 0, none⟩)) (w' := w3) (by go_simp) ⟨rfl, Below.refl _ _⟩
            · have d65 := hD.out 13 65 (by simp [hdep]) rfl
              rw [show vals 13 = .pointer (some ⟨gi, 0, none⟩) from hV 13 (by simp [hdep])] at d65
              exact step_run rfl (v := .pointer (some ⟨gi, 2, none⟩)) (w' := w3) (by go_simp) ⟨rfl, Below.refl _ _⟩
            · have d66 := hD.out 14 66 (by simp [hdep]) rfl
              rw [show vals 14 = .pointer (some ⟨gi, 2, none⟩) from hV 14 (by simp [hdep])] at d66
              have d64 := hD.out 12 64 (by simp [hdep]) rfl
              rw [show vals 12 = .int .i64 0 from hV 12 (by simp [hdep])] at d64
              exact step_run rfl (v := .pointer (some ⟨gi, 2, none⟩)) (w' := w3) (by go_simp) ⟨rfl, Below.refl _ _⟩
            · have d67 := hD.out 15 67 (by simp [hdep]) rfl
              rw [show vals 15 = .pointer (some ⟨gi, 2, none⟩) from hV 15 (by simp [hdep])] at d67
              exact step_run rfl (v := .pointer jl) (w' := w3) (by go_simp) ⟨rfl, Below.refl _ _⟩
            · have d60 := hD.out 8 60 (by simp [hdep]) rfl
              rw [show vals 8 = .agg #[.int .i64 nk, .string nv] from hV 8 (by simp [hdep])] at d60
              have d61 := hD.out 9 61 (by simp [hdep]) rfl
              rw [show vals 9 = .int .i64 0 from hV 9 (by simp [hdep])] at d61
              have d62 := hD.out 10 62 (by simp [hdep]) rfl
              rw [show vals 10 = .pointer pl from hV 10 (by simp [hdep])] at d62
              have d68 := hD.out 16 68 (by simp [hdep]) rfl
              rw [show vals 16 = .pointer jl from hV 16 (by simp [hdep])] at d68
              refine step_enter rfl (w' := w3) (by go_simp <;> rfl) ((grow_anyIs S w3 false nk nv pl jl l il (HO2.out.below hJ) (HNI.out.below hJ).hl hS3 (by omega)).mono ?_)
              rintro e w1 ⟨r, rfl, ht, hb1⟩
              exact ⟨_, rfl, ⟨r, rfl, ht⟩, hb1⟩
            · exact step_run rfl (v := .agg #[.int .i64 k, .string v]) (w' := w3) (by go_simp) ⟨rfl, Below.refl _ _⟩
            · exact step_run rfl (v := .int .i64 0) (w' := w3) (by go_simp) ⟨rfl, Below.refl _ _⟩
            · exact step_run rfl (v := .pointer (some ⟨gi, 0, none⟩)) (w' := w3) (by go_simp) ⟨rfl, Below.refl _ _⟩
            · exact step_run rfl (v := .int .i64 0) (w' := w3) (by go_simp) ⟨rfl, Below.refl _ _⟩
            · have d73 := hD.out 21 73 (by simp [hdep]) rfl
              rw [show vals 21 = .int .i64 0 from hV 21 (by simp [hdep])] at d73
              refine step_enter rfl (w' := w3) (by go_simp) ((other_low w3).mono ?_)
              rintro e w1 ⟨rfl, rfl⟩
              exact ⟨_, rfl, rfl, Below.refl _ _⟩
            · have d72 := hD.out 20 72 (by simp [hdep]) rfl
              rw [show vals 20 = .pointer (some ⟨gi, 0, none⟩) from hV 20 (by simp [hdep])] at d72
              exact step_run rfl (v := .pointer (some ⟨gi, 0, none⟩)) (w' := w3) (by go_simp) ⟨rfl, Below.refl _ _⟩
            · have d75 := hD.out 23 75 (by simp [hdep]) rfl
              rw [show vals 23 = .pointer (some ⟨gi, 0, none⟩) from hV 23 (by simp [hdep])] at d75
              exact step_run rfl (v := .pointer (some ⟨gi, 2, none⟩)) (w' := w3) (by go_simp) ⟨rfl, Below.refl _ _⟩
            · have d76 := hD.out 24 76 (by simp [hdep]) rfl
              rw [show vals 24 = .pointer (some ⟨gi, 2, none⟩) from hV 24 (by simp [hdep])] at d76
              have d74 := hD.out 22 74 (by simp [hdep]) rfl
              rw [show vals 22 = .int .i64 1 from hV 22 (by simp [hdep])] at d74
              exact step_run rfl (v := .pointer (some ⟨gi, 3, none⟩)) (w' := w3) (by go_simp) ⟨rfl, Below.refl _ _⟩
            · have d77 := hD.out 25 77 (by simp [hdep]) rfl
              rw [show vals 25 = .pointer (some ⟨gi, 3, none⟩) from hV 25 (by simp [hdep])] at d77
              exact step_run rfl (v := .pointer jr) (w' := w3) (by go_simp) ⟨rfl, Below.refl _ _⟩
            · exact step_run rfl (v := .pointer q) (w' := w3) (by go_simp) ⟨rfl, Below.refl _ _⟩
            · have d70 := hD.out 18 70 (by simp [hdep]) rfl
              rw [show vals 18 = .agg #[.int .i64 k, .string v] from hV 18 (by simp [hdep])] at d70
              have d71 := hD.out 19 71 (by simp [hdep]) rfl
              rw [show vals 19 = .int .i64 0 from hV 19 (by simp [hdep])] at d71
              have d78 := hD.out 26 78 (by simp [hdep]) rfl
              rw [show vals 26 = .pointer jr from hV 26 (by simp [hdep])] at d78
              have d79 := hD.out 27 79 (by simp [hdep]) rfl
              rw [show vals 27 = .pointer q from hV 27 (by simp [hdep])] at d79
              refine step_enter rfl (w' := w3) (by go_simp <;> rfl) ((grow_anyIs S w3 false k v jr q ir b (HNI.out.below hJ).hr (HQ2.out.below hJ) hS3 (by omega)).mono ?_)
              rintro e w1 ⟨r, rfl, ht, hb1⟩
              exact ⟨_, rfl, ⟨r, rfl, ht⟩, hb1⟩
            · have d55 := hD.out 3 55 (by simp [hdep]) rfl
              rw [show vals 3 = .agg #[.int .i64 ik, .string iv] from hV 3 (by simp [hdep])] at d55
              have d56 := hD.out 4 56 (by simp [hdep]) rfl
              rw [show vals 4 = .int .i64 0 from hV 4 (by simp [hdep])] at d56
              have d69 := hD.out 17 69 (by simp [hdep]) rfl
              have d80 := hD.out 28 80 (by simp [hdep]) rfl
              obtain ⟨r69, hr69, ht69⟩ := hV 17 (by simp [hdep])
              rw [hr69] at d69
              obtain ⟨r80, hr80, ht80⟩ := hV 28 (by simp [hdep])
              rw [hr80] at d80
              refine step_enter rfl (w' := w3) (by go_simp <;> rfl) ((grow_anyIs S w3 false ik iv r69 r80 (mkT false (nk, nv) l il) (mkT false (k, v) ir b) ht69 ht80 hS3 (by rw [many_mk, many_mk]; omega)).mono ?_)
              rintro e w1 ⟨r, rfl, ht, hb1⟩
              exact ⟨_, rfl, ⟨r, rfl, ht⟩, hb1⟩
            · have d81 := hD.out 29 81 (by simp [hdep]) rfl
              exact step_run rfl (v := vals 29) (w' := w3) (by go_simp) ⟨hV 29 (by simp [hdep]), Below.refl _ _⟩
          · intro vals w3 hJ hV
            have e0 : vals 0 = .pointer (some ⟨gi, 0, none⟩) := hV 0 (by decide)
            have e1 : vals 1 = .pointer (some ⟨gi, 0, none⟩) := hV 1 (by decide)
            have e2 : vals 2 = .pointer (some ⟨gi, 0, none⟩) := hV 2 (by decide)
            have e3 : vals 3 = .agg #[.int .i64 ik, .string iv] := hV 3 (by decide)
            have e4 : vals 4 = .int .i64 0 := hV 4 (by decide)
            have e5 : vals 5 = .pointer (some ⟨g, 0, none⟩) := hV 5 (by decide)
            have e6 : vals 6 = .pointer (some ⟨g, 0, none⟩) := hV 6 (by decide)
            have e7 : vals 7 = .pointer (some ⟨g, 0, none⟩) := hV 7 (by decide)
            have e8 : vals 8 = .agg #[.int .i64 nk, .string nv] := hV 8 (by decide)
            have e9 : vals 9 = .int .i64 0 := hV 9 (by decide)
            have e10 : vals 10 = .pointer pl := hV 10 (by decide)
            have e11 : vals 11 = .pointer (some ⟨gi, 0, none⟩) := hV 11 (by decide)
            have e12 : vals 12 = .int .i64 0 := hV 12 (by decide)
            have e13 : vals 13 = .pointer (some ⟨gi, 0, none⟩) := hV 13 (by decide)
            have e14 : vals 14 = .pointer (some ⟨gi, 2, none⟩) := hV 14 (by decide)
            have e15 : vals 15 = .pointer (some ⟨gi, 2, none⟩) := hV 15 (by decide)
            have e16 : vals 16 = .pointer jl := hV 16 (by decide)
            have q17 := hV 17 (by decide)
            have e18 : vals 18 = .agg #[.int .i64 k, .string v] := hV 18 (by decide)
            have e19 : vals 19 = .int .i64 0 := hV 19 (by decide)
            have e20 : vals 20 = .pointer (some ⟨gi, 0, none⟩) := hV 20 (by decide)
            have e21 : vals 21 = .int .i64 0 := hV 21 (by decide)
            have e22 : vals 22 = .int .i64 1 := hV 22 (by decide)
            have e23 : vals 23 = .pointer (some ⟨gi, 0, none⟩) := hV 23 (by decide)
            have e24 : vals 24 = .pointer (some ⟨gi, 2, none⟩) := hV 24 (by decide)
            have e25 : vals 25 = .pointer (some ⟨gi, 3, none⟩) := hV 25 (by decide)
            have e26 : vals 26 = .pointer jr := hV 26 (by decide)
            have e27 : vals 27 = .pointer q := hV 27 (by decide)
            have q28 := hV 28 (by decide)
            have q29 := hV 29 (by decide)
            have q30 := hV 30 (by decide)
            simp only [putsL, Act.put, List.setIfInBounds_toArray, List.set_cons_zero, List.set_cons_succ, e0, e1, e2, e3, e4, e5, e6, e7, e8, e9, e10, e11, e12, e13, e14, e15, e16, e18, e19, e20, e21, e22, e23, e24, e25, e26, e27]
            clear e0 e1 e2 e3 e4 e5 e6 e7 e8 e9 e10 e11 e12 e13 e14 e15 e16 e18 e19 e20 e21 e22 e23 e24 e25 e26 e27
            obtain ⟨r, hr, ht⟩ := q30
            rw [hr]
            have HB3 := Lib.hid (HB2.out.trans (hJ.mono HB2.out.size))
            have HT3 := Lib.hid ht
            clear hJ hV q17 q28 q29 hr ht
            go_wp2_with fail
            go_ret
            refine ⟨r, rfl, ?_, HB3.out⟩
            rw [HR.out]
            exact HT3.out
    | true =>
      rw [show sd true = 1 from rfl]
      go_wp2_with fail
      refine wp_region_mono mx (by kernel_rfl) [VP.eq (.pointer (some ⟨g, 0, none⟩)), VP.eq (.int .i64 1), VP.eq (.pointer (some ⟨g, 0, none⟩)), VP.eq (.pointer (some ⟨g, 2, none⟩)), VP.eq (.pointer (some ⟨g, 3, none⟩)), VP.eq (.pointer pr), VP.eq (.pointer (some ⟨g, 0, none⟩)), VP.eq (.int .i64 1), VP.eq (.int .i64 0), VP.eq (.pointer (some ⟨g, 0, none⟩)), VP.eq (.pointer (some ⟨g, 2, none⟩)), VP.eq (.pointer (some ⟨g, 2, none⟩)), VP.eq (.pointer pl), VP.eq (.pointer pr), VP.eq (.pointer pl)] ?_ ?_
      · intro i o L vals w2 hi hL hdep hC hJ hV
        have hlt : i < 15 := by have := (List.getElem?_eq_some_iff.1 hi).1; simpa using this
        generalize hA : frA _ _ L vals = a'
        have hT1 : a'.tmps.getD 1 undef = .int .i64 1 := by rw [← hA, frA_base (by kernel_rfl)]; rfl
        have hT2 : a'.tmps.getD 2 undef = .pointer (some ⟨g, 0, none⟩) := by rw [← hA, frA_base (by kernel_rfl)]; rfl
        have hD := Lib.hid (fun k t (hk : L k = true) (ht : dstOf _ k = some t) => hA ▸ frA_done (by kernel_rfl) (vals := vals) hk ht)
        clear hA
        have c2 := (HN.out.below hJ).c2
        have c3 := (HN.out.below hJ).c3
        obtain rfl | rfl | rfl | rfl | rfl | rfl | rfl | rfl | rfl | rfl | rfl | rfl | rfl | rfl | rfl : i = 0 ∨ i = 1 ∨ i = 2 ∨ i = 3 ∨ i = 4 ∨ i = 5 ∨ i = 6 ∨ i = 7 ∨ i = 8 ∨ i = 9 ∨ i = 10 ∨ i = 11 ∨ i = 12 ∨ i = 13 ∨ i = 14 := by omega
        all_goals
          injection hi with hi
          subst hi
          try simp [Region.binds] at hdep
        · exact step_run rfl (v := .pointer (some ⟨g, 0, none⟩)) (w' := w2) (by go_simp) ⟨rfl, Below.refl _ _⟩
        · exact step_run rfl (v := .int .i64 1) (w' := w2) (by go_simp) ⟨rfl, Below.refl _ _⟩
        · have d22 := hD.out 0 22 (by simp [hdep]) rfl
          rw [show vals 0 = .pointer (some ⟨g, 0, none⟩) from hV 0 (by simp [hdep])] at d22
          exact step_run rfl (v := .pointer (some ⟨g, 0, none⟩)) (w' := w2) (by go_simp) ⟨rfl, Below.refl _ _⟩
        · have d24 := hD.out 2 24 (by simp [hdep]) rfl
          rw [show vals 2 = .pointer (some ⟨g, 0, none⟩) from hV 2 (by simp [hdep])] at d24
          exact step_run rfl (v := .pointer (some ⟨g, 2, none⟩)) (w' := w2) (by go_simp) ⟨rfl, Below.refl _ _⟩
        · have d25 := hD.out 3 25 (by simp [hdep]) rfl
          rw [show vals 3 = .pointer (some ⟨g, 2, none⟩) from hV 3 (by simp [hdep])] at d25
          have d23 := hD.out 1 23 (by simp [hdep]) rfl
          rw [show vals 1 = .int .i64 1 from hV 1 (by simp [hdep])] at d23
          exact step_run rfl (v := .pointer (some ⟨g, 3, none⟩)) (w' := w2) (by go_simp) ⟨rfl, Below.refl _ _⟩
        · have d26 := hD.out 4 26 (by simp [hdep]) rfl
          rw [show vals 4 = .pointer (some ⟨g, 3, none⟩) from hV 4 (by simp [hdep])] at d26
          exact step_run rfl (v := .pointer pr) (w' := w2) (by go_simp) ⟨rfl, Below.refl _ _⟩
        · exact step_run rfl (v := .pointer (some ⟨g, 0, none⟩)) (w' := w2) (by go_simp) ⟨rfl, Below.refl _ _⟩
        · exact step_run rfl (v := .int .i64 1) (w' := w2) (by go_simp) ⟨rfl, Below.refl _ _⟩
        · have d29 := hD.out 7 29 (by simp [hdep]) rfl
          rw [show vals 7 = .int .i64 1 from hV 7 (by simp [hdep])] at d29
          refine step_enter rfl (w' := w2) (by go_simp) ((other_high w2).mono ?_)
          rintro e w1 ⟨rfl, rfl⟩
          exact ⟨_, rfl, rfl, Below.refl _ _⟩
        · have d28 := hD.out 6 28 (by simp [hdep]) rfl
          rw [show vals 6 = .pointer (some ⟨g, 0, none⟩) from hV 6 (by simp [hdep])] at d28
          exact step_run rfl (v := .pointer (some ⟨g, 0, none⟩)) (w' := w2) (by go_simp) ⟨rfl, Below.refl _ _⟩
        · have d31 := hD.out 9 31 (by simp [hdep]) rfl
          rw [show vals 9 = .pointer (some ⟨g, 0, none⟩) from hV 9 (by simp [hdep])] at d31
          exact step_run rfl (v := .pointer (some ⟨g, 2, none⟩)) (w' := w2) (by go_simp) ⟨rfl, Below.refl _ _⟩
        · have d32 := hD.out 10 32 (by simp [hdep]) rfl
          rw [show vals 10 = .pointer (some ⟨g, 2, none⟩) from hV 10 (by simp [hdep])] at d32
          have d30 := hD.out 8 30 (by simp [hdep]) rfl
          rw [show vals 8 = .int .i64 0 from hV 8 (by simp [hdep])] at d30
          exact step_run rfl (v := .pointer (some ⟨g, 2, none⟩)) (w' := w2) (by go_simp) ⟨rfl, Below.refl _ _⟩
        · have d33 := hD.out 11 33 (by simp [hdep]) rfl
          rw [show vals 11 = .pointer (some ⟨g, 2, none⟩) from hV 11 (by simp [hdep])] at d33
          exact step_run rfl (v := .pointer pl) (w' := w2) (by go_simp) ⟨rfl, Below.refl _ _⟩
        · have d27 := hD.out 5 27 (by simp [hdep]) rfl
          rw [show vals 5 = .pointer pr from hV 5 (by simp [hdep])] at d27
          exact step_run rfl (v := .pointer pr) (w' := w2) (by go_simp) ⟨rfl, Below.refl _ _⟩
        · have d34 := hD.out 12 34 (by simp [hdep]) rfl
          rw [show vals 12 = .pointer pl from hV 12 (by simp [hdep])] at d34
          exact step_run rfl (v := .pointer pl) (w' := w2) (by go_simp) ⟨rfl, Below.refl _ _⟩
      · intro vals w2 hJ hV
        have e0 : vals 0 = .pointer (some ⟨g, 0, none⟩) := hV 0 (by decide)
        have e1 : vals 1 = .int .i64 1 := hV 1 (by decide)
        have e2 : vals 2 = .pointer (some ⟨g, 0, none⟩) := hV 2 (by decide)
        have e3 : vals 3 = .pointer (some ⟨g, 2, none⟩) := hV 3 (by decide)
        have e4 : vals 4 = .pointer (some ⟨g, 3, none⟩) := hV 4 (by decide)
        have e5 : vals 5 = .pointer pr := hV 5 (by decide)
        have e6 : vals 6 = .pointer (some ⟨g, 0, none⟩) := hV 6 (by decide)
        have e7 : vals 7 = .int .i64 1 := hV 7 (by decide)
        have e8 : vals 8 = .int .i64 0 := hV 8 (by decide)
        have e9 : vals 9 = .pointer (some ⟨g, 0, none⟩) := hV 9 (by decide)
        have e10 : vals 10 = .pointer (some ⟨g, 2, none⟩) := hV 10 (by decide)
        have e11 : vals 11 = .pointer (some ⟨g, 2, none⟩) := hV 11 (by decide)
        have e12 : vals 12 = .pointer pl := hV 12 (by decide)
        have e13 : vals 13 = .pointer pr := hV 13 (by decide)
        have e14 : vals 14 = .pointer pl := hV 14 (by decide)
        simp only [putsL, Act.put, List.setIfInBounds_toArray, List.set_cons_zero, List.set_cons_succ, e0, e1, e2, e3, e4, e5, e6, e7, e8, e9, e10, e11, e12, e13, e14]
        clear e0 e1 e2 e3 e4 e5 e6 e7 e8 e9 e10 e11 e12 e13 e14
        have HJ2 := Lib.hid hJ
        have HN2 := Lib.hid (HN.out.below hJ)
        have HQ2 := Lib.hid (HQ0.out.below hJ)
        have c0 : w2.cell? ⟨w.heap.size, 0, none⟩ = some (.int .i64 k) := by rw [hJ.cell (p := ⟨w.heap.size, 0, none⟩) hZ1.out]; exact hC0.out
        have c1 : w2.cell? ⟨w.heap.size, 1, none⟩ = some (.string v) := by rw [hJ.cell (p := ⟨w.heap.size, 1, none⟩) hZ1.out]; exact hC1.out
        have hC02 := Lib.hid c0
        have hC12 := Lib.hid c1
        have hZ2 := Lib.hid (show w.heap.size < w2.heap.size by have := hJ.size; have := hZ1.out; omega)
        have HI2 := Lib.hid HN2.out.hl
        have HO2 := Lib.hid HN2.out.hr
        have HB2 := Lib.hid (HB0.out.trans (hJ.mono HB0.out.size))
        clear hJ hV c0 c1
        go_wp2_with fail
        refine (depth_anyIs HI2.out).mono ?_
        rintro e wz ⟨rfl, rfl⟩
        go_wp2_with fail
        refine (depth_anyIs HO2.out).mono ?_
        rintro e wz ⟨rfl, rfl⟩
        by_cases h2 : l.deep ≤ r.deep
        · have hle2 : ((l.deep : Nat) : Int) ≤ ((r.deep : Nat) : Int) := by omega
          have HR := Lib.hid (even_outer_true (x := (k, v)) HNO.out h2)
          go_wp2_with fail
          clear hle2
          refine wp_region_mono mx (by kernel_rfl) [VP.eq (.pointer (some ⟨g, 0, none⟩)), VP.eq (.pointer (some ⟨g, 0, none⟩)), VP.eq (.pointer (some ⟨g, 0, none⟩)), VP.eq (.agg #[.int .i64 nk, .string nv]), VP.eq (.int .i64 1), VP.eq (.pointer pr), VP.eq (.agg #[.int .i64 k, .string v]), VP.eq (.int .i64 1), VP.eq (.pointer pl), VP.eq (.pointer q), TrPIs S (mkT true (k, v) l b), TrPIs S (mkT true (nk, nv) r (mkT true (k, v) l b)), TrPIs S (mkT true (nk, nv) r (mkT true (k, v) l b))] ?_ ?_
          · intro i o L vals w3 hi hL hdep hC hJ hV
            have hlt : i < 13 := by have := (List.getElem?_eq_some_iff.1 hi).1; simpa using this
            generalize hA : frA _ _ L vals = a'
            have hT1 : a'.tmps.getD 1 undef = .int .i64 1 := by rw [← hA, frA_base (by kernel_rfl)]; rfl
            have hT2 : a'.tmps.getD 2 undef = .pointer (some ⟨g, 0, none⟩) := by rw [← hA, frA_base (by kernel_rfl)]; rfl
            have hT3 : a'.tmps.getD 3 undef = .pointer q := by rw [← hA, frA_base (by kernel_rfl)]; rfl
            have hT4 : a'.tmps.getD 4 undef = .pointer (some ⟨w.heap.size, 0, none⟩) := by rw [← hA, frA_base (by kernel_rfl)]; rfl
            have hT9 : a'.tmps.getD 9 undef = .pointer pr := by rw [← hA, frA_base (by kernel_rfl)]; rfl
            have hT10 : a'.tmps.getD 10 undef = .pointer pl := by rw [← hA, frA_base (by kernel_rfl)]; rfl
            have hD := Lib.hid (fun k t (hk : L k = true) (ht : dstOf _ k = some t) => hA ▸ frA_done (by kernel_rfl) (vals := vals) hk ht)
            clear hA
            have n0 := (HN2.out.below hJ).c0
            have n1 := (HN2.out.below hJ).c1
            have c0 : w3.cell? ⟨w.heap.size, 0, none⟩ = some (.int .i64 k) := by rw [hJ.cell (p := ⟨w.heap.size, 0, none⟩) hZ2.out]; exact hC02.out
            have c1 : w3.cell? ⟨w.heap.size, 1, none⟩ = some (.string v) := by rw [hJ.cell (p := ⟨w.heap.size, 1, none⟩) hZ2.out]; exact hC12.out
            have hS3 : ∀ j, w3.heap.size ≤ j → S j := fun j hj => hS.out j (by have := hJ.size; have := HB2.out.size; omega)
            simp only [GT.many] at hn
            obtain rfl | rfl | rfl | rfl | rfl | rfl | rfl | rfl | rfl | rfl | rfl | rfl | rfl : i = 0 ∨ i = 1 ∨ i = 2 ∨ i = 3 ∨ i = 4 ∨ i = 5 ∨ i = 6 ∨ i = 7 ∨ i = 8 ∨ i = 9 ∨ i = 10 ∨ i = 11 ∨ i = 12 := by omega
            all_goals
              injection hi with hi
              subst hi
              try simp [Region.binds] at hdep
            · exact step_run rfl (v := .pointer (some ⟨g, 0, none⟩)) (w' := w3) (by go_simp) ⟨rfl, Below.refl _ _⟩
            · have d40 := hD.out 0 40 (by simp [hdep]) rfl
              rw [show vals 0 = .pointer (some ⟨g, 0, none⟩) from hV 0 (by simp [hdep])] at d40
              exact step_run rfl (v := .pointer (some ⟨g, 0, none⟩)) (w' := w3) (by go_simp) ⟨rfl, Below.refl _ _⟩
            · have d41 := hD.out 1 41 (by simp [hdep]) rfl
              rw [show vals 1 = .pointer (some ⟨g, 0, none⟩) from hV 1 (by simp [hdep])] at d41
              exact step_run rfl (v := .pointer (some ⟨g, 0, none⟩)) (w' := w3) (by go_simp) ⟨rfl, Below.refl _ _⟩
            · have d42 := hD.out 2 42 (by simp [hdep]) rfl
              rw [show vals 2 = .pointer (some ⟨g, 0, none⟩) from hV 2 (by simp [hdep])] at d42
              exact step_run rfl (v := .agg #[.int .i64 nk, .string nv]) (w' := w3) (by go_simp) ⟨rfl, Below.refl _ _⟩
            · exact step_run rfl (v := .int .i64 1) (w' := w3) (by go_simp) ⟨rfl, Below.refl _ _⟩
            · exact step_run rfl (v := .pointer pr) (w' := w3) (by go_simp) ⟨rfl, Below.refl _ _⟩
            · exact step_run rfl (v := .agg #[.int .i64 k, .string v]) (w' := w3) (by go_simp) ⟨rfl, Below.refl _ _⟩
            · exact step_run rfl (v := .int .i64 1) (w' := w3) (by go_simp) ⟨rfl, Below.refl _ _⟩
            · exact step_run rfl (v := .pointer pl) (w' := w3) (by go_simp) ⟨rfl, Below.refl _ _⟩
            · exact step_run rfl (v := .pointer q) (w' := w3) (by go_simp) ⟨rfl, Below.refl _ _⟩
            · have d46 := hD.out 6 46 (by simp [hdep]) rfl
              rw [show vals 6 = .agg #[.int .i64 k, .string v] from hV 6 (by simp [hdep])] at d46
              have d47 := hD.out 7 47 (by simp [hdep]) rfl
              rw [show vals 7 = .int .i64 1 from hV 7 (by simp [hdep])] at d47
              have d48 := hD.out 8 48 (by simp [hdep]) rfl
              rw [show vals 8 = .pointer pl from hV 8 (by simp [hdep])] at d48
              have d49 := hD.out 9 49 (by simp [hdep]) rfl
              rw [show vals 9 = .pointer q from hV 9 (by simp [hdep])] at d49
              refine step_enter rfl (w' := w3) (by go_simp <;> rfl) ((grow_anyIs S w3 true k v pl q l b (HI2.out.below hJ) (HQ2.out.below hJ) hS3 (by omega)).mono ?_)
              rintro e w1 ⟨r, rfl, ht, hb1⟩
              exact ⟨_, rfl, ⟨r, rfl, ht⟩, hb1⟩
            · have d43 := hD.out 3 43 (by simp [hdep]) rfl
              rw [show vals 3 = .agg #[.int .i64 nk, .string nv] from hV 3 (by simp [hdep])] at d43
              have d44 := hD.out 4 44 (by simp [hdep]) rfl
              rw [show vals 4 = .int .i64 1 from hV 4 (by simp [hdep])] at d44
              have d45 := hD.out 5 45 (by simp [hdep]) rfl
              rw [show vals 5 = .pointer pr from hV 5 (by simp [hdep])] at d45
              have d50 := hD.out 10 50 (by simp [hdep]) rfl
              obtain ⟨r50, hr50, ht50⟩ := hV 10 (by simp [hdep])
              rw [hr50] at d50
              refine step_enter rfl (w' := w3) (by go_simp <;> rfl) ((grow_anyIs S w3 true nk nv pr r50 r (mkT true (k, v) l b) (HO2.out.below hJ) ht50 hS3 (by rw [many_mk]; omega)).mono ?_)
              rintro e w1 ⟨r, rfl, ht, hb1⟩
              exact ⟨_, rfl, ⟨r, rfl, ht⟩, hb1⟩
            · have d51 := hD.out 11 51 (by simp [hdep]) rfl
              exact step_run rfl (v := vals 11) (w' := w3) (by go_simp) ⟨hV 11 (by simp [hdep]), Below.refl _ _⟩
          · intro vals w3 hJ hV
            have e0 : vals 0 = .pointer (some ⟨g, 0, none⟩) := hV 0 (by decide)
            have e1 : vals 1 = .pointer (some ⟨g, 0, none⟩) := hV 1 (by decide)
            have e2 : vals 2 = .pointer (some ⟨g, 0, none⟩) := hV 2 (by decide)
            have e3 : vals 3 = .agg #[.int .i64 nk, .string nv] := hV 3 (by decide)
            have e4 : vals 4 = .int .i64 1 := hV 4 (by decide)
            have e5 : vals 5 = .pointer pr := hV 5 (by decide)
            have e6 : vals 6 = .agg #[.int .i64 k, .string v] := hV 6 (by decide)
            have e7 : vals 7 = .int .i64 1 := hV 7 (by decide)
            have e8 : vals 8 = .pointer pl := hV 8 (by decide)
            have e9 : vals 9 = .pointer q := hV 9 (by decide)
            have q10 := hV 10 (by decide)
            have q11 := hV 11 (by decide)
            have q12 := hV 12 (by decide)
            simp only [putsL, Act.put, List.setIfInBounds_toArray, List.set_cons_zero, List.set_cons_succ, e0, e1, e2, e3, e4, e5, e6, e7, e8, e9]
            clear e0 e1 e2 e3 e4 e5 e6 e7 e8 e9
            obtain ⟨r, hr, ht⟩ := q12
            rw [hr]
            have HB3 := Lib.hid (HB2.out.trans (hJ.mono HB2.out.size))
            have HT3 := Lib.hid ht
            clear hJ hV q10 q11 hr ht
            go_wp2_with fail
            go_ret
            refine ⟨r, rfl, ?_, HB3.out⟩
            rw [HR.out]
            exact HT3.out
        · have hle2 : ¬ ((l.deep : Nat) : Int) ≤ ((r.deep : Nat) : Int) := by omega
          go_wp2_with fail
          clear hle2
          obtain ⟨ik, iv, il, ir, hir⟩ : ∃ ik iv il ir, l = GT.node ik iv il ir := by
            cases l with
            | nil => simp [GT.deep] at h2
            | node a b c d => exact ⟨a, b, c, d, rfl⟩
          subst hir
          have HR := Lib.hid (even_inner_true (x := (k, v)) HNO.out h2)
          obtain ⟨gi, jl, jr, rfl, hni⟩ := HI2.out.node
          have HNI := Lib.hid hni
          clear hni
          refine wp_region_mono mx (by kernel_rfl) [VP.eq (.pointer (some ⟨gi, 0, none⟩)), VP.eq (.pointer (some ⟨gi, 0, none⟩)), VP.eq (.pointer (some ⟨gi, 0, none⟩)), VP.eq (.agg #[.int .i64 ik, .string iv]), VP.eq (.int .i64 1), VP.eq (.pointer (some ⟨g, 0, none⟩)), VP.eq (.pointer (some ⟨g, 0, none⟩)), VP.eq (.pointer (some ⟨g, 0, none⟩)), VP.eq (.agg #[.int .i64 nk, .string nv]), VP.eq (.int .i64 1), VP.eq (.pointer pr), VP.eq (.pointer (some ⟨gi, 0, none⟩)), VP.eq (.int .i64 1), VP.eq (.pointer (some ⟨gi, 0, none⟩)), VP.eq (.pointer (some ⟨gi, 2, none⟩)), VP.eq (.pointer (some ⟨gi, 3, none⟩)), VP.eq (.pointer jr), TrPIs S (mkT true (nk, nv) r ir), VP.eq (.agg #[.int .i64 k, .string v]), VP.eq (.int .i64 1), VP.eq (.pointer (some ⟨gi, 0, none⟩)), VP.eq (.int .i64 1), VP.eq (.int .i64 0), VP.eq (.pointer (some ⟨gi, 0, none⟩)), VP.eq (.pointer (some ⟨gi, 2, none⟩)), VP.eq (.pointer (some ⟨gi, 2, none⟩)), VP.eq (.pointer jl), VP.eq (.pointer q), TrPIs S (mkT true (k, v) il b), TrPIs S (mkT true (ik, iv) (mkT true (nk, nv) r ir) (mkT true (k, v) il b)), TrPIs S (mkT true (ik, iv) (mkT true (nk, nv) r ir) (mkT true (k, v) il b))] ?_ ?_
          · intro i o L vals w3 hi hL hdep hC hJ hV
            have hlt : i < 31 := by have := (List.getElem?_eq_some_iff.1 hi).1; simpa using this
            generalize hA : frA _ _ L vals = a'
            have hT1 : a'.tmps.getD 1 undef = .int .i64 1 := by rw [← hA, frA_base (by kernel_rfl)]; rfl
            have hT2 : a'.tmps.getD 2 undef = .pointer (some ⟨g, 0, none⟩) := by rw [← hA, frA_base (by kernel_rfl)]; rfl
            have hT3 : a'.tmps.getD 3 undef = .pointer q := by rw [← hA, frA_base (by kernel_rfl)]; rfl
            have hT4 : a'.tmps.getD 4 undef = .pointer (some ⟨w.heap.size, 0, none⟩) := by rw [← hA, frA_base (by kernel_rfl)]; rfl
            have hT9 : a'.tmps.getD 9 undef = .pointer pr := by rw [← hA, frA_base (by kernel_rfl)]; rfl
            have hT10 : a'.tmps.getD 10 undef = .pointer (some ⟨gi, 0, none⟩) := by rw [← hA, frA_base (by kernel_rfl)]; rfl
            have hD := Lib.hid (fun k t (hk : L k = true) (ht : dstOf _ k = some t) => hA ▸ frA_done (by kernel_rfl) (vals := vals) hk ht)
            clear hA
            have n0 := (HN2.out.below hJ).c0
            have n1 := (HN2.out.below hJ).c1
            have i0 := (HNI.out.below hJ).c0
            have i1 := (HNI.out.below hJ).c1
            have i2 := (HNI.out.below hJ).c2
            have i3 := (HNI.out.below hJ).c3
            have c0 : w3.cell? ⟨w.heap.size, 0, none⟩ = some (.int .i64 k) := by rw [hJ.cell (p := ⟨w.heap.size, 0, none⟩) hZ2.out]; exact hC02.out
            have c1 : w3.cell? ⟨w.heap.size, 1, none⟩ = some (.string v) := by rw [hJ.cell (p := ⟨w.heap.size, 1, none⟩) hZ2.out]; exact hC12.out
            have hS3 : ∀ j, w3.heap.size ≤ j → S j := fun j hj => hS.out j (by have := hJ.size; have := HB2.out.size; omega)
            simp only [GT.many] at hn
            obtain rfl | rfl | rfl | rfl | rfl | rfl | rfl | rfl | rfl | rfl | rfl | rfl | rfl | rfl | rfl | rfl | rfl | rfl | rfl | rfl | rfl | rfl | rfl | rfl | rfl | rfl | rfl | rfl | rfl | rfl | rfl : i = 0 ∨ i = 1 ∨ i = 2 ∨ i = 3 ∨ i = 4 ∨ i = 5 ∨ i = 6 ∨ i = 7 ∨ i = 8 ∨ i = 9 ∨ i = 10 ∨ i = 11 ∨ i = 12 ∨ i = 13 ∨ i = 14 ∨ i = 15 ∨ i = 16 ∨ i = 17 ∨ i = 18 ∨ i = 19 ∨ i = 20 ∨ i = 21 ∨ i = 22 ∨ i = 23 ∨ i = 24 ∨ i = 25 ∨ i = 26 ∨ i = 27 ∨ i = 28 ∨ i = 29 ∨ i = 30 := by omega
            all_goals
              injection hi with hi
              subst hi
              try simp [Region.binds] at hdep
            · exact step_run rfl (v := .pointer (some ⟨gi, 0, none⟩)) (w' := w3) (by go_simp) ⟨rfl, Below.refl _ _⟩
            · have d52 := hD.out 0 52 (by simp [hdep]) rfl
              rw [show vals 0 = .pointer (some ⟨gi, 0, none⟩) from hV 0 (by simp [hdep])] at d52
              exact step_run rfl (v := .pointer (some ⟨gi, 0, none⟩)) (w' := w3) (by go_simp) ⟨rfl, Below.refl _ _⟩
            · have d53 := hD.out 1 53 (by simp [hdep]) rfl
              rw [show vals 1 = .pointer (some ⟨gi, 0, none⟩) from hV 1 (by simp [hdep])] at d53
              exact step_run rfl (v := .pointer (some ⟨gi, 0, none⟩)) (w' := w3) (by go_simp) ⟨rfl, Below.refl _ _⟩
            · have d54 := hD.out 2 54 (by simp [hdep]) rfl
              rw [show vals 2 = .pointer (some ⟨gi, 0, none⟩) from hV 2 (by simp [hdep])] at d54
              exact step_run rfl (v := .agg #[.int .i64 ik, .string iv]) (w' := w3) (by go_simp) ⟨rfl, Below.refl _ _⟩
            · exact step_run rfl (v := .int .i64 1) (w' := w3) (by go_simp) ⟨rfl, Below.refl _ _⟩
            · exact step_run rfl (v := .pointer (some ⟨g, 0, none⟩)) (w' := w3) (by go_simp) ⟨rfl, Below.refl _ _⟩
            · have d57 := hD.out 5 57 (by simp [hdep]) rfl
              rw [show vals 5 = .pointer (some ⟨g, 0, none⟩) from hV 5 (by simp [hdep])] at d57
              exact step_run rfl (v := .pointer (some ⟨g, 0, none⟩)) (w' := w3) (by go_simp) ⟨rfl, Below.refl _ _⟩
            · have d58 := hD.out 6 58 (by simp [hdep]) rfl
              rw [show vals 6 = .pointer (some ⟨g, 0, none⟩) from hV 6 (by simp [hdep])] at d58
              exact step_run rfl (v := .pointer (some ⟨g, 0, none⟩)) (w' := w3) (by go_simp) ⟨rfl, Below.refl _ _⟩
            · have d59 := hD.out 7 59 (by simp [hdep]) rfl
              rw [show vals 7 = .pointer (some ⟨g, 0, none⟩) from hV 7 (by simp [hdep])] at d59
              exact step_run rfl (v := .agg #[.int .i64 nk, .string nv]) (w' := w3) (by go_simp) ⟨rfl, Below.refl _ _⟩
            · exact step_run rfl (v := .int .i64 1) (w' := w3) (by go_simp) ⟨rfl, Below.refl _ _⟩
            · exact step_run rfl (v := .pointer pr) (w' := w3) (by go_simp) ⟨rfl, Below.refl _ _⟩
            · exact step_run rfl (v := .pointer (some ⟨gi, 0, none⟩)) (w' := w3) (by go_simp) ⟨rfl, Below.refl _ _⟩
            · exact step_run rfl (v := .int .i64 1) (w' := w3) (by go_simp) ⟨rfl, Below.refl _ _⟩
            · have d63 := hD.out 11 63 (by simp [hdep]) rfl
              rw [show vals 11 = .pointer (some ⟨gi, 0, none⟩) from hV 11 (by simp [hdep])] at d63
              exact step_run rfl (v := .pointer (some ⟨gi, 0, none⟩)) (w' := w3) (by go_simp) ⟨rfl, Below.refl _ _⟩
            · have d65 := hD.out 13 65 (by simp [hdep]) rfl
              rw [show vals 13 = .pointer (some ⟨gi, 0, none⟩) from hV 13 (by simp [hdep])] at d65
              exact step_run rfl (v := .pointer (some ⟨gi, 2, none⟩)) (w' := w3) (by go_simp) ⟨rfl, Below.refl _ _⟩
            · have d66 := hD.out 14 66 (by simp [hdep]) rfl
              rw [show vals 14 = .pointer (some ⟨gi, 2, none⟩) from hV 14 (by simp [hdep])] at d66
              have d64 := hD.out 12 64 (by simp [hdep]) rfl
              rw [show vals 12 = .int .i64 1 from hV 12 (by simp [hdep])] at d64
              exact step_run rfl (v := .pointer (some ⟨gi, 3, none⟩)) (w' := w3) (by go_simp) ⟨rfl, Below.refl _ _⟩
            · have d67 := hD.out 15 67 (by simp [hdep]) rfl
              rw [show vals 15 = .pointer (some ⟨gi, 3, none⟩) from hV 15 (by simp [hdep])] at d67
              exact step_run rfl (v := .pointer jr) (w' := w3) (by go_simp) ⟨rfl, Below.refl _ _⟩
            · have d60 := hD.out 8 60 (by simp [hdep]) rfl
              rw [show vals 8 = .agg #[.int .i64 nk, .string nv] from hV 8 (by simp [hdep])] at d60
              have d61 := hD.out 9 61 (by simp [hdep]) rfl
              rw [show vals 9 = .int .i64 1 from hV 9 (by simp [hdep])] at d61
              have d62 := hD.out 10 62 (by simp [hdep]) rfl
              rw [show vals 10 = .pointer pr from hV 10 (by simp [hdep])] at d62
              have d68 := hD.out 16 68 (by simp [hdep]) rfl
              rw [show vals 16 = .pointer jr from hV 16 (by simp [hdep])] at d68
              refine step_enter rfl (w' := w3) (by go_simp <;> rfl) ((grow_anyIs S w3 true nk nv pr jr r ir (HO2.out.below hJ) (HNI.out.below hJ).hr hS3 (by omega)).mono ?_)
              rintro e w1 ⟨r, rfl, ht, hb1⟩
              exact ⟨_, rfl, ⟨r, rfl, ht⟩, hb1⟩
            · exact step_run rfl (v := .agg #[.int .i64 k, .string v]) (w' := w3) (by go_simp) ⟨rfl, Below.refl _ _⟩
            · exact step_run rfl (v := .int .i64 1) (w' := w3) (by go_simp) ⟨rfl, Below.refl _ _⟩
            · exact step_run rfl (v := .pointer (some ⟨gi, 0, none⟩)) (w' := w3) (by go_simp) ⟨rfl, Below.refl _ _⟩
            · exact step_run rfl (v := .int .i64 1) (w' := w3) (by go_simp) ⟨rfl, Below.refl _ _⟩
            · have d73 := hD.out 21 73 (by simp [hdep]) rfl
              rw [show vals 21 = .int .i64 1 from hV 21 (by simp [hdep])] at d73
              refine step_enter rfl (w' := w3) (by go_simp) ((other_high w3).mono ?_)
              rintro e w1 ⟨rfl, rfl⟩
              exact ⟨_, rfl, rfl, Below.refl _ _⟩
            · have d72 := hD.out 20 72 (by simp [hdep]) rfl
              rw [show vals 20 = .pointer (some ⟨gi, 0, none⟩) from hV 20 (by simp [hdep])] at d72
              exact step_run rfl (v := .pointer (some ⟨gi, 0, none⟩)) (w' := w3) (by go_simp) ⟨rfl, Below.refl _ _⟩
            · have d75 := hD.out 23 75 (by simp [hdep]) rfl
              rw [show vals 23 = .pointer (some ⟨gi, 0, none⟩) from hV 23 (by simp [hdep])] at d75
              exact step_run rfl (v := .pointer (some ⟨gi, 2, none⟩)) (w' := w3) (by go_simp) ⟨rfl, Below.refl _ _⟩
            · have d76 := hD.out 24 76 (by simp [hdep]) rfl
              rw [show vals 24 = .pointer (some ⟨gi, 2, none⟩) from hV 24 (by simp [hdep])] at d76
              have d74 := hD.out 22 74 (by simp [hdep]) rfl
              rw [show vals 22 = .int .i64 0 from hV 22 (by simp [hdep])] at d74
              exact step_run rfl (v := .pointer (some ⟨gi, 2, none⟩)) (w' := w3) (by go_simp) ⟨rfl, Below.refl _ _⟩
            · have d77 := hD.out 25 77 (by simp [hdep]) rfl
              rw [show vals 25 = .pointer (some ⟨gi, 2, none⟩) from hV 25 (by simp [hdep])] at d77
              exact step_run rfl (v := .pointer jl) (w' := w3) (by go_simp) ⟨rfl, Below.refl _ _⟩
            · exact step_run rfl (v := .pointer q) (w' := w3) (by go_simp) ⟨rfl, Below.refl _ _⟩
            · have d70 := hD.out 18 70 (by simp [hdep]) rfl
              rw [show vals 18 = .agg #[.int .i64 k, .string v] from hV 18 (by simp [hdep])] at d70
              have d71 := hD.out 19 71 (by simp [hdep]) rfl
              rw [show vals 19 = .int .i64 1 from hV 19 (by simp [hdep])] at d71
              have d78 := hD.out 26 78 (by simp [hdep]) rfl
              rw [show vals 26 = .pointer jl from hV 26 (by simp [hdep])] at d78
              have d79 := hD.out 27 79 (by simp [hdep]) rfl
              rw [show vals 27 = .pointer q from hV 27 (by simp [hdep])] at d79
              refine step_enter rfl (w' := w3) (by go_simp <;> rfl) ((grow_anyIs S w3 true k v jl q il b (HNI.out.below hJ).hl (HQ2.out.below hJ) hS3 (by omega)).mono ?_)
              rintro e w1 ⟨r, rfl, ht, hb1⟩
              exact ⟨_, rfl, ⟨r, rfl, ht⟩, hb1⟩
            · have d55 := hD.out 3 55 (by simp [hdep]) rfl
              rw [show vals 3 = .agg #[.int .i64 ik, .string iv] from hV 3 (by simp [hdep])] at d55
              have d56 := hD.out 4 56 (by simp [hdep]) rfl
              rw [show vals 4 = .int .i64 1 from hV 4 (by simp [hdep])] at d56
              have d69 := hD.out 17 69 (by simp [hdep]) rfl
              have d80 := hD.out 28 80 (by simp [hdep]) rfl
              obtain ⟨r69, hr69, ht69⟩ := hV 17 (by simp [hdep])
              rw [hr69] at d69
              obtain ⟨r80, hr80, ht80⟩ := hV 28 (by simp [hdep])
              rw [hr80] at d80
              refine step_enter rfl (w' := w3) (by go_simp <;> rfl) ((grow_anyIs S w3 true ik iv r69 r80 (mkT true (nk, nv) r ir) (mkT true (k, v) il b) ht69 ht80 hS3 (by rw [many_mk, many_mk]; omega)).mono ?_)
              rintro e w1 ⟨r, rfl, ht, hb1⟩
              exact ⟨_, rfl, ⟨r, rfl, ht⟩, hb1⟩
            · have d81 := hD.out 29 81 (by simp [hdep]) rfl
              exact step_run rfl (v := vals 29) (w' := w3) (by go_simp) ⟨hV 29 (by simp [hdep]), Below.refl _ _⟩
          · intro vals w3 hJ hV
            have e0 : vals 0 = .pointer (some ⟨gi, 0, none⟩) := hV 0 (by decide)
            have e1 : vals 1 = .pointer (some ⟨gi, 0, none⟩) := hV 1 (by decide)
            have e2 : vals 2 = .pointer (some ⟨gi, 0, none⟩) := hV 2 (by decide)
            have e3 : vals 3 = .agg #[.int .i64 ik, .string iv] := hV 3 (by decide)
            have e4 : vals 4 = .int .i64 1 := hV 4 (by decide)
            have e5 : vals 5 = .pointer (some ⟨g, 0, none⟩) := hV 5 (by decide)
            have e6 : vals 6 = .pointer (some ⟨g, 0, none⟩) := hV 6 (by decide)
            have e7 : vals 7 = .pointer (some ⟨g, 0, none⟩) := hV 7 (by decide)
            have e8 : vals 8 = .agg #[.int .i64 nk, .string nv] := hV 8 (by decide)
            have e9 : vals 9 = .int .i64 1 := hV 9 (by decide)
            have e10 : vals 10 = .pointer pr := hV 10 (by decide)
            have e11 : vals 11 = .pointer (some ⟨gi, 0, none⟩) := hV 11 (by decide)
            have e12 : vals 12 = .int .i64 1 := hV 12 (by decide)
            have e13 : vals 13 = .pointer (some ⟨gi, 0, none⟩) := hV 13 (by decide)
            have e14 : vals 14 = .pointer (some ⟨gi, 2, none⟩) := hV 14 (by decide)
            have e15 : vals 15 = .pointer (some ⟨gi, 3, none⟩) := hV 15 (by decide)
            have e16 : vals 16 = .pointer jr := hV 16 (by decide)
            have q17 := hV 17 (by decide)
            have e18 : vals 18 = .agg #[.int .i64 k, .string v] := hV 18 (by decide)
            have e19 : vals 19 = .int .i64 1 := hV 19 (by decide)
            have e20 : vals 20 = .pointer (some ⟨gi, 0, none⟩) := hV 20 (by decide)
            have e21 : vals 21 = .int .i64 1 := hV 21 (by decide)
            have e22 : vals 22 = .int .i64 0 := hV 22 (by decide)
            have e23 : vals 23 = .pointer (some ⟨gi, 0, none⟩) := hV 23 (by decide)
            have e24 : vals 24 = .pointer (some ⟨gi, 2, none⟩) := hV 24 (by decide)
            have e25 : vals 25 = .pointer (some ⟨gi, 2, none⟩) := hV 25 (by decide)
            have e26 : vals 26 = .pointer jl := hV 26 (by decide)
            have e27 : vals 27 = .pointer q := hV 27 (by decide)
            have q28 := hV 28 (by decide)
            have q29 := hV 29 (by decide)
            have q30 := hV 30 (by decide)
            simp only [putsL, Act.put, List.setIfInBounds_toArray, List.set_cons_zero, List.set_cons_succ, e0, e1, e2, e3, e4, e5, e6, e7, e8, e9, e10, e11, e12, e13, e14, e15, e16, e18, e19, e20, e21, e22, e23, e24, e25, e26, e27]
            clear e0 e1 e2 e3 e4 e5 e6 e7 e8 e9 e10 e11 e12 e13 e14 e15 e16 e18 e19 e20 e21 e22 e23 e24 e25 e26 e27
            obtain ⟨r, hr, ht⟩ := q30
            rw [hr]
            have HB3 := Lib.hid (HB2.out.trans (hJ.mono HB2.out.size))
            have HT3 := Lib.hid ht
            clear hJ hV q17 q28 q29 hr ht
            go_wp2_with fail
            go_ret
            refine ⟨r, rfl, ?_, HB3.out⟩
            rw [HR.out]
            exact HT3.out
end Go.Proofs.Ytaghflionakhhaa
