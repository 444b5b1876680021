/-
  Layer grove, at int, string: a tree with what is put into it.
-/
import Derived.Test.YtaghflionakhhaaGvEvenIs
namespace Go.Proofs.Ytaghflionakhhaa
open Go.RowKit Go.Gz

/-- F compares keys of P as c does. -/
structure OrdIs (F : FuncId) (c : Int → Int → Int) (P : Int → Prop) : Prop where
  eg : ∀ args w, (callFunc F args).run Try.prog w = .ok (.enter F args) w
  hF : ∀ a b w, P a → P b → Calls Try.prog F #[.int .i64 a, .int .i64 b] w fun e w' => e = .returned (.int .i64 (c a b)) ∧ w = w'

set_option maxHeartbeats 4000000 in
set_option maxRecDepth 100000 in
theorem with_anyIs {S : Nat → Prop} {F : FuncId} {c : Int → Int → Int} {P : Int → Prop} (hO : OrdIs F c P) (gb : Nat) (k : Int) (v : ByteArray) (t : GT Int ByteArray) :
    ∀ (w : World) (p : Option Addr), gb < w.heap.size → w.cell? ⟨gb, 0, none⟩ = some (.func (.func F) #[] #[]) → TrIs S w p t → (∀ j, w.heap.size ≤ j → S j) → t.many ≤ 1000000 → P k → (∀ q ∈ t.list, P q.1) →
    Calls Try.prog 74 #[.pointer (some ⟨gb, 0, none⟩), .pointer p, .agg #[.int .i64 k, .string v]] w (GotIs S w (withT c k v t)) := by
  have mx := mixedS
  have eg := hO.eg
  have HF := Lib.hid hO.hF
  induction t with
  | nil =>
    intro w p hgl hg ht hS hm hk hp
    obtain rfl : p = none := ht
    have hS := Lib.hid hS
    obtain ⟨w0, hw0⟩ : ∃ w0, w.alloc (.cells #[.int .i64 k, .string v] 99) = w0 := ⟨_, rfl⟩
    have HB0 := Lib.hid (show Below w.heap.size w w0 from hw0 ▸ (Below.refl _ _).alloc (Nat.le_refl _) _)
    have c0 : w0.cell? ⟨w.heap.size, 0, none⟩ = some (.int .i64 k) := by rw [← hw0]; simp [go_sem]
    have c1 : w0.cell? ⟨w.heap.size, 1, none⟩ = some (.string v) := by rw [← hw0]; simp [go_sem]
    clear hgl hg hm hk hp
    go_enter Try.func74, Try.ntmps74
    go_wp2_with fail
    refine (grow_anyIs S w0 false k v none none .nil .nil TrS.nil TrS.nil (fun j hj => hS.out j (by have := HB0.out.size; omega)) (by simp [GT.many])).mono ?_
    rintro e w1 ⟨r, rfl, ht, hb1⟩
    have HT := Lib.hid ht
    have HB := Lib.hid (HB0.out.trans (hb1.mono HB0.out.size))
    clear ht hb1 hw0
    go_wp2_with fail
    go_ret
    exact ⟨r, rfl, HT.out, HB.out⟩
  | node xk xv l r ihl ihr =>
    intro w p hgl hg ht hS hm hk hp
    obtain ⟨g, pl, pr, rfl, hn⟩ := TrS.node ht
    have hS := Lib.hid hS
    have HM := Lib.hid hm
    have HPk := Lib.hid hk
    have HPt := Lib.hid hp
    obtain ⟨w0, hw0⟩ : ∃ w0, w.alloc (.cells #[.int .i64 k, .string v] 99) = w0 := ⟨_, rfl⟩
    have hb0 : Below w.heap.size w w0 := hw0 ▸ (Below.refl _ _).alloc (Nat.le_refl _) _
    have HB0 := Lib.hid hb0
    have c0 : w0.cell? ⟨w.heap.size, 0, none⟩ = some (.int .i64 k) := by rw [← hw0]; simp [go_sem]
    have c1 : w0.cell? ⟨w.heap.size, 1, none⟩ = some (.string v) := by rw [← hw0]; simp [go_sem]
    have HG0 := Lib.hid (show w0.cell? ⟨gb, 0, none⟩ = some (.func (.func F) #[] #[]) by rw [hb0.cell (p := ⟨gb, 0, none⟩) hgl]; exact hg)
    have HGL0 := Lib.hid (show gb < w0.heap.size by have := hb0.size; omega)
    have HN := Lib.hid (hn.below hb0)
    have hC0 := Lib.hid c0
    have hC1 := Lib.hid c1
    have hZ1 := Lib.hid (show w.heap.size < w0.heap.size by rw [← hw0]; simp)
    have IHL := Lib.hid ihl
    have IHR := Lib.hid ihr
    have CC := Lib.hid (HF.out k xk)
    have HPx := Lib.hid (hp (xk, xv) (by simp [GT.list]))
    obtain ⟨d, hd⟩ : ∃ d, c k xk = d := ⟨_, rfl⟩
    rw [hd] at CC
    have HD := Lib.hid hd
    clear ihl ihr hgl hg ht hm hk hp hn hb0 c0 c1 hd
    go_enter Try.func74, Try.ntmps74
    go_wp2_with fail
    clear hw0
    refine wp_region_mono mx (by kernel_rfl) [VP.eq (.pointer (some ⟨gb, 0, none⟩)), VP.eq (.pointer (some ⟨gb, 0, none⟩)), VP.eq (.pointer (some ⟨gb, 0, none⟩)), VP.eq (.func (.func F) #[] #[]), VP.eq (.pointer (some ⟨w.heap.size, 0, none⟩)), VP.eq (.int .i64 k), VP.eq (.pointer (some ⟨g, 0, none⟩)), VP.eq (.pointer (some ⟨g, 0, none⟩)), VP.eq (.pointer (some ⟨g, 0, none⟩)), VP.eq (.pointer (some ⟨g, 0, none⟩)), VP.eq (.int .i64 xk), VP.eq (.int .i64 d), VP.eq (.int .i64 d)] ?_ ?_
    · intro i o L vals w2 hi hL hdep hC hJ hV
      have hlt : i < 13 := by have := (List.getElem?_eq_some_iff.1 hi).1; simpa using this
      generalize hA : frA _ _ L vals = a'
      have hT0 : a'.tmps.getD 0 undef = .pointer (some ⟨gb, 0, none⟩) := by rw [← hA, frA_base (by kernel_rfl)]; rfl
      have hT1 : a'.tmps.getD 1 undef = .pointer (some ⟨g, 0, none⟩) := by rw [← hA, frA_base (by kernel_rfl)]; rfl
      have hT5 : a'.tmps.getD 5 undef = .pointer (some ⟨w.heap.size, 0, none⟩) := by rw [← hA, frA_base (by kernel_rfl)]; rfl
      have hD := Lib.hid (fun k t (hk : L k = true) (ht : dstOf _ k = some t) => hA ▸ frA_done (by kernel_rfl) (vals := vals) hk ht)
      clear hA
      have n0 := (HN.out.below hJ).c0
      have c0 : w2.cell? ⟨w.heap.size, 0, none⟩ = some (.int .i64 k) := by rw [hJ.cell (p := ⟨w.heap.size, 0, none⟩) hZ1.out]; exact hC0.out
      have g0 : w2.cell? ⟨gb, 0, none⟩ = some (.func (.func F) #[] #[]) := by rw [hJ.cell (p := ⟨gb, 0, none⟩) HGL0.out]; exact HG0.out
      obtain rfl | rfl | rfl | rfl | rfl | rfl | rfl | rfl | rfl | rfl | rfl | rfl | rfl : i = 0 ∨ i = 1 ∨ i = 2 ∨ i = 3 ∨ i = 4 ∨ i = 5 ∨ i = 6 ∨ i = 7 ∨ i = 8 ∨ i = 9 ∨ i = 10 ∨ i = 11 ∨ i = 12 := by omega
      all_goals
        injection hi with hi
        subst hi
        try simp [Region.binds] at hdep
      · exact step_run rfl (v := .pointer (some ⟨gb, 0, none⟩)) (w' := w2) (by go_simp) ⟨rfl, Below.refl _ _⟩
      · have d13 := hD.out 0 13 (by simp [hdep]) rfl
        rw [show vals 0 = .pointer (some ⟨gb, 0, none⟩) from hV 0 (by simp [hdep])] at d13
        exact step_run rfl (v := .pointer (some ⟨gb, 0, none⟩)) (w' := w2) (by go_simp) ⟨rfl, Below.refl _ _⟩
      · have d14 := hD.out 1 14 (by simp [hdep]) rfl
        rw [show vals 1 = .pointer (some ⟨gb, 0, none⟩) from hV 1 (by simp [hdep])] at d14
        exact step_run rfl (v := .pointer (some ⟨gb, 0, none⟩)) (w' := w2) (by go_simp) ⟨rfl, Below.refl _ _⟩
      · have d15 := hD.out 2 15 (by simp [hdep]) rfl
        rw [show vals 2 = .pointer (some ⟨gb, 0, none⟩) from hV 2 (by simp [hdep])] at d15
        exact step_run rfl (v := .func (.func F) #[] #[]) (w' := w2) (by go_simp) ⟨rfl, Below.refl _ _⟩
      · exact step_run rfl (v := .pointer (some ⟨w.heap.size, 0, none⟩)) (w' := w2) (by go_simp) ⟨rfl, Below.refl _ _⟩
      · have d17 := hD.out 4 17 (by simp [hdep]) rfl
        rw [show vals 4 = .pointer (some ⟨w.heap.size, 0, none⟩) from hV 4 (by simp [hdep])] at d17
        exact step_run rfl (v := .int .i64 k) (w' := w2) (by go_simp) ⟨rfl, Below.refl _ _⟩
      · exact step_run rfl (v := .pointer (some ⟨g, 0, none⟩)) (w' := w2) (by go_simp) ⟨rfl, Below.refl _ _⟩
      · have d19 := hD.out 6 19 (by simp [hdep]) rfl
        rw [show vals 6 = .pointer (some ⟨g, 0, none⟩) from hV 6 (by simp [hdep])] at d19
        exact step_run rfl (v := .pointer (some ⟨g, 0, none⟩)) (w' := w2) (by go_simp) ⟨rfl, Below.refl _ _⟩
      · have d20 := hD.out 7 20 (by simp [hdep]) rfl
        rw [show vals 7 = .pointer (some ⟨g, 0, none⟩) from hV 7 (by simp [hdep])] at d20
        exact step_run rfl (v := .pointer (some ⟨g, 0, none⟩)) (w' := w2) (by go_simp) ⟨rfl, Below.refl _ _⟩
      · have d21 := hD.out 8 21 (by simp [hdep]) rfl
        rw [show vals 8 = .pointer (some ⟨g, 0, none⟩) from hV 8 (by simp [hdep])] at d21
        exact step_run rfl (v := .pointer (some ⟨g, 0, none⟩)) (w' := w2) (by go_simp) ⟨rfl, Below.refl _ _⟩
      · have d22 := hD.out 9 22 (by simp [hdep]) rfl
        rw [show vals 9 = .pointer (some ⟨g, 0, none⟩) from hV 9 (by simp [hdep])] at d22
        exact step_run rfl (v := .int .i64 xk) (w' := w2) (by go_simp) ⟨rfl, Below.refl _ _⟩
      · have d16 := hD.out 3 16 (by simp [hdep]) rfl
        rw [show vals 3 = .func (.func F) #[] #[] from hV 3 (by simp [hdep])] at d16
        have d18 := hD.out 5 18 (by simp [hdep]) rfl
        rw [show vals 5 = .int .i64 k from hV 5 (by simp [hdep])] at d18
        have d23 := hD.out 10 23 (by simp [hdep]) rfl
        rw [show vals 10 = .int .i64 xk from hV 10 (by simp [hdep])] at d23
        refine step_enter rfl (w' := w2) (by go_simp) ((CC.out w2 HPk.out HPx.out).mono ?_)
        rintro e w1 ⟨rfl, rfl⟩
        exact ⟨_, rfl, rfl, Below.refl _ _⟩
      · have d24 := hD.out 11 24 (by simp [hdep]) rfl
        rw [show vals 11 = .int .i64 d from hV 11 (by simp [hdep])] at d24
        exact step_run rfl (v := .int .i64 d) (w' := w2) (by go_simp) ⟨rfl, Below.refl _ _⟩
    · intro vals w2 hJ hV
      have e0 : vals 0 = .pointer (some ⟨gb, 0, none⟩) := hV 0 (by decide)
      have e1 : vals 1 = .pointer (some ⟨gb, 0, none⟩) := hV 1 (by decide)
      have e2 : vals 2 = .pointer (some ⟨gb, 0, none⟩) := hV 2 (by decide)
      have e3 : vals 3 = .func (.func F) #[] #[] := hV 3 (by decide)
      have e4 : vals 4 = .pointer (some ⟨w.heap.size, 0, none⟩) := hV 4 (by decide)
      have e5 : vals 5 = .int .i64 k := hV 5 (by decide)
      have e6 : vals 6 = .pointer (some ⟨g, 0, none⟩) := hV 6 (by decide)
      have e7 : vals 7 = .pointer (some ⟨g, 0, none⟩) := hV 7 (by decide)
      have e8 : vals 8 = .pointer (some ⟨g, 0, none⟩) := hV 8 (by decide)
      have e9 : vals 9 = .pointer (some ⟨g, 0, none⟩) := hV 9 (by decide)
      have e10 : vals 10 = .int .i64 xk := hV 10 (by decide)
      have e11 : vals 11 = .int .i64 d := hV 11 (by decide)
      have e12 : vals 12 = .int .i64 d := hV 12 (by decide)
      simp only [putsL, Act.put, List.setIfInBounds_toArray, List.set_cons_zero, List.set_cons_succ, e0, e1, e2, e3, e4, e5, e6, e7, e8, e9, e10, e11, e12]
      clear e0 e1 e2 e3 e4 e5 e6 e7 e8 e9 e10 e11 e12
      have HN2 := Lib.hid (HN.out.below hJ)
      have hC02 := Lib.hid (show w2.cell? ⟨w.heap.size, 0, none⟩ = some (.int .i64 k) by rw [hJ.cell (p := ⟨w.heap.size, 0, none⟩) hZ1.out]; exact hC0.out)
      have hC12 := Lib.hid (show w2.cell? ⟨w.heap.size, 1, none⟩ = some (.string v) by rw [hJ.cell (p := ⟨w.heap.size, 1, none⟩) hZ1.out]; exact hC1.out)
      have hZ2 := Lib.hid (show w.heap.size < w2.heap.size by have := hJ.size; have := hZ1.out; omega)
      have HB2 := Lib.hid (HB0.out.trans (hJ.mono HB0.out.size))
      have HG2 := Lib.hid (show w2.cell? ⟨gb, 0, none⟩ = some (.func (.func F) #[] #[]) by rw [hJ.cell (p := ⟨gb, 0, none⟩) HGL0.out]; exact HG0.out)
      have HGL2 := Lib.hid (show gb < w2.heap.size by have := hJ.size; have := HGL0.out; omega)
      clear hJ hV HG0 HGL0 HN hC0 hC1 hZ1 HB0
      by_cases h0 : d = 0
      · have HW := Lib.hid (show withT c k v (.node xk xv l r) = mkT false (k, v) l r by simp only [withT]; rw [if_pos (by rw [HD.out]; exact h0)]; rfl)
        subst h0
        go_wp2_with fail
        refine wp_region_mono mx (by kernel_rfl) [VP.eq (.agg #[.int .i64 k, .string v]), VP.eq (.pointer (some ⟨g, 0, none⟩)), VP.eq (.pointer (some ⟨g, 0, none⟩)), VP.eq (.pointer (some ⟨g, 2, none⟩)), VP.eq (.pointer (some ⟨g, 2, none⟩)), VP.eq (.pointer pl), VP.eq (.pointer (some ⟨g, 0, none⟩)), VP.eq (.pointer (some ⟨g, 0, none⟩)), VP.eq (.pointer (some ⟨g, 2, none⟩)), VP.eq (.pointer (some ⟨g, 3, none⟩)), VP.eq (.pointer pr), TrPIs S (mkT false (k, v) l r), TrPIs S (mkT false (k, v) l r)] ?_ ?_
        · intro i o L vals w3 hi hL hdep hC hJ hV
          have hlt : i < 13 := by have := (List.getElem?_eq_some_iff.1 hi).1; simpa using this
          generalize hA : frA _ _ L vals = a'
          have hT1 : a'.tmps.getD 1 undef = .pointer (some ⟨g, 0, none⟩) := by rw [← hA, frA_base (by kernel_rfl)]; rfl
          have hT5 : a'.tmps.getD 5 undef = .pointer (some ⟨w.heap.size, 0, none⟩) := by rw [← hA, frA_base (by kernel_rfl)]; rfl
          have hD := Lib.hid (fun k t (hk : L k = true) (ht : dstOf _ k = some t) => hA ▸ frA_done (by kernel_rfl) (vals := vals) hk ht)
          clear hA
          have n2 := (HN2.out.below hJ).c2
          have n3 := (HN2.out.below hJ).c3
          have c0 : w3.cell? ⟨w.heap.size, 0, none⟩ = some (.int .i64 k) := by rw [hJ.cell (p := ⟨w.heap.size, 0, none⟩) hZ2.out]; exact hC02.out
          have c1 : w3.cell? ⟨w.heap.size, 1, none⟩ = some (.string v) := by rw [hJ.cell (p := ⟨w.heap.size, 1, none⟩) hZ2.out]; exact hC12.out
          have hS3 : ∀ j, w3.heap.size ≤ j → S j := fun j hj => hS.out j (by have := hJ.size; have := HB2.out.size; omega)
          obtain rfl | rfl | rfl | rfl | rfl | rfl | rfl | rfl | rfl | rfl | rfl | rfl | rfl : i = 0 ∨ i = 1 ∨ i = 2 ∨ i = 3 ∨ i = 4 ∨ i = 5 ∨ i = 6 ∨ i = 7 ∨ i = 8 ∨ i = 9 ∨ i = 10 ∨ i = 11 ∨ i = 12 := by omega
          all_goals
            injection hi with hi
            subst hi
            try simp [Region.binds] at hdep
          · exact step_run rfl (v := .agg #[.int .i64 k, .string v]) (w' := w3) (by go_simp) ⟨rfl, Below.refl _ _⟩
          · exact step_run rfl (v := .pointer (some ⟨g, 0, none⟩)) (w' := w3) (by go_simp) ⟨rfl, Below.refl _ _⟩
          · have d28 := hD.out 1 28 (by simp [hdep]) rfl
            rw [show vals 1 = .pointer (some ⟨g, 0, none⟩) from hV 1 (by simp [hdep])] at d28
            exact step_run rfl (v := .pointer (some ⟨g, 0, none⟩)) (w' := w3) (by go_simp) ⟨rfl, Below.refl _ _⟩
          · have d29 := hD.out 2 29 (by simp [hdep]) rfl
            rw [show vals 2 = .pointer (some ⟨g, 0, none⟩) from hV 2 (by simp [hdep])] at d29
            exact step_run rfl (v := .pointer (some ⟨g, 2, none⟩)) (w' := w3) (by go_simp) ⟨rfl, Below.refl _ _⟩
          · have d30 := hD.out 3 30 (by simp [hdep]) rfl
            rw [show vals 3 = .pointer (some ⟨g, 2, none⟩) from hV 3 (by simp [hdep])] at d30
            exact step_run rfl (v := .pointer (some ⟨g, 2, none⟩)) (w' := w3) (by go_simp) ⟨rfl, Below.refl _ _⟩
          · have d31 := hD.out 4 31 (by simp [hdep]) rfl
            rw [show vals 4 = .pointer (some ⟨g, 2, none⟩) from hV 4 (by simp [hdep])] at d31
            exact step_run rfl (v := .pointer pl) (w' := w3) (by go_simp) ⟨rfl, Below.refl _ _⟩
          · exact step_run rfl (v := .pointer (some ⟨g, 0, none⟩)) (w' := w3) (by go_simp) ⟨rfl, Below.refl _ _⟩
          · have d33 := hD.out 6 33 (by simp [hdep]) rfl
            rw [show vals 6 = .pointer (some ⟨g, 0, none⟩) from hV 6 (by simp [hdep])] at d33
            exact step_run rfl (v := .pointer (some ⟨g, 0, none⟩)) (w' := w3) (by go_simp) ⟨rfl, Below.refl _ _⟩
          · have d34 := hD.out 7 34 (by simp [hdep]) rfl
            rw [show vals 7 = .pointer (some ⟨g, 0, none⟩) from hV 7 (by simp [hdep])] at d34
            exact step_run rfl (v := .pointer (some ⟨g, 2, none⟩)) (w' := w3) (by go_simp) ⟨rfl, Below.refl _ _⟩
          · have d35 := hD.out 8 35 (by simp [hdep]) rfl
            rw [show vals 8 = .pointer (some ⟨g, 2, none⟩) from hV 8 (by simp [hdep])] at d35
            exact step_run rfl (v := .pointer (some ⟨g, 3, none⟩)) (w' := w3) (by go_simp) ⟨rfl, Below.refl _ _⟩
          · have d36 := hD.out 9 36 (by simp [hdep]) rfl
            rw [show vals 9 = .pointer (some ⟨g, 3, none⟩) from hV 9 (by simp [hdep])] at d36
            exact step_run rfl (v := .pointer pr) (w' := w3) (by go_simp) ⟨rfl, Below.refl _ _⟩
          · have d27 := hD.out 0 27 (by simp [hdep]) rfl
            rw [show vals 0 = .agg #[.int .i64 k, .string v] from hV 0 (by simp [hdep])] at d27
            have d32 := hD.out 5 32 (by simp [hdep]) rfl
            rw [show vals 5 = .pointer pl from hV 5 (by simp [hdep])] at d32
            have d37 := hD.out 10 37 (by simp [hdep]) rfl
            rw [show vals 10 = .pointer pr from hV 10 (by simp [hdep])] at d37
            refine step_enter rfl (w' := w3) (by go_simp <;> rfl) ((grow_anyIs S w3 false k v pl pr l r (HN2.out.below hJ).hl (HN2.out.below hJ).hr hS3 (by have := HM.out; simp only [GT.many] at this; omega)).mono ?_)
            rintro e w1 ⟨r, rfl, ht, hb1⟩
            exact ⟨_, rfl, ⟨r, rfl, ht⟩, hb1⟩
          · have d38 := hD.out 11 38 (by simp [hdep]) rfl
            exact step_run rfl (v := vals 11) (w' := w3) (by go_simp) ⟨hV 11 (by simp [hdep]), Below.refl _ _⟩
        · intro vals w3 hJ hV
          have e0 : vals 0 = .agg #[.int .i64 k, .string v] := hV 0 (by decide)
          have e1 : vals 1 = .pointer (some ⟨g, 0, none⟩) := hV 1 (by decide)
          have e2 : vals 2 = .pointer (some ⟨g, 0, none⟩) := hV 2 (by decide)
          have e3 : vals 3 = .pointer (some ⟨g, 2, none⟩) := hV 3 (by decide)
          have e4 : vals 4 = .pointer (some ⟨g, 2, none⟩) := hV 4 (by decide)
          have e5 : vals 5 = .pointer pl := hV 5 (by decide)
          have e6 : vals 6 = .pointer (some ⟨g, 0, none⟩) := hV 6 (by decide)
          have e7 : vals 7 = .pointer (some ⟨g, 0, none⟩) := hV 7 (by decide)
          have e8 : vals 8 = .pointer (some ⟨g, 2, none⟩) := hV 8 (by decide)
          have e9 : vals 9 = .pointer (some ⟨g, 3, none⟩) := hV 9 (by decide)
          have e10 : vals 10 = .pointer pr := hV 10 (by decide)
          have q11 := hV 11 (by decide)
          have q12 := hV 12 (by decide)
          simp only [putsL, Act.put, List.setIfInBounds_toArray, List.set_cons_zero, List.set_cons_succ, e0, e1, e2, e3, e4, e5, e6, e7, e8, e9, e10]
          clear e0 e1 e2 e3 e4 e5 e6 e7 e8 e9 e10
          obtain ⟨r, hr, ht⟩ := q12
          rw [hr]
          have HB3 := Lib.hid (HB2.out.trans (hJ.mono HB2.out.size))
          have HT3 := Lib.hid ht
          clear hJ hV q11 hr ht
          go_wp2_with fail
          go_ret
          refine ⟨r, rfl, ?_, HB3.out⟩
          rw [HW.out]
          exact HT3.out
      by_cases h1 : d < 0
      · have HW := Lib.hid (show withT c k v (.node xk xv l r) = evenT false (xk, xv) (withT c k v l) r by simp only [withT]; rw [if_neg (by rw [HD.out]; exact h0), if_pos (by rw [HD.out]; exact h1)])
        have IH := IHL
        go_wp2_with fail
        refine (sideOf_low d _ (by omega)).mono ?_
        rintro e wz ⟨rfl, rfl⟩
        go_wp2_with fail
        refine wp_region_mono mx (by kernel_rfl) [VP.eq (.pointer (some ⟨g, 0, none⟩)), VP.eq (.pointer (some ⟨g, 0, none⟩)), VP.eq (.pointer (some ⟨g, 0, none⟩)), VP.eq (.agg #[.int .i64 xk, .string xv]), VP.eq (.int .i64 0), VP.eq (.pointer (some ⟨gb, 0, none⟩)), VP.eq (.pointer (some ⟨g, 0, none⟩)), VP.eq (.int .i64 0), VP.eq (.pointer (some ⟨g, 0, none⟩)), VP.eq (.pointer (some ⟨g, 2, none⟩)), VP.eq (.pointer (some ⟨g, 2, none⟩)), VP.eq (.pointer pl), VP.eq (.agg #[.int .i64 k, .string v]), TrPIs S (withT c k v l), VP.eq (.pointer (some ⟨g, 0, none⟩)), VP.eq (.int .i64 0), VP.eq (.int .i64 1), VP.eq (.pointer (some ⟨g, 0, none⟩)), VP.eq (.pointer (some ⟨g, 2, none⟩)), VP.eq (.pointer (some ⟨g, 3, none⟩)), VP.eq (.pointer pr), TrPIs S (evenT false (xk, xv) (withT c k v l) r), TrPIs S (evenT false (xk, xv) (withT c k v l) r)] ?_ ?_
        · intro i o L vals w3 hi hL hdep hC hJ hV
          have hlt : i < 23 := by have := (List.getElem?_eq_some_iff.1 hi).1; simpa using this
          generalize hA : frA _ _ L vals = a'
          have hT0 : a'.tmps.getD 0 undef = .pointer (some ⟨gb, 0, none⟩) := by rw [← hA, frA_base (by kernel_rfl)]; rfl
          have hT1 : a'.tmps.getD 1 undef = .pointer (some ⟨g, 0, none⟩) := by rw [← hA, frA_base (by kernel_rfl)]; rfl
          have hT5 : a'.tmps.getD 5 undef = .pointer (some ⟨w.heap.size, 0, none⟩) := by rw [← hA, frA_base (by kernel_rfl)]; rfl
          have hT8 : a'.tmps.getD 8 undef = .int .i64 0 := by rw [← hA, frA_base (by kernel_rfl)]; rfl
          have hD := Lib.hid (fun k t (hk : L k = true) (ht : dstOf _ k = some t) => hA ▸ frA_done (by kernel_rfl) (vals := vals) hk ht)
          clear hA
          have n0 := (HN2.out.below hJ).c0
          have n1 := (HN2.out.below hJ).c1
          have n2 := (HN2.out.below hJ).c2
          have n3 := (HN2.out.below hJ).c3
          have c0 : w3.cell? ⟨w.heap.size, 0, none⟩ = some (.int .i64 k) := by rw [hJ.cell (p := ⟨w.heap.size, 0, none⟩) hZ2.out]; exact hC02.out
          have c1 : w3.cell? ⟨w.heap.size, 1, none⟩ = some (.string v) := by rw [hJ.cell (p := ⟨w.heap.size, 1, none⟩) hZ2.out]; exact hC12.out
          have g0 : w3.cell? ⟨gb, 0, none⟩ = some (.func (.func F) #[] #[]) := by rw [hJ.cell (p := ⟨gb, 0, none⟩) HGL2.out]; exact HG2.out
          have hS3 : ∀ j, w3.heap.size ≤ j → S j := fun j hj => hS.out j (by have := hJ.size; have := HB2.out.size; omega)
          have hgl3 : gb < w3.heap.size := by have := hJ.size; have := HGL2.out; omega
          obtain rfl | rfl | rfl | rfl | rfl | rfl | rfl | rfl | rfl | rfl | rfl | rfl | rfl | rfl | rfl | rfl | rfl | rfl | rfl | rfl | rfl | rfl | rfl : i = 0 ∨ i = 1 ∨ i = 2 ∨ i = 3 ∨ i = 4 ∨ i = 5 ∨ i = 6 ∨ i = 7 ∨ i = 8 ∨ i = 9 ∨ i = 10 ∨ i = 11 ∨ i = 12 ∨ i = 13 ∨ i = 14 ∨ i = 15 ∨ i = 16 ∨ i = 17 ∨ i = 18 ∨ i = 19 ∨ i = 20 ∨ i = 21 ∨ i = 22 := by omega
          all_goals
            injection hi with hi
            subst hi
            try simp [Region.binds] at hdep
          · exact step_run rfl (v := .pointer (some ⟨g, 0, none⟩)) (w' := w3) (by go_simp) ⟨rfl, Below.refl _ _⟩
          · have d41 := hD.out 0 41 (by simp [hdep]) rfl
            rw [show vals 0 = .pointer (some ⟨g, 0, none⟩) from hV 0 (by simp [hdep])] at d41
            exact step_run rfl (v := .pointer (some ⟨g, 0, none⟩)) (w' := w3) (by go_simp) ⟨rfl, Below.refl _ _⟩
          · have d42 := hD.out 1 42 (by simp [hdep]) rfl
            rw [show vals 1 = .pointer (some ⟨g, 0, none⟩) from hV 1 (by simp [hdep])] at d42
            exact step_run rfl (v := .pointer (some ⟨g, 0, none⟩)) (w' := w3) (by go_simp) ⟨rfl, Below.refl _ _⟩
          · have d43 := hD.out 2 43 (by simp [hdep]) rfl
            rw [show vals 2 = .pointer (some ⟨g, 0, none⟩) from hV 2 (by simp [hdep])] at d43
            exact step_run rfl (v := .agg #[.int .i64 xk, .string xv]) (w' := w3) (by go_simp) ⟨rfl, Below.refl _ _⟩
          · exact step_run rfl (v := .int .i64 0) (w' := w3) (by go_simp) ⟨rfl, Below.refl _ _⟩
          · exact step_run rfl (v := .pointer (some ⟨gb, 0, none⟩)) (w' := w3) (by go_simp) ⟨rfl, Below.refl _ _⟩
          · exact step_run rfl (v := .pointer (some ⟨g, 0, none⟩)) (w' := w3) (by go_simp) ⟨rfl, Below.refl _ _⟩
          · exact step_run rfl (v := .int .i64 0) (w' := w3) (by go_simp) ⟨rfl, Below.refl _ _⟩
          · have d47 := hD.out 6 47 (by simp [hdep]) rfl
            rw [show vals 6 = .pointer (some ⟨g, 0, none⟩) from hV 6 (by simp [hdep])] at d47
            exact step_run rfl (v := .pointer (some ⟨g, 0, none⟩)) (w' := w3) (by go_simp) ⟨rfl, Below.refl _ _⟩
          · have d49 := hD.out 8 49 (by simp [hdep]) rfl
            rw [show vals 8 = .pointer (some ⟨g, 0, none⟩) from hV 8 (by simp [hdep])] at d49
            exact step_run rfl (v := .pointer (some ⟨g, 2, none⟩)) (w' := w3) (by go_simp) ⟨rfl, Below.refl _ _⟩
          · have d50 := hD.out 9 50 (by simp [hdep]) rfl
            rw [show vals 9 = .pointer (some ⟨g, 2, none⟩) from hV 9 (by simp [hdep])] at d50
            have d48 := hD.out 7 48 (by simp [hdep]) rfl
            rw [show vals 7 = .int .i64 0 from hV 7 (by simp [hdep])] at d48
            exact step_run rfl (v := .pointer (some ⟨g, 2, none⟩)) (w' := w3) (by go_simp) ⟨rfl, Below.refl _ _⟩
          · have d51 := hD.out 10 51 (by simp [hdep]) rfl
            rw [show vals 10 = .pointer (some ⟨g, 2, none⟩) from hV 10 (by simp [hdep])] at d51
            exact step_run rfl (v := .pointer pl) (w' := w3) (by go_simp) ⟨rfl, Below.refl _ _⟩
          · exact step_run rfl (v := .agg #[.int .i64 k, .string v]) (w' := w3) (by go_simp) ⟨rfl, Below.refl _ _⟩
          · have d46 := hD.out 5 46 (by simp [hdep]) rfl
            rw [show vals 5 = .pointer (some ⟨gb, 0, none⟩) from hV 5 (by simp [hdep])] at d46
            have d52 := hD.out 11 52 (by simp [hdep]) rfl
            rw [show vals 11 = .pointer pl from hV 11 (by simp [hdep])] at d52
            have d53 := hD.out 12 53 (by simp [hdep]) rfl
            rw [show vals 12 = .agg #[.int .i64 k, .string v] from hV 12 (by simp [hdep])] at d53
            refine step_enter rfl (w' := w3) (by go_simp) ((IH.out w3 pl hgl3 g0 (HN2.out.below hJ).hl hS3 (by have := HM.out; simp only [GT.many] at this; omega) HPk.out (fun q hq => HPt.out q (by simp only [GT.list, List.mem_append, List.mem_cons]; exact .inl hq))).mono ?_)
            rintro e w1 ⟨r, rfl, ht, hb1⟩
            exact ⟨_, rfl, ⟨r, rfl, ht⟩, hb1⟩
          · exact step_run rfl (v := .pointer (some ⟨g, 0, none⟩)) (w' := w3) (by go_simp) ⟨rfl, Below.refl _ _⟩
          · exact step_run rfl (v := .int .i64 0) (w' := w3) (by go_simp) ⟨rfl, Below.refl _ _⟩
          · have d56 := hD.out 15 56 (by simp [hdep]) rfl
            rw [show vals 15 = .int .i64 0 from hV 15 (by simp [hdep])] at d56
            refine step_enter rfl (w' := w3) (by go_simp) ((other_low w3).mono ?_)
            rintro e w1 ⟨rfl, rfl⟩
            exact ⟨_, rfl, rfl, Below.refl _ _⟩
          · have d55 := hD.out 14 55 (by simp [hdep]) rfl
            rw [show vals 14 = .pointer (some ⟨g, 0, none⟩) from hV 14 (by simp [hdep])] at d55
            exact step_run rfl (v := .pointer (some ⟨g, 0, none⟩)) (w' := w3) (by go_simp) ⟨rfl, Below.refl _ _⟩
          · have d58 := hD.out 17 58 (by simp [hdep]) rfl
            rw [show vals 17 = .pointer (some ⟨g, 0, none⟩) from hV 17 (by simp [hdep])] at d58
            exact step_run rfl (v := .pointer (some ⟨g, 2, none⟩)) (w' := w3) (by go_simp) ⟨rfl, Below.refl _ _⟩
          · have d59 := hD.out 18 59 (by simp [hdep]) rfl
            rw [show vals 18 = .pointer (some ⟨g, 2, none⟩) from hV 18 (by simp [hdep])] at d59
            have d57 := hD.out 16 57 (by simp [hdep]) rfl
            rw [show vals 16 = .int .i64 1 from hV 16 (by simp [hdep])] at d57
            exact step_run rfl (v := .pointer (some ⟨g, 3, none⟩)) (w' := w3) (by go_simp) ⟨rfl, Below.refl _ _⟩
          · have d60 := hD.out 19 60 (by simp [hdep]) rfl
            rw [show vals 19 = .pointer (some ⟨g, 3, none⟩) from hV 19 (by simp [hdep])] at d60
            exact step_run rfl (v := .pointer pr) (w' := w3) (by go_simp) ⟨rfl, Below.refl _ _⟩
          · have d44 := hD.out 3 44 (by simp [hdep]) rfl
            rw [show vals 3 = .agg #[.int .i64 xk, .string xv] from hV 3 (by simp [hdep])] at d44
            have d45 := hD.out 4 45 (by simp [hdep]) rfl
            rw [show vals 4 = .int .i64 0 from hV 4 (by simp [hdep])] at d45
            have d54 := hD.out 13 54 (by simp [hdep]) rfl
            have d61 := hD.out 20 61 (by simp [hdep]) rfl
            rw [show vals 20 = .pointer pr from hV 20 (by simp [hdep])] at d61
            obtain ⟨r54, hr54, ht54⟩ := hV 13 (by simp [hdep])
            rw [hr54] at d54
            refine step_enter rfl (w' := w3) (by go_simp <;> rfl) ((even_anyIs S w3 false xk xv r54 pr (withT c k v l) r ht54 (HN2.out.below hJ).hr hS3 (by have h1 := HM.out; have h2 := with_many_le c k v l; simp only [GT.many] at h1; omega)).mono ?_)
            rintro e w1 ⟨r, rfl, ht, hb1⟩
            exact ⟨_, rfl, ⟨r, rfl, ht⟩, hb1⟩
          · have d62 := hD.out 21 62 (by simp [hdep]) rfl
            exact step_run rfl (v := vals 21) (w' := w3) (by go_simp) ⟨hV 21 (by simp [hdep]), Below.refl _ _⟩
        · intro vals w3 hJ hV
          have e0 : vals 0 = .pointer (some ⟨g, 0, none⟩) := hV 0 (by decide)
          have e1 : vals 1 = .pointer (some ⟨g, 0, none⟩) := hV 1 (by decide)
          have e2 : vals 2 = .pointer (some ⟨g, 0, none⟩) := hV 2 (by decide)
          have e3 : vals 3 = .agg #[.int .i64 xk, .string xv] := hV 3 (by decide)
          have e4 : vals 4 = .int .i64 0 := hV 4 (by decide)
          have e5 : vals 5 = .pointer (some ⟨gb, 0, none⟩) := hV 5 (by decide)
          have e6 : vals 6 = .pointer (some ⟨g, 0, none⟩) := hV 6 (by decide)
          have e7 : vals 7 = .int .i64 0 := hV 7 (by decide)
          have e8 : vals 8 = .pointer (some ⟨g, 0, none⟩) := hV 8 (by decide)
          have e9 : vals 9 = .pointer (some ⟨g, 2, none⟩) := hV 9 (by decide)
          have e10 : vals 10 = .pointer (some ⟨g, 2, none⟩) := hV 10 (by decide)
          have e11 : vals 11 = .pointer pl := hV 11 (by decide)
          have e12 : vals 12 = .agg #[.int .i64 k, .string v] := hV 12 (by decide)
          have q13 := hV 13 (by decide)
          have e14 : vals 14 = .pointer (some ⟨g, 0, none⟩) := hV 14 (by decide)
          have e15 : vals 15 = .int .i64 0 := hV 15 (by decide)
          have e16 : vals 16 = .int .i64 1 := hV 16 (by decide)
          have e17 : vals 17 = .pointer (some ⟨g, 0, none⟩) := hV 17 (by decide)
          have e18 : vals 18 = .pointer (some ⟨g, 2, none⟩) := hV 18 (by decide)
          have e19 : vals 19 = .pointer (some ⟨g, 3, none⟩) := hV 19 (by decide)
          have e20 : vals 20 = .pointer pr := hV 20 (by decide)
          have q21 := hV 21 (by decide)
          have q22 := hV 22 (by decide)
          simp only [putsL, Act.put, List.setIfInBounds_toArray, List.set_cons_zero, List.set_cons_succ, e0, e1, e2, e3, e4, e5, e6, e7, e8, e9, e10, e11, e12, e14, e15, e16, e17, e18, e19, e20]
          clear e0 e1 e2 e3 e4 e5 e6 e7 e8 e9 e10 e11 e12 e14 e15 e16 e17 e18 e19 e20
          obtain ⟨r, hr, ht⟩ := q22
          rw [hr]
          have HB3 := Lib.hid (HB2.out.trans (hJ.mono HB2.out.size))
          have HT3 := Lib.hid ht
          clear hJ hV q13 q21 hr ht
          go_wp2_with fail
          go_ret
          refine ⟨r, rfl, ?_, HB3.out⟩
          rw [HW.out]
          exact HT3.out
      · have HW := Lib.hid (show withT c k v (.node xk xv l r) = evenT true (xk, xv) (withT c k v r) l by simp only [withT]; rw [if_neg (by rw [HD.out]; exact h0), if_neg (by rw [HD.out]; exact h1)])
        have IH := IHR
        go_wp2_with fail
        refine (sideOf_high d _ (by omega)).mono ?_
        rintro e wz ⟨rfl, rfl⟩
        go_wp2_with fail
        refine wp_region_mono mx (by kernel_rfl) [VP.eq (.pointer (some ⟨g, 0, none⟩)), VP.eq (.pointer (some ⟨g, 0, none⟩)), VP.eq (.pointer (some ⟨g, 0, none⟩)), VP.eq (.agg #[.int .i64 xk, .string xv]), VP.eq (.int .i64 1), VP.eq (.pointer (some ⟨gb, 0, none⟩)), VP.eq (.pointer (some ⟨g, 0, none⟩)), VP.eq (.int .i64 1), VP.eq (.pointer (some ⟨g, 0, none⟩)), VP.eq (.pointer (some ⟨g, 2, none⟩)), VP.eq (.pointer (some ⟨g, 3, none⟩)), VP.eq (.pointer pr), VP.eq (.agg #[.int .i64 k, .string v]), TrPIs S (withT c k v r), VP.eq (.pointer (some ⟨g, 0, none⟩)), VP.eq (.int .i64 1), VP.eq (.int .i64 0), VP.eq (.pointer (some ⟨g, 0, none⟩)), VP.eq (.pointer (some ⟨g, 2, none⟩)), VP.eq (.pointer (some ⟨g, 2, none⟩)), VP.eq (.pointer pl), TrPIs S (evenT true (xk, xv) (withT c k v r) l), TrPIs S (evenT true (xk, xv) (withT c k v r) l)] ?_ ?_
        · intro i o L vals w3 hi hL hdep hC hJ hV
          have hlt : i < 23 := by have := (List.getElem?_eq_some_iff.1 hi).1; simpa using this
          generalize hA : frA _ _ L vals = a'
          have hT0 : a'.tmps.getD 0 undef = .pointer (some ⟨gb, 0, none⟩) := by rw [← hA, frA_base (by kernel_rfl)]; rfl
          have hT1 : a'.tmps.getD 1 undef = .pointer (some ⟨g, 0, none⟩) := by rw [← hA, frA_base (by kernel_rfl)]; rfl
          have hT5 : a'.tmps.getD 5 undef = .pointer (some ⟨w.heap.size, 0, none⟩) := by rw [← hA, frA_base (by kernel_rfl)]; rfl
          have hT8 : a'.tmps.getD 8 undef = .int .i64 1 := by rw [← hA, frA_base (by kernel_rfl)]; rfl
          have hD := Lib.hid (fun k t (hk : L k = true) (ht : dstOf _ k = some t) => hA ▸ frA_done (by kernel_rfl) (vals := vals) hk ht)
          clear hA
          have n0 := (HN2.out.below hJ).c0
          have n1 := (HN2.out.below hJ).c1
          have n2 := (HN2.out.below hJ).c2
          have n3 := (HN2.out.below hJ).c3
          have c0 : w3.cell? ⟨w.heap.size, 0, none⟩ = some (.int .i64 k) := by rw [hJ.cell (p := ⟨w.heap.size, 0, none⟩) hZ2.out]; exact hC02.out
          have c1 : w3.cell? ⟨w.heap.size, 1, none⟩ = some (.string v) := by rw [hJ.cell (p := ⟨w.heap.size, 1, none⟩) hZ2.out]; exact hC12.out
          have g0 : w3.cell? ⟨gb, 0, none⟩ = some (.func (.func F) #[] #[]) := by rw [hJ.cell (p := ⟨gb, 0, none⟩) HGL2.out]; exact HG2.out
          have hS3 : ∀ j, w3.heap.size ≤ j → S j := fun j hj => hS.out j (by have := hJ.size; have := HB2.out.size; omega)
          have hgl3 : gb < w3.heap.size := by have := hJ.size; have := HGL2.out; omega
          obtain rfl | rfl | rfl | rfl | rfl | rfl | rfl | rfl | rfl | rfl | rfl | rfl | rfl | rfl | rfl | rfl | rfl | rfl | rfl | rfl | rfl | rfl | rfl : i = 0 ∨ i = 1 ∨ i = 2 ∨ i = 3 ∨ i = 4 ∨ i = 5 ∨ i = 6 ∨ i = 7 ∨ i = 8 ∨ i = 9 ∨ i = 10 ∨ i = 11 ∨ i = 12 ∨ i = 13 ∨ i = 14 ∨ i = 15 ∨ i = 16 ∨ i = 17 ∨ i = 18 ∨ i = 19 ∨ i = 20 ∨ i = 21 ∨ i = 22 := by omega
          all_goals
            injection hi with hi
            subst hi
            try simp [Region.binds] at hdep
          · exact step_run rfl (v := .pointer (some ⟨g, 0, none⟩)) (w' := w3) (by go_simp) ⟨rfl, Below.refl _ _⟩
          · have d41 := hD.out 0 41 (by simp [hdep]) rfl
            rw [show vals 0 = .pointer (some ⟨g, 0, none⟩) from hV 0 (by simp [hdep])] at d41
            exact step_run rfl (v := .pointer (some ⟨g, 0, none⟩)) (w' := w3) (by go_simp) ⟨rfl, Below.refl _ _⟩
          · have d42 := hD.out 1 42 (by simp [hdep]) rfl
            rw [show vals 1 = .pointer (some ⟨g, 0, none⟩) from hV 1 (by simp [hdep])] at d42
            exact step_run rfl (v := .pointer (some ⟨g, 0, none⟩)) (w' := w3) (by go_simp) ⟨rfl, Below.refl _ _⟩
          · have d43 := hD.out 2 43 (by simp [hdep]) rfl
            rw [show vals 2 = .pointer (some ⟨g, 0, none⟩) from hV 2 (by simp [hdep])] at d43
            exact step_run rfl (v := .agg #[.int .i64 xk, .string xv]) (w' := w3) (by go_simp) ⟨rfl, Below.refl _ _⟩
          · exact step_run rfl (v := .int .i64 1) (w' := w3) (by go_simp) ⟨rfl, Below.refl _ _⟩
          · exact step_run rfl (v := .pointer (some ⟨gb, 0, none⟩)) (w' := w3) (by go_simp) ⟨rfl, Below.refl _ _⟩
          · exact step_run rfl (v := .pointer (some ⟨g, 0, none⟩)) (w' := w3) (by go_simp) ⟨rfl, Below.refl _ _⟩
          · exact step_run rfl (v := .int .i64 1) (w' := w3) (by go_simp) ⟨rfl, Below.refl _ _⟩
          · have d47 := hD.out 6 47 (by simp [hdep]) rfl
            rw [show vals 6 = .pointer (some ⟨g, 0, none⟩) from hV 6 (by simp [hdep])] at d47
            exact step_run rfl (v := .pointer (some ⟨g, 0, none⟩)) (w' := w3) (by go_simp) ⟨rfl, Below.refl _ _⟩
          · have d49 := hD.out 8 49 (by simp [hdep]) rfl
            rw [show vals 8 = .pointer (some ⟨g, 0, none⟩) from hV 8 (by simp [hdep])] at d49
            exact step_run rfl (v := .pointer (some ⟨g, 2, none⟩)) (w' := w3) (by go_simp) ⟨rfl, Below.refl _ _⟩
          · have d50 := hD.out 9 50 (by simp [hdep]) rfl
            rw [show vals 9 = .pointer (some ⟨g, 2, none⟩) from hV 9 (by simp [hdep])] at d50
            have d48 := hD.out 7 48 (by simp [hdep]) rfl
            rw [show vals 7 = .int .i64 1 from hV 7 (by simp [hdep])] at d48
            exact step_run rfl (v := .pointer (some ⟨g, 3, none⟩)) (w' := w3) (by go_simp) ⟨rfl, Below.refl _ _⟩
          · have d51 := hD.out 10 51 (by simp [hdep]) rfl
            rw [show vals 10 = .pointer (some ⟨g, 3, none⟩) from hV 10 (by simp [hdep])] at d51
            exact step_run rfl (v := .pointer pr) (w' := w3) (by go_simp) ⟨rfl, Below.refl _ _⟩
          · exact step_run rfl (v := .agg #[.int .i64 k, .string v]) (w' := w3) (by go_simp) ⟨rfl, Below.refl _ _⟩
          · have d46 := hD.out 5 46 (by simp [hdep]) rfl
            rw [show vals 5 = .pointer (some ⟨gb, 0, none⟩) from hV 5 (by simp [hdep])] at d46
            have d52 := hD.out 11 52 (by simp [hdep]) rfl
            rw [show vals 11 = .pointer pr from hV 11 (by simp [hdep])] at d52
            have d53 := hD.out 12 53 (by simp [hdep]) rfl
            rw [show vals 12 = .agg #[.int .i64 k, .string v] from hV 12 (by simp [hdep])] at d53
            refine step_enter rfl (w' := w3) (by go_simp) ((IH.out w3 pr hgl3 g0 (HN2.out.below hJ).hr hS3 (by have := HM.out; simp only [GT.many] at this; omega) HPk.out (fun q hq => HPt.out q (by simp only [GT.list, List.mem_append, List.mem_cons]; exact .inr (.inr hq)))).mono ?_)
            rintro e w1 ⟨r, rfl, ht, hb1⟩
            exact ⟨_, rfl, ⟨r, rfl, ht⟩, hb1⟩
          · exact step_run rfl (v := .pointer (some ⟨g, 0, none⟩)) (w' := w3) (by go_simp) ⟨rfl, Below.refl _ _⟩
          · exact step_run rfl (v := .int .i64 1) (w' := w3) (by go_simp) ⟨rfl, Below.refl _ _⟩
          · have d56 := hD.out 15 56 (by simp [hdep]) rfl
            rw [show vals 15 = .int .i64 1 from hV 15 (by simp [hdep])] at d56
            refine step_enter rfl (w' := w3) (by go_simp) ((other_high w3).mono ?_)
            rintro e w1 ⟨rfl, rfl⟩
            exact ⟨_, rfl, rfl, Below.refl _ _⟩
          · have d55 := hD.out 14 55 (by simp [hdep]) rfl
            rw [show vals 14 = .pointer (some ⟨g, 0, none⟩) from hV 14 (by simp [hdep])] at d55
            exact step_run rfl (v := .pointer (some ⟨g, 0, none⟩)) (w' := w3) (by go_simp) ⟨rfl, Below.refl _ _⟩
          · have d58 := hD.out 17 58 (by simp [hdep]) rfl
            rw [show vals 17 = .pointer (some ⟨g, 0, none⟩) from hV 17 (by simp [hdep])] at d58
            exact step_run rfl (v := .pointer (some ⟨g, 2, none⟩)) (w' := w3) (by go_simp) ⟨rfl, Below.refl _ _⟩
          · have d59 := hD.out 18 59 (by simp [hdep]) rfl
            rw [show vals 18 = .pointer (some ⟨g, 2, none⟩) from hV 18 (by simp [hdep])] at d59
            have d57 := hD.out 16 57 (by simp [hdep]) rfl
            rw [show vals 16 = .int .i64 0 from hV 16 (by simp [hdep])] at d57
            exact step_run rfl (v := .pointer (some ⟨g, 2, none⟩)) (w' := w3) (by go_simp) ⟨rfl, Below.refl _ _⟩
          · have d60 := hD.out 19 60 (by simp [hdep]) rfl
            rw [show vals 19 = .pointer (some ⟨g, 2, none⟩) from hV 19 (by simp [hdep])] at d60
            exact step_run rfl (v := .pointer pl) (w' := w3) (by go_simp) ⟨rfl, Below.refl _ _⟩
          · have d44 := hD.out 3 44 (by simp [hdep]) rfl
            rw [show vals 3 = .agg #[.int .i64 xk, .string xv] from hV 3 (by simp [hdep])] at d44
            have d45 := hD.out 4 45 (by simp [hdep]) rfl
            rw [show vals 4 = .int .i64 1 from hV 4 (by simp [hdep])] at d45
            have d54 := hD.out 13 54 (by simp [hdep]) rfl
            have d61 := hD.out 20 61 (by simp [hdep]) rfl
            rw [show vals 20 = .pointer pl from hV 20 (by simp [hdep])] at d61
            obtain ⟨r54, hr54, ht54⟩ := hV 13 (by simp [hdep])
            rw [hr54] at d54
            refine step_enter rfl (w' := w3) (by go_simp <;> rfl) ((even_anyIs S w3 true xk xv r54 pl (withT c k v r) l ht54 (HN2.out.below hJ).hl hS3 (by have h1 := HM.out; have h2 := with_many_le c k v r; simp only [GT.many] at h1; omega)).mono ?_)
            rintro e w1 ⟨r, rfl, ht, hb1⟩
            exact ⟨_, rfl, ⟨r, rfl, ht⟩, hb1⟩
          · have d62 := hD.out 21 62 (by simp [hdep]) rfl
            exact step_run rfl (v := vals 21) (w' := w3) (by go_simp) ⟨hV 21 (by simp [hdep]), Below.refl _ _⟩
        · intro vals w3 hJ hV
          have e0 : vals 0 = .pointer (some ⟨g, 0, none⟩) := hV 0 (by decide)
          have e1 : vals 1 = .pointer (some ⟨g, 0, none⟩) := hV 1 (by decide)
          have e2 : vals 2 = .pointer (some ⟨g, 0, none⟩) := hV 2 (by decide)
          have e3 : vals 3 = .agg #[.int .i64 xk, .string xv] := hV 3 (by decide)
          have e4 : vals 4 = .int .i64 1 := hV 4 (by decide)
          have e5 : vals 5 = .pointer (some ⟨gb, 0, none⟩) := hV 5 (by decide)
          have e6 : vals 6 = .pointer (some ⟨g, 0, none⟩) := hV 6 (by decide)
          have e7 : vals 7 = .int .i64 1 := hV 7 (by decide)
          have e8 : vals 8 = .pointer (some ⟨g, 0, none⟩) := hV 8 (by decide)
          have e9 : vals 9 = .pointer (some ⟨g, 2, none⟩) := hV 9 (by decide)
          have e10 : vals 10 = .pointer (some ⟨g, 3, none⟩) := hV 10 (by decide)
          have e11 : vals 11 = .pointer pr := hV 11 (by decide)
          have e12 : vals 12 = .agg #[.int .i64 k, .string v] := hV 12 (by decide)
          have q13 := hV 13 (by decide)
          have e14 : vals 14 = .pointer (some ⟨g, 0, none⟩) := hV 14 (by decide)
          have e15 : vals 15 = .int .i64 1 := hV 15 (by decide)
          have e16 : vals 16 = .int .i64 0 := hV 16 (by decide)
          have e17 : vals 17 = .pointer (some ⟨g, 0, none⟩) := hV 17 (by decide)
          have e18 : vals 18 = .pointer (some ⟨g, 2, none⟩) := hV 18 (by decide)
          have e19 : vals 19 = .pointer (some ⟨g, 2, none⟩) := hV 19 (by decide)
          have e20 : vals 20 = .pointer pl := hV 20 (by decide)
          have q21 := hV 21 (by decide)
          have q22 := hV 22 (by decide)
          simp only [putsL, Act.put, List.setIfInBounds_toArray, List.set_cons_zero, List.set_cons_succ, e0, e1, e2, e3, e4, e5, e6, e7, e8, e9, e10, e11, e12, e14, e15, e16, e17, e18, e19, e20]
          clear e0 e1 e2 e3 e4 e5 e6 e7 e8 e9 e10 e11 e12 e14 e15 e16 e17 e18 e19 e20
          obtain ⟨r, hr, ht⟩ := q22
          rw [hr]
          have HB3 := Lib.hid (HB2.out.trans (hJ.mono HB2.out.size))
          have HT3 := Lib.hid ht
          clear hJ hV q13 q21 hr ht
          go_wp2_with fail
          go_ret
          refine ⟨r, rfl, ?_, HB3.out⟩
          rw [HW.out]
          exact HT3.out
end Go.Proofs.Ytaghflionakhhaa
