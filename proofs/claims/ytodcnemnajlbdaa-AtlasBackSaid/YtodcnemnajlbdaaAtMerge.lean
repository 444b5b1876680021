/-
  Layer atlas: Merge.
-/
import Derived.Test.YtodcnemnajlbdaaAtPr1
namespace Go.Proofs.Ytodcnemnajlbdaa
open Go.RowKit Go.Gz

set_option maxHeartbeats 8000000 in
set_option maxRecDepth 100000 in
theorem merge_any (ep : Int) (L : List Sd) (p : Option Addr) (c : Nat) (i : Int) (w : World) (hp : RowK KS w p L) (hL : L.length ≤ 1000000) :
    Calls Try.prog 10 #[.agg #[.int .i64 ep, .slice p L.length c], .int .i64 i] w (RetO w (mergeA ep L i)) := by
  obtain ⟨w0, hw0⟩ : ∃ w0, (w.alloc (.cells #[.int .i64 ep, .slice p L.length c] 26)).alloc (.cells #[.int .i64 0, .slice none 0 0] 26) = w0 := ⟨_, rfl⟩
  have hb0 : Below w.heap.size w w0 := hw0 ▸ ((Below.refl _ _).alloc (Nat.le_refl _) _).alloc (by simp) _
  have HB0 := Lib.hid hb0
  have HZ := Lib.hid (show w0.heap.size = w.heap.size + 2 by rw [← hw0]; simp)
  have HBX := Lib.hid (show BoxA w0 w.heap.size ep (.slice p L.length c) from hw0 ▸ (BoxA.new w _ _ _).below (below_alloc _ _))
  have HRS := Lib.hid (show w0.heap[w.heap.size + 1]? = some (.cells #[.int .i64 0, .slice none 0 0] 26 (0, 0)) by
    have := alloc_at (w.alloc (.cells #[.int .i64 ep, .slice p L.length c] 26)) (.cells #[.int .i64 0, .slice none 0 0] 26)
    rw [hw0] at this
    simpa using this)
  have HPW := Lib.hid hp
  have HEND := Lib.hid (show ∀ w4, Below w0.heap.size w0 w4 → w4.heap[w.heap.size + 1]? = some (.cells #[.int .i64 0, .slice none 0 0] 26 (0, 0)) ∧ Below w.heap.size w w4 from fun w4 h4 => ⟨(h4.block _ (by have := HZ.out; omega)).trans HRS.out, HB0.out.trans (h4.mono HB0.out.size)⟩)
  have CR := Lib.hid refuse_any
  have CG := Lib.hid (goesOn_any ep L p c 5 w0 (hp.below hb0) hL)
  have CF := Lib.hid from_any
  obtain ⟨out, hout⟩ : ∃ out, mergeA ep L i = out := ⟨_, rfl⟩
  rw [hout]
  have HBad := Lib.hid (show ¬ (freshB 5 ep L = true ∧ 0 ≤ i ∧ i + 1 < L.length) → out = errA 1 from fun h => by rw [← hout]; unfold mergeA; rw [if_neg h])
  have HGood := Lib.hid (show freshB 5 ep L = true ∧ 0 ≤ i ∧ i + 1 < L.length → out = ⟨ep + 1, mergeM ep L i.toNat, [i, i + 1], 0⟩ from fun h => by rw [← hout]; unfold mergeA; rw [if_pos h])
  obtain ⟨n, hN⟩ : ∃ n, L.length = n := ⟨_, rfl⟩
  have HN := Lib.hid hN
  rw [hN] at hw0 CG HBX HBad HGood hL ⊢
  have HW0 := Lib.hid hw0
  have hwr : IntKind.i64.wrap ((n : Int) - 2) = (n : Int) - 2 := IntWalk.i64_in _ (by omega)
  obtain ⟨_, x0, x1⟩ := HBX.out
  clear hw0 hp hb0 hN hout
  by_cases hf : freshB 5 ep L = true
  · rw [hf] at CG
    by_cases hi : 0 ≤ i ∧ i ≤ (n : Int) - 2
    · have hd : decide (0 ≤ i ∧ i ≤ (n : Int) - 2) = true := decide_eq_true hi
      obtain ⟨hmay, hep⟩ := (fresh_iff 5 ep L).1 hf
      have hl12 := hmay.ln.2
      have hep1 := hmay.ep1
      obtain ⟨k, rfl⟩ : ∃ k : Nat, i = (k : Int) := ⟨i.toNat, by omega⟩
      have hkl : k + 1 < L.length := by rw [HN.out]; omega
      have HO1 := Lib.hid (HGood.out ⟨hf, hi.1, by omega⟩)
      obtain ⟨e, he⟩ : ∃ e, L.getD k default = e := ⟨_, rfl⟩
      obtain ⟨e2, he2⟩ : ∃ e2, L.getD (k + 1) default = e2 := ⟨_, rfl⟩
      have HCE := Lib.hid (show ∀ w1, Below w.heap.size w w1 → ∃ b o, p = some ⟨b, o, none⟩ ∧ b < w.heap.size ∧ (∀ q, q < KS.n → w1.cell? ⟨b, o + k * KS.n + q, none⟩ = (KS.cf e)[q]?) ∧ (∀ q, q < KS.n → w1.cell? ⟨b, o + (k + 1) * KS.n + q, none⟩ = (KS.cf e2)[q]?) from fun w1 h1 => by
        obtain ⟨b, o, h2, h3, h4⟩ := HPW.out.cells h1 (show k < L.length by omega)
        obtain ⟨b', o', h2', _, h4'⟩ := HPW.out.cells h1 hkl
        rw [h2] at h2'
        injection h2' with h2'
        injection h2' with h5 h6 _
        subst h5 h6
        exact ⟨b, o, h2, h3, he ▸ h4, he2 ▸ h4'⟩)
      have CX := Lib.hid (show ∀ w1 b, RowK KS w1 p L → RowK KP w1 (some ⟨b, 0, none⟩) [⟨e.sp.f, e2.sp.t⟩] → Calls Try.prog 22 #[.agg #[.int .i64 ep, .slice p n c], .int .i64 (k : Int), .int .i64 2, .int .i64 e.n, .slice (some ⟨b, 0, none⟩) 1 1] w1 (RetO w1 out) from fun w1 b h1 h2 => by
        have := change_any w1 ep L p c k 2 e.n [⟨e.sp.f, e2.sp.t⟩] (some ⟨b, 0, none⟩) 1 h1 h2 (by omega) (by simp) (by decide) (by omega) (by omega)
        have e4 : goneI k 2 = [(k : Int), (k : Int) + 1] := by simp [goneI, List.range_succ]
        have e3 : mergeM ep L (k : Int).toNat = withL L ([⟨e.sp.f, e2.sp.t⟩].map (shOf e.n (ep + 1))) k 2 := by unfold mergeM; rw [Int.toNat_natCast, he, he2]; rfl
        rw [e4, ← e3, HN.out, ← HO1.out] at this
        exact this)
      obtain ⟨⟨sF, et⟩, sN, ee⟩ := e
      obtain ⟨⟨ef2, sT⟩, en2, ee2⟩ := e2
      simp only at CX
      have HKF := Lib.hid (show (0 : Int) ≤ (k : Int) ∧ (k : Int) < (n : Int) ∧ (0 : Int) ≤ (k : Int) + 1 ∧ (k : Int) + 1 < (n : Int) ∧ ((k : Int) + 1).toNat = k + 1 ∧ IntKind.i64.wrap ((k : Int) + 1) = (k : Int) + 1 from ⟨by omega, by omega, by omega, by omega, by omega, IntWalk.i64_in _ (by omega)⟩)
      clear hmay he he2 hf hi hkl hep hep1 hl12
      go_enter Try.func10, Try.ntmps10
      go_wp2_with fail
      rw [HW0.out]
      refine CG.out.mono ?_
      rintro e w1 ⟨rfl, hb1⟩
      have HB1 := Lib.hid hb1
      clear x0 x1
      obtain ⟨_, x0, x1⟩ := HBX.out.below hb1
      clear hb1
      go_wp2_with fail
      refine (CF.out _ _ _ w1).mono ?_
      rintro e w2 ⟨rfl, hb2⟩
      have HB2 := Lib.hid (HB1.out.trans (hb2.mono HB1.out.size))
      clear x0 x1 hb2
      rw [hd]
      obtain ⟨hrs2, hbl2⟩ := HEND.out w2 HB2.out
      have HRr := Lib.hid hrs2
      have HBr := Lib.hid hbl2
      obtain ⟨_, x0, x1⟩ := HBX.out.below HB2.out
      obtain ⟨pb, po, rfl, hpb, hcell, hcell2⟩ := HCE.out w2 HBr.out
      have HX0 := Lib.hid x0
      have HX1 := Lib.hid x1
      have HZ0 := Lib.hid (show w2.cell? ⟨pb, po + k * 4, none⟩ = some (.string sF) from hcell 0 (by decide))
      have HZ2 := Lib.hid (show w2.cell? ⟨pb, po + k * 4 + 2, none⟩ = some (.int .i64 sN) from hcell 2 (by decide))
      have HY1 := Lib.hid (show w2.cell? ⟨pb, po + (k + 1) * 4 + 1, none⟩ = some (.string sT) from hcell2 1 (by decide))
      have HF1 := Lib.hid (show w.heap.size < w2.heap.size ∧ ¬ (w.heap.size = w.heap.size + 1) from ⟨by have := HZ.out; have := HB2.out.size; omega, by omega⟩)
      have HF2 := Lib.hid (show pb < w2.heap.size ∧ ¬ (pb = w.heap.size + 1) from ⟨by have := HBr.out.size; omega, by omega⟩)
      have HRw := Lib.hid (show RowK KS w2 (some ⟨pb, po, none⟩) L from HPW.out.below HBr.out)
      have HNP := Lib.hid (show ∀ a, some (⟨pb, po, none⟩ : Addr) = some a → ¬ (a.block = w.heap.size + 1) from fun a ha => by injection ha with ha; rw [← ha]; exact HF2.out.2)
      clear hcell hcell2 hd x0 x1 hrs2 hbl2 HCE
      go_upto_region 3 with fail
      refine wp_region_put mixedAt (by kernel_rfl) [VP.eq (.agg #[.int .i64 ep, .slice (some ⟨pb, po, none⟩) n c]), VP.eq (.int .i64 k), VP.eq (.pointer (some ⟨w.heap.size, 1, none⟩)), VP.eq (.slice (some ⟨pb, po, none⟩) n c), VP.eq (.int .i64 k), VP.eq (.pointer (some ⟨pb, po + k * 4, none⟩)), VP.eq (.pointer (some ⟨pb, po + k * 4 + 2, none⟩)), VP.eq (.int .i64 sN), VP.eq (.pointer (some ⟨w.heap.size, 1, none⟩)), VP.eq (.slice (some ⟨pb, po, none⟩) n c), VP.eq (.int .i64 k), VP.eq (.pointer (some ⟨pb, po + k * 4, none⟩)), VP.eq (.pointer (some ⟨pb, po + k * 4, none⟩)), VP.eq (.pointer (some ⟨pb, po + k * 4, none⟩)), VP.eq (.string sF), VP.eq (.pointer (some ⟨w.heap.size, 1, none⟩)), VP.eq (.slice (some ⟨pb, po, none⟩) n c), VP.eq (.int .i64 k), VP.eq (.int .i64 ((k : Int) + 1)), VP.eq (.pointer (some ⟨pb, po + (k + 1) * 4, none⟩)), VP.eq (.pointer (some ⟨pb, po + (k + 1) * 4, none⟩)), VP.eq (.pointer (some ⟨pb, po + (k + 1) * 4 + 1, none⟩)), VP.eq (.string sT), VP.eq (.agg #[.string sF, .string sT]), vrSp (.string sF) (.string sT), vrRet out, vrAt out, vrGone out, VP.eq (.int .i64 out.err), VP.any, vrGone out, VP.eq (.int .i64 out.err)]
        29 26 (by kernel_rfl) (by decide) (w.heap.size + 1) [Value.int .i64 0, Value.slice none 0 0] 26 (0, 0) aggC HRr.out ?_ ?_ ?_ ?_
      · refine fun k v w' cs' cs'' => staR_list _ (fun vp hvp => ?_) k v w' (w.heap.size + 1) cs' (0, 0) cs''
        simp only [List.mem_cons, List.not_mem_nil, or_false] at hvp
        rcases hvp with rfl | rfl | rfl | rfl | rfl | rfl | rfl | rfl | rfl | rfl | rfl | rfl | rfl | rfl | rfl | rfl | rfl | rfl | rfl | rfl | rfl | rfl | rfl | rfl | rfl | rfl | rfl | rfl | rfl | rfl | rfl | rfl
        all_goals first | exact staR_eq _ | exact staR_any | exact staR_ret _ | exact staR_at _ | exact staR_gone _ | exact staR_sp _ _
      · intro i opr Ls vals w' hi hL hdep hC hK hob hV hn
        have hlt : i < 32 := by have := (List.getElem?_eq_some_iff.1 hi).1; simpa using this
        generalize hA : frA _ _ Ls vals = a'
        have hT1 : a'.tmps.getD 1 undef = .int .i64 k := by rw [← hA, frA_base (by kernel_rfl)]; rfl
        have hT2 : a'.tmps.getD 2 undef = .pointer (some ⟨w.heap.size, 0, none⟩) := by rw [← hA, frA_base (by kernel_rfl)]; rfl
        have hT4 : a'.tmps.getD 4 undef = .pointer (some ⟨w.heap.size + 1, 0, none⟩) := by rw [← hA, frA_base (by kernel_rfl)]; rfl
        have hD := Lib.hid (fun k t (hk : Ls k = true) (ht : dstOf _ k = some t) => hA ▸ frA_done (by kernel_rfl) (vals := vals) hk ht)
        clear hA
        have x0' := (hK.cell (p := ⟨w.heap.size, 0, none⟩) HF1.out.1 HF1.out.2).trans HX0.out
        have x1' := (hK.cell (p := ⟨w.heap.size, 1, none⟩) HF1.out.1 HF1.out.2).trans HX1.out
        have hrow' := HRw.out.kept hK HNP.out
        have z2' := (hK.cell (p := ⟨pb, po + k * 4 + 2, none⟩) HF2.out.1 HF2.out.2).trans HZ2.out
        have z0' := (hK.cell (p := ⟨pb, po + k * 4, none⟩) HF2.out.1 HF2.out.2).trans HZ0.out
        have y1' := (hK.cell (p := ⟨pb, po + (k + 1) * 4 + 1, none⟩) HF2.out.1 HF2.out.2).trans HY1.out
        obtain ⟨hk0, hkn, hk01, hkn1, htn, hwk⟩ := HKF.out
        obtain rfl | rfl | rfl | rfl | rfl | rfl | rfl | rfl | rfl | rfl | rfl | rfl | rfl | rfl | rfl | rfl | rfl | rfl | rfl | rfl | rfl | rfl | rfl | rfl | rfl | rfl | rfl | rfl | rfl | rfl | rfl : i = 0 ∨ i = 1 ∨ i = 2 ∨ i = 3 ∨ i = 4 ∨ i = 5 ∨ i = 6 ∨ i = 7 ∨ i = 8 ∨ i = 9 ∨ i = 10 ∨ i = 11 ∨ i = 12 ∨ i = 13 ∨ i = 14 ∨ i = 15 ∨ i = 16 ∨ i = 17 ∨ i = 18 ∨ i = 19 ∨ i = 20 ∨ i = 21 ∨ i = 22 ∨ i = 23 ∨ i = 24 ∨ i = 25 ∨ i = 26 ∨ i = 27 ∨ i = 28 ∨ i = 30 ∨ i = 31 := by omega
        all_goals
          injection hi with hi
          subst hi
          try simp [Region.binds] at hdep
        · skip
          exact step_run rfl (v := .agg #[.int .i64 ep, .slice (some ⟨pb, po, none⟩) n c]) (w' := w') (by go_simp) ⟨rfl, Below.refl _ _⟩
        · skip
          exact step_run rfl (v := .int .i64 k) (w' := w') (by go_simp) ⟨rfl, Below.refl _ _⟩
        · skip
          exact step_run rfl (v := .pointer (some ⟨w.heap.size, 1, none⟩)) (w' := w') (by go_simp) ⟨rfl, Below.refl _ _⟩
        · skip
          have d25 := hD.out 2 25 (by simp [hdep]) rfl
          rw [show vals 2 = _ from hV 2 (by simp [hdep]) (by decide)] at d25
          exact step_run rfl (v := .slice (some ⟨pb, po, none⟩) n c) (w' := w') (by go_simp) ⟨rfl, Below.refl _ _⟩
        · skip
          exact step_run rfl (v := .int .i64 k) (w' := w') (by go_simp) ⟨rfl, Below.refl _ _⟩
        · skip
          have d26 := hD.out 3 26 (by simp [hdep]) rfl
          rw [show vals 3 = _ from hV 3 (by simp [hdep]) (by decide)] at d26
          have d27 := hD.out 4 27 (by simp [hdep]) rfl
          rw [show vals 4 = _ from hV 4 (by simp [hdep]) (by decide)] at d27
          exact step_run rfl (v := .pointer (some ⟨pb, po + k * 4, none⟩)) (w' := w') (by go_simp) ⟨rfl, Below.refl _ _⟩
        · skip
          have d28 := hD.out 5 28 (by simp [hdep]) rfl
          rw [show vals 5 = _ from hV 5 (by simp [hdep]) (by decide)] at d28
          exact step_run rfl (v := .pointer (some ⟨pb, po + k * 4 + 2, none⟩)) (w' := w') (by go_simp) ⟨rfl, Below.refl _ _⟩
        · skip
          have d29 := hD.out 6 29 (by simp [hdep]) rfl
          rw [show vals 6 = _ from hV 6 (by simp [hdep]) (by decide)] at d29
          exact step_run rfl (v := .int .i64 sN) (w' := w') (by go_simp) ⟨rfl, Below.refl _ _⟩
        · skip
          exact step_run rfl (v := .pointer (some ⟨w.heap.size, 1, none⟩)) (w' := w') (by go_simp) ⟨rfl, Below.refl _ _⟩
        · skip
          have d31 := hD.out 8 31 (by simp [hdep]) rfl
          rw [show vals 8 = _ from hV 8 (by simp [hdep]) (by decide)] at d31
          exact step_run rfl (v := .slice (some ⟨pb, po, none⟩) n c) (w' := w') (by go_simp) ⟨rfl, Below.refl _ _⟩
        · skip
          exact step_run rfl (v := .int .i64 k) (w' := w') (by go_simp) ⟨rfl, Below.refl _ _⟩
        · skip
          have d32 := hD.out 9 32 (by simp [hdep]) rfl
          rw [show vals 9 = _ from hV 9 (by simp [hdep]) (by decide)] at d32
          have d33 := hD.out 10 33 (by simp [hdep]) rfl
          rw [show vals 10 = _ from hV 10 (by simp [hdep]) (by decide)] at d33
          exact step_run rfl (v := .pointer (some ⟨pb, po + k * 4, none⟩)) (w' := w') (by go_simp) ⟨rfl, Below.refl _ _⟩
        · skip
          have d34 := hD.out 11 34 (by simp [hdep]) rfl
          rw [show vals 11 = _ from hV 11 (by simp [hdep]) (by decide)] at d34
          exact step_run rfl (v := .pointer (some ⟨pb, po + k * 4, none⟩)) (w' := w') (by go_simp) ⟨rfl, Below.refl _ _⟩
        · skip
          have d35 := hD.out 12 35 (by simp [hdep]) rfl
          rw [show vals 12 = _ from hV 12 (by simp [hdep]) (by decide)] at d35
          exact step_run rfl (v := .pointer (some ⟨pb, po + k * 4, none⟩)) (w' := w') (by go_simp) ⟨rfl, Below.refl _ _⟩
        · skip
          have d36 := hD.out 13 36 (by simp [hdep]) rfl
          rw [show vals 13 = _ from hV 13 (by simp [hdep]) (by decide)] at d36
          exact step_run rfl (v := .string sF) (w' := w') (by go_simp) ⟨rfl, Below.refl _ _⟩
        · skip
          exact step_run rfl (v := .pointer (some ⟨w.heap.size, 1, none⟩)) (w' := w') (by go_simp) ⟨rfl, Below.refl _ _⟩
        · skip
          have d38 := hD.out 15 38 (by simp [hdep]) rfl
          rw [show vals 15 = _ from hV 15 (by simp [hdep]) (by decide)] at d38
          exact step_run rfl (v := .slice (some ⟨pb, po, none⟩) n c) (w' := w') (by go_simp) ⟨rfl, Below.refl _ _⟩
        · skip
          exact step_run rfl (v := .int .i64 k) (w' := w') (by go_simp) ⟨rfl, Below.refl _ _⟩
        · skip
          have d40 := hD.out 17 40 (by simp [hdep]) rfl
          rw [show vals 17 = _ from hV 17 (by simp [hdep]) (by decide)] at d40
          exact step_run rfl (v := .int .i64 ((k : Int) + 1)) (w' := w') (by go_simp) ⟨rfl, Below.refl _ _⟩
        · skip
          have d39 := hD.out 16 39 (by simp [hdep]) rfl
          rw [show vals 16 = _ from hV 16 (by simp [hdep]) (by decide)] at d39
          have d41 := hD.out 18 41 (by simp [hdep]) rfl
          rw [show vals 18 = _ from hV 18 (by simp [hdep]) (by decide)] at d41
          exact step_run rfl (v := .pointer (some ⟨pb, po + (k + 1) * 4, none⟩)) (w' := w') (by go_simp) ⟨rfl, Below.refl _ _⟩
        · skip
          have d42 := hD.out 19 42 (by simp [hdep]) rfl
          rw [show vals 19 = _ from hV 19 (by simp [hdep]) (by decide)] at d42
          exact step_run rfl (v := .pointer (some ⟨pb, po + (k + 1) * 4, none⟩)) (w' := w') (by go_simp) ⟨rfl, Below.refl _ _⟩
        · skip
          have d43 := hD.out 20 43 (by simp [hdep]) rfl
          rw [show vals 20 = _ from hV 20 (by simp [hdep]) (by decide)] at d43
          exact step_run rfl (v := .pointer (some ⟨pb, po + (k + 1) * 4 + 1, none⟩)) (w' := w') (by go_simp) ⟨rfl, Below.refl _ _⟩
        · skip
          have d44 := hD.out 21 44 (by simp [hdep]) rfl
          rw [show vals 21 = _ from hV 21 (by simp [hdep]) (by decide)] at d44
          exact step_run rfl (v := .string sT) (w' := w') (by go_simp) ⟨rfl, Below.refl _ _⟩
        · skip
          have d37 := hD.out 14 37 (by simp [hdep]) rfl
          rw [show vals 14 = _ from hV 14 (by simp [hdep]) (by decide)] at d37
          have d45 := hD.out 22 45 (by simp [hdep]) rfl
          rw [show vals 22 = _ from hV 22 (by simp [hdep]) (by decide)] at d45
          rw [Array.getD_eq_getD_getElem?] at d37 d45
          exact step_run rfl (v := .agg #[.string sF, .string sT]) (w' := w') (by go_simp) ⟨rfl, Below.refl _ _⟩
        · skip
          have d46 := hD.out 23 46 (by simp [hdep]) rfl
          rw [show vals 23 = _ from hV 23 (by simp [hdep]) (by decide)] at d46
          rw [Array.getD_eq_getD_getElem?] at d46
          exact step_run rfl (v := .slice (some ⟨w'.heap.size, 0, none⟩) 1 1) (w' := w'.alloc (.cells #[.string sF, .string sT] 38)) (by go_simp) ⟨⟨_, rfl, alloc_at _ _⟩, below_alloc _ _⟩
        · skip
          have d23 := hD.out 0 23 (by simp [hdep]) rfl
          rw [show vals 0 = _ from hV 0 (by simp [hdep]) (by decide)] at d23
          have d24 := hD.out 1 24 (by simp [hdep]) rfl
          rw [show vals 1 = _ from hV 1 (by simp [hdep]) (by decide)] at d24
          have d30 := hD.out 7 30 (by simp [hdep]) rfl
          rw [show vals 7 = _ from hV 7 (by simp [hdep]) (by decide)] at d30
          have d47 := hD.out 24 47 (by simp [hdep]) rfl
          obtain ⟨bb, ev, g1⟩ : (vrSp (.string sF) (.string sT)).f (vals 24) w' := hV 24 (by simp [hdep]) (by decide)
          rw [ev] at d47
          exact step_enter (f := 22) (args := #[.agg #[.int .i64 ep, .slice (some ⟨pb, po, none⟩) n c], .int .i64 k, .int .i64 2, .int .i64 sN, .slice (some ⟨bb, 0, none⟩) 1 1]) (w' := w') rfl (by go_simp) ((CX.out w' bb hrow' (RowK.block KP (L := [⟨sF, sT⟩]) g1)).mono fun e w'' ⟨p7, c7, q7, d7, he, h1, h2, ⟨h3, h4⟩, h5⟩ => ⟨_, he, ⟨p7, c7, q7, d7, rfl, h1, h2, h3, h4⟩, h5⟩)
        · skip
          have d48 := hD.out 25 48 (by simp [hdep]) rfl
          obtain ⟨pp, cc, qq, dd, ev, g1, g2, g3, g4⟩ : (vrRet out).f (vals 25) w' := hV 25 (by simp [hdep]) (by decide)
          rw [ev] at d48
          exact step_run rfl (v := .agg #[.int .i64 out.ep, .slice pp out.L.length cc]) (w' := w') (by go_simp) ⟨⟨pp, cc, rfl, g1, g3⟩, Below.refl _ _⟩
        · skip
          have d48 := hD.out 25 48 (by simp [hdep]) rfl
          obtain ⟨pp, cc, qq, dd, ev, g1, g2, g3, g4⟩ : (vrRet out).f (vals 25) w' := hV 25 (by simp [hdep]) (by decide)
          rw [ev] at d48
          exact step_run rfl (v := .slice qq out.gone.length dd) (w' := w') (by go_simp) ⟨⟨qq, dd, rfl, g2, g4⟩, Below.refl _ _⟩
        · skip
          have d48 := hD.out 25 48 (by simp [hdep]) rfl
          obtain ⟨pp, cc, qq, dd, ev, g1, g2, g3, g4⟩ : (vrRet out).f (vals 25) w' := hV 25 (by simp [hdep]) (by decide)
          rw [ev] at d48
          exact step_run rfl (v := .int .i64 out.err) (w' := w') (by go_simp) ⟨rfl, Below.refl _ _⟩
        · skip
          have d50 := hD.out 27 50 (by simp [hdep]) rfl
          obtain ⟨qq, dd, ev, g2, g4⟩ : (vrGone out).f (vals 27) w' := hV 27 (by simp [hdep]) (by decide)
          rw [ev] at d50
          exact step_run rfl (v := .slice qq out.gone.length dd) (w' := w') (by go_simp) ⟨⟨qq, dd, rfl, g2, g4⟩, Below.refl _ _⟩
        · skip
          have d51 := hD.out 28 51 (by simp [hdep]) rfl
          rw [show vals 28 = _ from hV 28 (by simp [hdep]) (by decide)] at d51
          exact step_run rfl (v := .int .i64 out.err) (w' := w') (by go_simp) ⟨rfl, Below.refl _ _⟩
      · intro opr Ls vals w' hi hL hdep hC hK hob hV
        generalize hA : frA _ _ Ls vals = a'
        have hT1 : a'.tmps.getD 1 undef = .int .i64 k := by rw [← hA, frA_base (by kernel_rfl)]; rfl
        have hT2 : a'.tmps.getD 2 undef = .pointer (some ⟨w.heap.size, 0, none⟩) := by rw [← hA, frA_base (by kernel_rfl)]; rfl
        have hT4 : a'.tmps.getD 4 undef = .pointer (some ⟨w.heap.size + 1, 0, none⟩) := by rw [← hA, frA_base (by kernel_rfl)]; rfl
        have hD := Lib.hid (fun k t (hk : Ls k = true) (ht : dstOf _ k = some t) => hA ▸ frA_done (by kernel_rfl) (vals := vals) hk ht)
        clear hA
        injection hi with hi
        subst hi
        try simp [Region.binds] at hdep
        have d49 := hD.out 26 49 hL rfl
        obtain ⟨pp, cc, ev, g1, g3⟩ : (vrAt out).f (vals 26) w' := hV 26 hL (by decide)
        rw [ev] at d49 ⊢
        have z0 : w'.cell? ⟨w.heap.size + 1, 0, none⟩ = some (.int .i64 0) := by simp [World.cell?, hob]
        have z1 : w'.cell? ⟨w.heap.size + 1, 1, none⟩ = some (.slice none 0 0) := by simp [World.cell?, hob]
        have f0 : w'.frozen? ⟨w.heap.size + 1, 0, none⟩ = false := by simp [World.frozen?, hob]
        have f1 : w'.frozen? ⟨w.heap.size + 1, 1, none⟩ = false := by simp [World.frozen?, hob]
        clear hob hV
        exact stepI_skip rfl (w' := layCells w' (w.heap.size + 1) 0 [.int .i64 out.ep, .slice pp out.L.length cc]) (by unfold layCells layCells layCells; go_simp) ⟨rfl, rfl⟩
      · intro vals w4 hK hV hob
        have e0 : vals 0 = .agg #[.int .i64 ep, .slice (some ⟨pb, po, none⟩) n c] := hV 0 (by decide) (by decide)
        have e1 : vals 1 = .int .i64 k := hV 1 (by decide) (by decide)
        have e2 : vals 2 = .pointer (some ⟨w.heap.size, 1, none⟩) := hV 2 (by decide) (by decide)
        have e3 : vals 3 = .slice (some ⟨pb, po, none⟩) n c := hV 3 (by decide) (by decide)
        have e4 : vals 4 = .int .i64 k := hV 4 (by decide) (by decide)
        have e5 : vals 5 = .pointer (some ⟨pb, po + k * 4, none⟩) := hV 5 (by decide) (by decide)
        have e6 : vals 6 = .pointer (some ⟨pb, po + k * 4 + 2, none⟩) := hV 6 (by decide) (by decide)
        have e7 : vals 7 = .int .i64 sN := hV 7 (by decide) (by decide)
        have e8 : vals 8 = .pointer (some ⟨w.heap.size, 1, none⟩) := hV 8 (by decide) (by decide)
        have e9 : vals 9 = .slice (some ⟨pb, po, none⟩) n c := hV 9 (by decide) (by decide)
        have e10 : vals 10 = .int .i64 k := hV 10 (by decide) (by decide)
        have e11 : vals 11 = .pointer (some ⟨pb, po + k * 4, none⟩) := hV 11 (by decide) (by decide)
        have e12 : vals 12 = .pointer (some ⟨pb, po + k * 4, none⟩) := hV 12 (by decide) (by decide)
        have e13 : vals 13 = .pointer (some ⟨pb, po + k * 4, none⟩) := hV 13 (by decide) (by decide)
        have e14 : vals 14 = .string sF := hV 14 (by decide) (by decide)
        have e15 : vals 15 = .pointer (some ⟨w.heap.size, 1, none⟩) := hV 15 (by decide) (by decide)
        have e16 : vals 16 = .slice (some ⟨pb, po, none⟩) n c := hV 16 (by decide) (by decide)
        have e17 : vals 17 = .int .i64 k := hV 17 (by decide) (by decide)
        have e18 : vals 18 = .int .i64 ((k : Int) + 1) := hV 18 (by decide) (by decide)
        have e19 : vals 19 = .pointer (some ⟨pb, po + (k + 1) * 4, none⟩) := hV 19 (by decide) (by decide)
        have e20 : vals 20 = .pointer (some ⟨pb, po + (k + 1) * 4, none⟩) := hV 20 (by decide) (by decide)
        have e21 : vals 21 = .pointer (some ⟨pb, po + (k + 1) * 4 + 1, none⟩) := hV 21 (by decide) (by decide)
        have e22 : vals 22 = .string sT := hV 22 (by decide) (by decide)
        have e23 : vals 23 = .agg #[.string sF, .string sT] := hV 23 (by decide) (by decide)
        obtain ⟨b24, e24, g1_24⟩ : (vrSp (.string sF) (.string sT)).f (vals 24) w4 := hV 24 (by decide) (by decide)
        obtain ⟨p25, c25, q25, d25, e25, g1_25, g2_25, g3_25, g4_25⟩ : (vrRet out).f (vals 25) w4 := hV 25 (by decide) (by decide)
        obtain ⟨p26, c26, e26, g1_26, g3_26⟩ : (vrAt out).f (vals 26) w4 := hV 26 (by decide) (by decide)
        obtain ⟨q27, d27, e27, g2_27, g4_27⟩ : (vrGone out).f (vals 27) w4 := hV 27 (by decide) (by decide)
        have e28 : vals 28 = .int .i64 out.err := hV 28 (by decide) (by decide)
        obtain ⟨q30, d30, e30, g2_30, g4_30⟩ : (vrGone out).f (vals 30) w4 := hV 30 (by decide) (by decide)
        have e31 : vals 31 = .int .i64 out.err := hV 31 (by decide) (by decide)
        rw [e26] at hob
        have hob : w4.heap[w.heap.size + 1]? = some (.cells #[.int .i64 out.ep, .slice p26 out.L.length c26] 26 (0, 0)) := hob
        have r0 : w4.cell? ⟨w.heap.size + 1, 0, none⟩ = some (.int .i64 out.ep) := by simp [World.cell?, hob]
        have r1 : w4.cell? ⟨w.heap.size + 1, 1, none⟩ = some (.slice p26 out.L.length c26) := by simp [World.cell?, hob]
        have HQ := Lib.hid (show RetO w out (.returned (.tuple #[.agg #[.int .i64 out.ep, .slice p26 out.L.length c26], .slice q30 out.gone.length d30, .int .i64 out.err])) w4 from ⟨p26, c26, q30, d30, rfl, g1_26, g2_30, ⟨g3_26, g4_30⟩, HBr.out.trans (hK.below (fun b e => by have e : b = w.heap.size + 1 := e; omega) HBr.out.size)⟩)
        simp only [putsL, Act.put, List.setIfInBounds_toArray, List.set_cons_zero, List.set_cons_succ, e0, e1, e2, e3, e4, e5, e6, e7, e8, e9, e10, e11, e12, e13, e14, e15, e16, e17, e18, e19, e20, e21, e22, e23, e24, e25, e26, e27, e28, e30, e31]
        clear e0 e1 e2 e3 e4 e5 e6 e7 e8 e9 e10 e11 e12 e13 e14 e15 e16 e17 e18 e19 e20 e21 e22 e23 e24 e25 e26 e27 e28 e30 e31 hK hV hob
        generalize out.ep = oe at HQ r0 ⊢
        generalize out.L.length = ol at HQ r1 ⊢
        generalize out.gone.length = og at HQ ⊢
        generalize out.err = oer at HQ ⊢
        go_wp2_with fail
        refine bodyPost_ret (v := .tuple #[.agg #[.int .i64 oe, .slice p26 ol c26], .slice q30 og d30, .int .i64 oer]) (by simp [results, Try.results10, go_sem, r0, r1]) rfl ?_
        exact HQ.out
    · have hd : decide (0 ≤ i ∧ i ≤ (n : Int) - 2) = false := decide_eq_false hi
      have HO1 := Lib.hid (HBad.out fun h => hi ⟨h.2.1, by have := h.2.2; omega⟩)
      clear hf hi
      go_enter Try.func10, Try.ntmps10
      go_wp2_with fail
      rw [HW0.out]
      refine CG.out.mono ?_
      rintro e w1 ⟨rfl, hb1⟩
      have HB1 := Lib.hid hb1
      clear x0 x1
      obtain ⟨_, x0, x1⟩ := HBX.out.below hb1
      clear hb1
      go_wp2_with fail
      refine (CF.out _ _ _ w1).mono ?_
      rintro e w2 ⟨rfl, hb2⟩
      have HB2 := Lib.hid (HB1.out.trans (hb2.mono HB1.out.size))
      clear x0 x1 hb2
      rw [hd]
      go_wp2_with fail
      refine (CR.out 1 w2).mono ?_
      rintro e w4 ⟨p4, c4, q4, d4, rfl, h1, h2, h3, hb4⟩
      obtain ⟨hrs, hbl⟩ := HEND.out w4 (HB2.out.trans (hb4.mono HB2.out.size))
      have HQ := Lib.hid (ret_store (c := c4) (d := d4) (b1 := w.heap.size + 1) h1 h2 h3 hrs hbl (by omega) rfl rfl rfl rfl)
      have r0 : w4.cell? ⟨w.heap.size + 1, 0, none⟩ = some (.int .i64 0) := by simp [World.cell?, hrs]
      have r1 : w4.cell? ⟨w.heap.size + 1, 1, none⟩ = some (.slice none 0 0) := by simp [World.cell?, hrs]
      have f0 : w4.frozen? ⟨w.heap.size + 1, 0, none⟩ = false := by simp [World.frozen?, hrs]
      have f1 : w4.frozen? ⟨w.heap.size + 1, 1, none⟩ = false := by simp [World.frozen?, hrs]
      clear h1 h2 h3 hb4 hrs hbl
      simp only [errA, List.length_nil] at HQ ⊢
      go_wp2_with fail
      refine bodyPost_ret (v := .tuple #[.agg #[.int .i64 0, .slice p4 0 c4], .slice q4 0 d4, .int .i64 1]) (by simp [results, Try.results10, go_sem, r0, r1]) rfl ?_
      rw [HO1.out]
      exact HQ.out
  · have HO1 := Lib.hid (HBad.out fun h => hf h.1)
    have hf : freshB 5 ep L = false := by simpa using hf
    rw [hf] at CG
    clear hf
    go_enter Try.func10, Try.ntmps10
    go_wp2_with fail
    rw [HW0.out]
    refine CG.out.mono ?_
    rintro e w1 ⟨rfl, hb1⟩
    have HB1 := Lib.hid hb1
    clear hb1 x0 x1
    go_wp2_with fail
    refine (CR.out 1 w1).mono ?_
    rintro e w4 ⟨p4, c4, q4, d4, rfl, h1, h2, h3, hb4⟩
    obtain ⟨hrs, hbl⟩ := HEND.out w4 (HB1.out.trans (hb4.mono HB1.out.size))
    have HQ := Lib.hid (ret_store (c := c4) (d := d4) (b1 := w.heap.size + 1) h1 h2 h3 hrs hbl (by omega) rfl rfl rfl rfl)
    have r0 : w4.cell? ⟨w.heap.size + 1, 0, none⟩ = some (.int .i64 0) := by simp [World.cell?, hrs]
    have r1 : w4.cell? ⟨w.heap.size + 1, 1, none⟩ = some (.slice none 0 0) := by simp [World.cell?, hrs]
    have f0 : w4.frozen? ⟨w.heap.size + 1, 0, none⟩ = false := by simp [World.frozen?, hrs]
    have f1 : w4.frozen? ⟨w.heap.size + 1, 1, none⟩ = false := by simp [World.frozen?, hrs]
    clear h1 h2 h3 hb4 hrs hbl
    simp only [errA, List.length_nil] at HQ ⊢
    go_wp2_with fail
    refine bodyPost_ret (v := .tuple #[.agg #[.int .i64 0, .slice p4 0 c4], .slice q4 0 d4, .int .i64 1]) (by simp [results, Try.results10, go_sem, r0, r1]) rfl ?_
    rw [HO1.out]
    exact HQ.out
end Go.Proofs.Ytodcnemnajlbdaa
