/-
  Layer atlas: Move.
-/
import Derived.Test.YtodcnemnajlbdaaAtPr1
namespace Go.Proofs.Ytodcnemnajlbdaa
open Go.RowKit Go.Gz

set_option maxHeartbeats 8000000 in
set_option maxRecDepth 100000 in
theorem move_any (ep : Int) (L : List Sd) (p : Option Addr) (c : Nat) (i m nodes : Int) (w : World) (hp : RowK KS w p L) (hL : L.length ≤ 1000000) :
    Calls Try.prog 11 #[.agg #[.int .i64 ep, .slice p L.length c], .int .i64 i, .int .i64 m, .int .i64 nodes] w (RetO w (moveA ep L i m nodes)) := by
  obtain ⟨w0, hw0⟩ : ∃ w0, (w.alloc (.cells #[.int .i64 ep, .slice p L.length c] 26)).alloc (.cells #[.int .i64 0, .slice none 0 0] 26) = w0 := ⟨_, rfl⟩
  have hb0 : Below w.heap.size w w0 := hw0 ▸ ((Below.refl _ _).alloc (Nat.le_refl _) _).alloc (by simp) _
  have HB0 := Lib.hid hb0
  have HZ := Lib.hid (show w0.heap.size = w.heap.size + 2 by rw [← hw0]; simp)
  have HBX := Lib.hid (show BoxA w0 w.heap.size ep (.slice p L.length c) from hw0 ▸ (BoxA.new w _ _ _).below (below_alloc _ _))
  have HRS := Lib.hid (show w0.heap[w.heap.size + 1]? = some (.cells #[.int .i64 0, .slice none 0 0] 26 (0, 0)) by
    have := alloc_at (w.alloc (.cells #[.int .i64 ep, .slice p L.length c] 26)) (.cells #[.int .i64 0, .slice none 0 0] 26)
    rw [hw0] at this
    simpa using this)
  have HPW := Lib.hid hp
  have HEND := Lib.hid (show ∀ w4, Below w0.heap.size w0 w4 → w4.heap[w.heap.size + 1]? = some (.cells #[.int .i64 0, .slice none 0 0] 26 (0, 0)) ∧ Below w.heap.size w w4 from fun w4 h4 => ⟨(h4.block _ (by have := HZ.out; omega)).trans HRS.out, HB0.out.trans (h4.mono HB0.out.size)⟩)
  have CR := Lib.hid refuse_any
  have CG := Lib.hid (goesOn_any ep L p c nodes w0 (hp.below hb0) hL)
  have CF := Lib.hid from_any
  obtain ⟨out, hout⟩ : ∃ out, moveA ep L i m nodes = out := ⟨_, rfl⟩
  rw [hout]
  have HBad := Lib.hid (show ¬ (freshB nodes ep L = true ∧ 0 ≤ i ∧ i < L.length ∧ 1 ≤ m ∧ m ≤ nodes ∧ m ≠ (L.getD i.toNat default).n) → out = errA 1 from fun h => by rw [← hout]; unfold moveA; rw [if_neg h])
  have HGood := Lib.hid (show freshB nodes ep L = true ∧ 0 ≤ i ∧ i < L.length ∧ 1 ≤ m ∧ m ≤ nodes ∧ m ≠ (L.getD i.toNat default).n → out = ⟨ep + 1, moveM ep L i.toNat m, [i], 0⟩ from fun h => by rw [← hout]; unfold moveA; rw [if_pos h])
  obtain ⟨n, hN⟩ : ∃ n, L.length = n := ⟨_, rfl⟩
  have HN := Lib.hid hN
  rw [hN] at hw0 CG HBX HBad HGood hL ⊢
  have HW0 := Lib.hid hw0
  have hwr : IntKind.i64.wrap ((n : Int) - 1) = (n : Int) - 1 := IntWalk.i64_in _ (by omega)
  obtain ⟨_, x0, x1⟩ := HBX.out
  clear hw0 hp hb0 hN hout
  by_cases hf : freshB nodes ep L = true
  · rw [hf] at CG
    by_cases hi : 0 ≤ i ∧ i ≤ (n : Int) - 1
    · have hd : decide (0 ≤ i ∧ i ≤ (n : Int) - 1) = true := decide_eq_true hi
      obtain ⟨k, rfl⟩ : ∃ k : Nat, i = (k : Int) := ⟨i.toNat, by omega⟩
      by_cases hm : 1 ≤ m ∧ m ≤ nodes
      · have hd2 : decide (1 ≤ m ∧ m ≤ nodes) = true := decide_eq_true hm
        obtain ⟨hmay, hep⟩ := (fresh_iff nodes ep L).1 hf
        have hl12 := hmay.ln.2
        have hep1 := hmay.ep1
        have hkl : k < L.length := by rw [HN.out]; omega
        obtain ⟨e, he⟩ : ∃ e, L.getD k default = e := ⟨_, rfl⟩
        have HO1 := Lib.hid (show m ≠ e.n → out = ⟨ep + 1, moveM ep L (k : Int).toNat m, [(k : Int)], 0⟩ from fun h => HGood.out ⟨hf, hi.1, by omega, hm.1, hm.2, by rw [Int.toNat_natCast, he]; exact h⟩)
        have HO2 := Lib.hid (show m = e.n → out = errA 1 from fun h => HBad.out fun h2 => h2.2.2.2.2.2 (by rw [Int.toNat_natCast, he]; exact h))
        have HCE := Lib.hid (show ∀ w1, Below w.heap.size w w1 → ∃ b o, p = some ⟨b, o, none⟩ ∧ b < w.heap.size ∧ (∀ q, q < KS.n → w1.cell? ⟨b, o + k * KS.n + q, none⟩ = (KS.cf e)[q]?) from fun w1 h1 => by
          obtain ⟨b, o, h2, h3, h4⟩ := HPW.out.cells h1 hkl
          exact ⟨b, o, h2, h3, he ▸ h4⟩)
        have CX := Lib.hid (show m ≠ e.n → ∀ w1 b, RowK KS w1 p L → RowK KP w1 (some ⟨b, 0, none⟩) [⟨e.sp.f, e.sp.t⟩] → Calls Try.prog 22 #[.agg #[.int .i64 ep, .slice p n c], .int .i64 (k : Int), .int .i64 1, .int .i64 m, .slice (some ⟨b, 0, none⟩) 1 1] w1 (RetO w1 out) from fun hne w1 b h1 h2 => by
          have := change_any w1 ep L p c k 1 m [⟨e.sp.f, e.sp.t⟩] (some ⟨b, 0, none⟩) 1 h1 h2 (by omega) (by simp) (by decide) (by omega) (by omega)
          have e4 : goneI k 1 = [(k : Int)] := by simp [goneI]
          have e3 : moveM ep L (k : Int).toNat m = withL L ([⟨e.sp.f, e.sp.t⟩].map (shOf m (ep + 1))) k 1 := by unfold moveM; rw [Int.toNat_natCast, he]; rfl
          rw [e4, ← e3, HN.out, ← HO1.out hne] at this
          exact this)
        obtain ⟨⟨sF, sT⟩, sN, ee⟩ := e
        simp only at CX HO1 HO2
        have HKF := Lib.hid (show (0 : Int) ≤ (k : Int) ∧ (k : Int) < (n : Int) from ⟨by omega, by omega⟩)
        clear hmay he hf hi hm hkl hep hep1 hl12
        go_enter Try.func11, Try.ntmps11
        go_wp2_with fail
        rw [HW0.out]
        refine CG.out.mono ?_
        rintro e w1 ⟨rfl, hb1⟩
        have HB1 := Lib.hid hb1
        clear x0 x1
        obtain ⟨_, x0, x1⟩ := HBX.out.below hb1
        clear hb1
        go_wp2_with fail
        refine (CF.out _ _ _ w1).mono ?_
        rintro e w2 ⟨rfl, hb2⟩
        have HB2 := Lib.hid (HB1.out.trans (hb2.mono HB1.out.size))
        clear x0 x1 hb2
        rw [hd]
        obtain ⟨_, x0, x1⟩ := HBX.out.below HB2.out
        go_wp2_with fail
        refine (CF.out _ _ _ w2).mono ?_
        rintro e w3 ⟨rfl, hb3⟩
        have HB3 := Lib.hid (HB2.out.trans (hb3.mono HB2.out.size))
        clear x0 x1 hb3
        rw [hd2]
        obtain ⟨hrs3, hbl3⟩ := HEND.out w3 HB3.out
        have HRr := Lib.hid hrs3
        have HBr := Lib.hid hbl3
        obtain ⟨_, x0, x1⟩ := HBX.out.below HB3.out
        obtain ⟨pb, po, rfl, hpb, hcell⟩ := HCE.out w3 HBr.out
        have z2 : w3.cell? ⟨pb, po + k * 4 + 2, none⟩ = some (.int .i64 sN) := hcell 2 (by decide)
        obtain ⟨hk0, hkn⟩ := HKF.out
        by_cases hq : m = sN
        · have HO3 := Lib.hid (HO2.out hq)
          have hqb : (m == sN) = true := by simpa using hq
          clear hcell
          go_wp2_with fail
          refine (CR.out 1 w3).mono ?_
          rintro e w4 ⟨p4, c4, q4, d4, rfl, h1, h2, h3, hb4⟩
          obtain ⟨hrs, hbl⟩ := HEND.out w4 (HB3.out.trans (hb4.mono HB3.out.size))
          have HQ := Lib.hid (ret_store (c := c4) (d := d4) (b1 := w.heap.size + 1) h1 h2 h3 hrs hbl (by omega) rfl rfl rfl rfl)
          have r0 : w4.cell? ⟨w.heap.size + 1, 0, none⟩ = some (.int .i64 0) := by simp [World.cell?, hrs]
          have r1 : w4.cell? ⟨w.heap.size + 1, 1, none⟩ = some (.slice none 0 0) := by simp [World.cell?, hrs]
          have f0 : w4.frozen? ⟨w.heap.size + 1, 0, none⟩ = false := by simp [World.frozen?, hrs]
          have f1 : w4.frozen? ⟨w.heap.size + 1, 1, none⟩ = false := by simp [World.frozen?, hrs]
          clear h1 h2 h3 hb4 hrs hbl
          simp only [errA, List.length_nil] at HQ ⊢
          go_wp2_with fail
          refine bodyPost_ret (v := .tuple #[.agg #[.int .i64 0, .slice p4 0 c4], .slice q4 0 d4, .int .i64 1]) (by simp [results, Try.results11, go_sem, r0, r1]) rfl ?_
          rw [HO3.out]
          exact HQ.out
        have hqb : (m == sN) = false := by simpa using hq
        have CX := Lib.hid (CX.out hq)
        have HX0 := Lib.hid x0
        have HX1 := Lib.hid x1
        have HZ0 := Lib.hid (show w3.cell? ⟨pb, po + k * 4, none⟩ = some (.string sF) from hcell 0 (by decide))
        have HZ1 := Lib.hid (show w3.cell? ⟨pb, po + k * 4 + 1, none⟩ = some (.string sT) from hcell 1 (by decide))
        have HF1 := Lib.hid (show w.heap.size < w3.heap.size ∧ ¬ (w.heap.size = w.heap.size + 1) from ⟨by have := HZ.out; have := HB3.out.size; omega, by omega⟩)
        have HF2 := Lib.hid (show pb < w3.heap.size ∧ ¬ (pb = w.heap.size + 1) from ⟨by have := HBr.out.size; omega, by omega⟩)
        have HRw := Lib.hid (show RowK KS w3 (some ⟨pb, po, none⟩) L from HPW.out.below HBr.out)
        have HNP := Lib.hid (show ∀ a, some (⟨pb, po, none⟩ : Addr) = some a → ¬ (a.block = w.heap.size + 1) from fun a ha => by injection ha with ha; rw [← ha]; exact HF2.out.2)
        clear hcell hd hd2 hrs3 hbl3 HCE
        go_upto_region 3 with fail
        clear x0 x1 z2 hk0 hkn hq hqb
        refine wp_region_put mixedAt (by kernel_rfl) [VP.eq (.agg #[.int .i64 ep, .slice (some ⟨pb, po, none⟩) n c]), VP.eq (.int .i64 k), VP.eq (.int .i64 m), VP.eq (.pointer (some ⟨w.heap.size, 1, none⟩)), VP.eq (.slice (some ⟨pb, po, none⟩) n c), VP.eq (.int .i64 k), VP.eq (.pointer (some ⟨pb, po + k * 4, none⟩)), VP.eq (.pointer (some ⟨pb, po + k * 4, none⟩)), VP.eq (.agg #[.string sF, .string sT]), vrSp (.string sF) (.string sT), vrRet out, vrAt out, vrGone out, VP.eq (.int .i64 out.err), VP.any, vrGone out, VP.eq (.int .i64 out.err)]
          14 11 (by kernel_rfl) (by decide) (w.heap.size + 1) [Value.int .i64 0, Value.slice none 0 0] 26 (0, 0) aggC HRr.out ?_ ?_ ?_ ?_
        · refine fun k v w' cs' cs'' => staR_list _ (fun vp hvp => ?_) k v w' (w.heap.size + 1) cs' (0, 0) cs''
          simp only [List.mem_cons, List.not_mem_nil, or_false] at hvp
          rcases hvp with rfl | rfl | rfl | rfl | rfl | rfl | rfl | rfl | rfl | rfl | rfl | rfl | rfl | rfl | rfl | rfl | rfl
          all_goals first | exact staR_eq _ | exact staR_any | exact staR_ret _ | exact staR_at _ | exact staR_gone _ | exact staR_sp _ _
        · intro i opr Ls vals w' hi hL hdep hC hK hob hV hn
          have hlt : i < 17 := by have := (List.getElem?_eq_some_iff.1 hi).1; simpa using this
          generalize hA : frA _ _ Ls vals = a'
          have hT1 : a'.tmps.getD 1 undef = .int .i64 k := by rw [← hA, frA_base (by kernel_rfl)]; rfl
          have hT2 : a'.tmps.getD 2 undef = .int .i64 m := by rw [← hA, frA_base (by kernel_rfl)]; rfl
          have hT4 : a'.tmps.getD 4 undef = .pointer (some ⟨w.heap.size, 0, none⟩) := by rw [← hA, frA_base (by kernel_rfl)]; rfl
          have hT8 : a'.tmps.getD 8 undef = .pointer (some ⟨w.heap.size + 1, 0, none⟩) := by rw [← hA, frA_base (by kernel_rfl)]; rfl
          have hD := Lib.hid (fun k t (hk : Ls k = true) (ht : dstOf _ k = some t) => hA ▸ frA_done (by kernel_rfl) (vals := vals) hk ht)
          clear hA
          have x0' := (hK.cell (p := ⟨w.heap.size, 0, none⟩) HF1.out.1 HF1.out.2).trans HX0.out
          have x1' := (hK.cell (p := ⟨w.heap.size, 1, none⟩) HF1.out.1 HF1.out.2).trans HX1.out
          have hrow' := HRw.out.kept hK HNP.out
          have z0' := (hK.cell (p := ⟨pb, po + k * 4, none⟩) HF2.out.1 HF2.out.2).trans HZ0.out
          have z1' := (hK.cell (p := ⟨pb, po + k * 4 + 1, none⟩) HF2.out.1 HF2.out.2).trans HZ1.out
          obtain ⟨hk0, hkn⟩ := HKF.out
          obtain rfl | rfl | rfl | rfl | rfl | rfl | rfl | rfl | rfl | rfl | rfl | rfl | rfl | rfl | rfl | rfl : i = 0 ∨ i = 1 ∨ i = 2 ∨ i = 3 ∨ i = 4 ∨ i = 5 ∨ i = 6 ∨ i = 7 ∨ i = 8 ∨ i = 9 ∨ i = 10 ∨ i = 11 ∨ i = 12 ∨ i = 13 ∨ i = 15 ∨ i = 16 := by omega
          all_goals
            injection hi with hi
            subst hi
            try simp [Region.binds] at hdep
          · skip
            exact step_run rfl (v := .agg #[.int .i64 ep, .slice (some ⟨pb, po, none⟩) n c]) (w' := w') (by go_simp) ⟨rfl, Below.refl _ _⟩
          · skip
            exact step_run rfl (v := .int .i64 k) (w' := w') (by go_simp) ⟨rfl, Below.refl _ _⟩
          · skip
            exact step_run rfl (v := .int .i64 m) (w' := w') (by go_simp) ⟨rfl, Below.refl _ _⟩
          · skip
            exact step_run rfl (v := .pointer (some ⟨w.heap.size, 1, none⟩)) (w' := w') (by go_simp) ⟨rfl, Below.refl _ _⟩
          · skip
            have d47 := hD.out 3 47 (by simp [hdep]) rfl
            rw [show vals 3 = _ from hV 3 (by simp [hdep]) (by decide)] at d47
            exact step_run rfl (v := .slice (some ⟨pb, po, none⟩) n c) (w' := w') (by go_simp) ⟨rfl, Below.refl _ _⟩
          · skip
            exact step_run rfl (v := .int .i64 k) (w' := w') (by go_simp) ⟨rfl, Below.refl _ _⟩
          · skip
            have d48 := hD.out 4 48 (by simp [hdep]) rfl
            rw [show vals 4 = _ from hV 4 (by simp [hdep]) (by decide)] at d48
            have d49 := hD.out 5 49 (by simp [hdep]) rfl
            rw [show vals 5 = _ from hV 5 (by simp [hdep]) (by decide)] at d49
            exact step_run rfl (v := .pointer (some ⟨pb, po + k * 4, none⟩)) (w' := w') (by go_simp) ⟨rfl, Below.refl _ _⟩
          · skip
            have d50 := hD.out 6 50 (by simp [hdep]) rfl
            rw [show vals 6 = _ from hV 6 (by simp [hdep]) (by decide)] at d50
            exact step_run rfl (v := .pointer (some ⟨pb, po + k * 4, none⟩)) (w' := w') (by go_simp) ⟨rfl, Below.refl _ _⟩
          · skip
            have d51 := hD.out 7 51 (by simp [hdep]) rfl
            rw [show vals 7 = _ from hV 7 (by simp [hdep]) (by decide)] at d51
            exact step_run rfl (v := .agg #[.string sF, .string sT]) (w' := w') (by go_simp) ⟨rfl, Below.refl _ _⟩
          · skip
            have d52 := hD.out 8 52 (by simp [hdep]) rfl
            rw [show vals 8 = _ from hV 8 (by simp [hdep]) (by decide)] at d52
            rw [Array.getD_eq_getD_getElem?] at d52
            exact step_run rfl (v := .slice (some ⟨w'.heap.size, 0, none⟩) 1 1) (w' := w'.alloc (.cells #[.string sF, .string sT] 38)) (by go_simp) ⟨⟨_, rfl, alloc_at _ _⟩, below_alloc _ _⟩
          · skip
            have d44 := hD.out 0 44 (by simp [hdep]) rfl
            rw [show vals 0 = _ from hV 0 (by simp [hdep]) (by decide)] at d44
            have d45 := hD.out 1 45 (by simp [hdep]) rfl
            rw [show vals 1 = _ from hV 1 (by simp [hdep]) (by decide)] at d45
            have d46 := hD.out 2 46 (by simp [hdep]) rfl
            rw [show vals 2 = _ from hV 2 (by simp [hdep]) (by decide)] at d46
            have d53 := hD.out 9 53 (by simp [hdep]) rfl
            obtain ⟨bb, ev, g1⟩ : (vrSp (.string sF) (.string sT)).f (vals 9) w' := hV 9 (by simp [hdep]) (by decide)
            rw [ev] at d53
            exact step_enter (f := 22) (args := #[.agg #[.int .i64 ep, .slice (some ⟨pb, po, none⟩) n c], .int .i64 k, .int .i64 1, .int .i64 m, .slice (some ⟨bb, 0, none⟩) 1 1]) (w' := w') rfl (by go_simp) ((CX.out w' bb hrow' (RowK.block KP (L := [⟨sF, sT⟩]) g1)).mono fun e w'' ⟨p7, c7, q7, d7, he, h1, h2, ⟨h3, h4⟩, h5⟩ => ⟨_, he, ⟨p7, c7, q7, d7, rfl, h1, h2, h3, h4⟩, h5⟩)
          · skip
            have d54 := hD.out 10 54 (by simp [hdep]) rfl
            obtain ⟨pp, cc, qq, dd, ev, g1, g2, g3, g4⟩ : (vrRet out).f (vals 10) w' := hV 10 (by simp [hdep]) (by decide)
            rw [ev] at d54
            exact step_run rfl (v := .agg #[.int .i64 out.ep, .slice pp out.L.length cc]) (w' := w') (by go_simp) ⟨⟨pp, cc, rfl, g1, g3⟩, Below.refl _ _⟩
          · skip
            have d54 := hD.out 10 54 (by simp [hdep]) rfl
            obtain ⟨pp, cc, qq, dd, ev, g1, g2, g3, g4⟩ : (vrRet out).f (vals 10) w' := hV 10 (by simp [hdep]) (by decide)
            rw [ev] at d54
            exact step_run rfl (v := .slice qq out.gone.length dd) (w' := w') (by go_simp) ⟨⟨qq, dd, rfl, g2, g4⟩, Below.refl _ _⟩
          · skip
            have d54 := hD.out 10 54 (by simp [hdep]) rfl
            obtain ⟨pp, cc, qq, dd, ev, g1, g2, g3, g4⟩ : (vrRet out).f (vals 10) w' := hV 10 (by simp [hdep]) (by decide)
            rw [ev] at d54
            exact step_run rfl (v := .int .i64 out.err) (w' := w') (by go_simp) ⟨rfl, Below.refl _ _⟩
          · skip
            have d56 := hD.out 12 56 (by simp [hdep]) rfl
            obtain ⟨qq, dd, ev, g2, g4⟩ : (vrGone out).f (vals 12) w' := hV 12 (by simp [hdep]) (by decide)
            rw [ev] at d56
            exact step_run rfl (v := .slice qq out.gone.length dd) (w' := w') (by go_simp) ⟨⟨qq, dd, rfl, g2, g4⟩, Below.refl _ _⟩
          · skip
            have d57 := hD.out 13 57 (by simp [hdep]) rfl
            rw [show vals 13 = _ from hV 13 (by simp [hdep]) (by decide)] at d57
            exact step_run rfl (v := .int .i64 out.err) (w' := w') (by go_simp) ⟨rfl, Below.refl _ _⟩
        · intro opr Ls vals w' hi hL hdep hC hK hob hV
          generalize hA : frA _ _ Ls vals = a'
          have hT1 : a'.tmps.getD 1 undef = .int .i64 k := by rw [← hA, frA_base (by kernel_rfl)]; rfl
          have hT2 : a'.tmps.getD 2 undef = .int .i64 m := by rw [← hA, frA_base (by kernel_rfl)]; rfl
          have hT4 : a'.tmps.getD 4 undef = .pointer (some ⟨w.heap.size, 0, none⟩) := by rw [← hA, frA_base (by kernel_rfl)]; rfl
          have hT8 : a'.tmps.getD 8 undef = .pointer (some ⟨w.heap.size + 1, 0, none⟩) := by rw [← hA, frA_base (by kernel_rfl)]; rfl
          have hD := Lib.hid (fun k t (hk : Ls k = true) (ht : dstOf _ k = some t) => hA ▸ frA_done (by kernel_rfl) (vals := vals) hk ht)
          clear hA
          injection hi with hi
          subst hi
          try simp [Region.binds] at hdep
          have d55 := hD.out 11 55 hL rfl
          obtain ⟨pp, cc, ev, g1, g3⟩ : (vrAt out).f (vals 11) w' := hV 11 hL (by decide)
          rw [ev] at d55 ⊢
          have z0 : w'.cell? ⟨w.heap.size + 1, 0, none⟩ = some (.int .i64 0) := by simp [World.cell?, hob]
          have z1 : w'.cell? ⟨w.heap.size + 1, 1, none⟩ = some (.slice none 0 0) := by simp [World.cell?, hob]
          have f0 : w'.frozen? ⟨w.heap.size + 1, 0, none⟩ = false := by simp [World.frozen?, hob]
          have f1 : w'.frozen? ⟨w.heap.size + 1, 1, none⟩ = false := by simp [World.frozen?, hob]
          clear hob hV
          exact stepI_skip rfl (w' := layCells w' (w.heap.size + 1) 0 [.int .i64 out.ep, .slice pp out.L.length cc]) (by unfold layCells layCells layCells; go_simp) ⟨rfl, rfl⟩
        · intro vals w4 hK hV hob
          have e0 : vals 0 = .agg #[.int .i64 ep, .slice (some ⟨pb, po, none⟩) n c] := hV 0 (by decide) (by decide)
          have e1 : vals 1 = .int .i64 k := hV 1 (by decide) (by decide)
          have e2 : vals 2 = .int .i64 m := hV 2 (by decide) (by decide)
          have e3 : vals 3 = .pointer (some ⟨w.heap.size, 1, none⟩) := hV 3 (by decide) (by decide)
          have e4 : vals 4 = .slice (some ⟨pb, po, none⟩) n c := hV 4 (by decide) (by decide)
          have e5 : vals 5 = .int .i64 k := hV 5 (by decide) (by decide)
          have e6 : vals 6 = .pointer (some ⟨pb, po + k * 4, none⟩) := hV 6 (by decide) (by decide)
          have e7 : vals 7 = .pointer (some ⟨pb, po + k * 4, none⟩) := hV 7 (by decide) (by decide)
          have e8 : vals 8 = .agg #[.string sF, .string sT] := hV 8 (by decide) (by decide)
          obtain ⟨b9, e9, g1_9⟩ : (vrSp (.string sF) (.string sT)).f (vals 9) w4 := hV 9 (by decide) (by decide)
          obtain ⟨p10, c10, q10, d10, e10, g1_10, g2_10, g3_10, g4_10⟩ : (vrRet out).f (vals 10) w4 := hV 10 (by decide) (by decide)
          obtain ⟨p11, c11, e11, g1_11, g3_11⟩ : (vrAt out).f (vals 11) w4 := hV 11 (by decide) (by decide)
          obtain ⟨q12, d12, e12, g2_12, g4_12⟩ : (vrGone out).f (vals 12) w4 := hV 12 (by decide) (by decide)
          have e13 : vals 13 = .int .i64 out.err := hV 13 (by decide) (by decide)
          obtain ⟨q15, d15, e15, g2_15, g4_15⟩ : (vrGone out).f (vals 15) w4 := hV 15 (by decide) (by decide)
          have e16 : vals 16 = .int .i64 out.err := hV 16 (by decide) (by decide)
          rw [e11] at hob
          have hob : w4.heap[w.heap.size + 1]? = some (.cells #[.int .i64 out.ep, .slice p11 out.L.length c11] 26 (0, 0)) := hob
          have r0 : w4.cell? ⟨w.heap.size + 1, 0, none⟩ = some (.int .i64 out.ep) := by simp [World.cell?, hob]
          have r1 : w4.cell? ⟨w.heap.size + 1, 1, none⟩ = some (.slice p11 out.L.length c11) := by simp [World.cell?, hob]
          have HQ := Lib.hid (show RetO w out (.returned (.tuple #[.agg #[.int .i64 out.ep, .slice p11 out.L.length c11], .slice q15 out.gone.length d15, .int .i64 out.err])) w4 from ⟨p11, c11, q15, d15, rfl, g1_11, g2_15, ⟨g3_11, g4_15⟩, HBr.out.trans (hK.below (fun b e => by have e : b = w.heap.size + 1 := e; omega) HBr.out.size)⟩)
          simp only [putsL, Act.put, List.setIfInBounds_toArray, List.set_cons_zero, List.set_cons_succ, e0, e1, e2, e3, e4, e5, e6, e7, e8, e9, e10, e11, e12, e13, e15, e16]
          clear e0 e1 e2 e3 e4 e5 e6 e7 e8 e9 e10 e11 e12 e13 e15 e16 hK hV hob
          generalize out.ep = oe at HQ r0 ⊢
          generalize out.L.length = ol at HQ r1 ⊢
          generalize out.gone.length = og at HQ ⊢
          generalize out.err = oer at HQ ⊢
          go_wp2_with fail
          refine bodyPost_ret (v := .tuple #[.agg #[.int .i64 oe, .slice p11 ol c11], .slice q15 og d15, .int .i64 oer]) (by simp [results, Try.results11, go_sem, r0, r1]) rfl ?_
          exact HQ.out
      · have hd2 : decide (1 ≤ m ∧ m ≤ nodes) = false := decide_eq_false hm
        have HO1 := Lib.hid (HBad.out fun h => hm ⟨h.2.2.2.1, h.2.2.2.2.1⟩)
        clear hf hi hm
        go_enter Try.func11, Try.ntmps11
        go_wp2_with fail
        rw [HW0.out]
        refine CG.out.mono ?_
        rintro e w1 ⟨rfl, hb1⟩
        have HB1 := Lib.hid hb1
        clear x0 x1
        obtain ⟨_, x0, x1⟩ := HBX.out.below hb1
        clear hb1
        go_wp2_with fail
        refine (CF.out _ _ _ w1).mono ?_
        rintro e w2 ⟨rfl, hb2⟩
        have HB2 := Lib.hid (HB1.out.trans (hb2.mono HB1.out.size))
        clear x0 x1 hb2
        rw [hd]
        obtain ⟨_, x0, x1⟩ := HBX.out.below HB2.out
        go_wp2_with fail
        refine (CF.out _ _ _ w2).mono ?_
        rintro e w3 ⟨rfl, hb3⟩
        have HB3 := Lib.hid (HB2.out.trans (hb3.mono HB2.out.size))
        clear x0 x1 hb3
        rw [hd2]
        go_wp2_with fail
        refine (CR.out 1 w3).mono ?_
        rintro e w4 ⟨p4, c4, q4, d4, rfl, h1, h2, h3, hb4⟩
        obtain ⟨hrs, hbl⟩ := HEND.out w4 (HB3.out.trans (hb4.mono HB3.out.size))
        have HQ := Lib.hid (ret_store (c := c4) (d := d4) (b1 := w.heap.size + 1) h1 h2 h3 hrs hbl (by omega) rfl rfl rfl rfl)
        have r0 : w4.cell? ⟨w.heap.size + 1, 0, none⟩ = some (.int .i64 0) := by simp [World.cell?, hrs]
        have r1 : w4.cell? ⟨w.heap.size + 1, 1, none⟩ = some (.slice none 0 0) := by simp [World.cell?, hrs]
        have f0 : w4.frozen? ⟨w.heap.size + 1, 0, none⟩ = false := by simp [World.frozen?, hrs]
        have f1 : w4.frozen? ⟨w.heap.size + 1, 1, none⟩ = false := by simp [World.frozen?, hrs]
        clear h1 h2 h3 hb4 hrs hbl
        simp only [errA, List.length_nil] at HQ ⊢
        go_wp2_with fail
        refine bodyPost_ret (v := .tuple #[.agg #[.int .i64 0, .slice p4 0 c4], .slice q4 0 d4, .int .i64 1]) (by simp [results, Try.results11, go_sem, r0, r1]) rfl ?_
        rw [HO1.out]
        exact HQ.out
    · have hd : decide (0 ≤ i ∧ i ≤ (n : Int) - 1) = false := decide_eq_false hi
      have HO1 := Lib.hid (HBad.out fun h => hi ⟨h.2.1, by have := h.2.2.1; omega⟩)
      clear hf hi
      go_enter Try.func11, Try.ntmps11
      go_wp2_with fail
      rw [HW0.out]
      refine CG.out.mono ?_
      rintro e w1 ⟨rfl, hb1⟩
      have HB1 := Lib.hid hb1
      clear x0 x1
      obtain ⟨_, x0, x1⟩ := HBX.out.below hb1
      clear hb1
      go_wp2_with fail
      refine (CF.out _ _ _ w1).mono ?_
      rintro e w2 ⟨rfl, hb2⟩
      have HB2 := Lib.hid (HB1.out.trans (hb2.mono HB1.out.size))
      clear x0 x1 hb2
      rw [hd]
      go_wp2_with fail
      refine (CR.out 1 w2).mono ?_
      rintro e w4 ⟨p4, c4, q4, d4, rfl, h1, h2, h3, hb4⟩
      obtain ⟨hrs, hbl⟩ := HEND.out w4 (HB2.out.trans (hb4.mono HB2.out.size))
      have HQ := Lib.hid (ret_store (c := c4) (d := d4) (b1 := w.heap.size + 1) h1 h2 h3 hrs hbl (by omega) rfl rfl rfl rfl)
      have r0 : w4.cell? ⟨w.heap.size + 1, 0, none⟩ = some (.int .i64 0) := by simp [World.cell?, hrs]
      have r1 : w4.cell? ⟨w.heap.size + 1, 1, none⟩ = some (.slice none 0 0) := by simp [World.cell?, hrs]
      have f0 : w4.frozen? ⟨w.heap.size + 1, 0, none⟩ = false := by simp [World.frozen?, hrs]
      have f1 : w4.frozen? ⟨w.heap.size + 1, 1, none⟩ = false := by simp [World.frozen?, hrs]
      clear h1 h2 h3 hb4 hrs hbl
      simp only [errA, List.length_nil] at HQ ⊢
      go_wp2_with fail
      refine bodyPost_ret (v := .tuple #[.agg #[.int .i64 0, .slice p4 0 c4], .slice q4 0 d4, .int .i64 1]) (by simp [results, Try.results11, go_sem, r0, r1]) rfl ?_
      rw [HO1.out]
      exact HQ.out
  · have HO1 := Lib.hid (HBad.out fun h => hf h.1)
    have hf : freshB nodes ep L = false := by simpa using hf
    rw [hf] at CG
    clear hf
    go_enter Try.func11, Try.ntmps11
    go_wp2_with fail
    rw [HW0.out]
    refine CG.out.mono ?_
    rintro e w1 ⟨rfl, hb1⟩
    have HB1 := Lib.hid hb1
    clear hb1 x0 x1
    go_wp2_with fail
    refine (CR.out 1 w1).mono ?_
    rintro e w4 ⟨p4, c4, q4, d4, rfl, h1, h2, h3, hb4⟩
    obtain ⟨hrs, hbl⟩ := HEND.out w4 (HB1.out.trans (hb4.mono HB1.out.size))
    have HQ := Lib.hid (ret_store (c := c4) (d := d4) (b1 := w.heap.size + 1) h1 h2 h3 hrs hbl (by omega) rfl rfl rfl rfl)
    have r0 : w4.cell? ⟨w.heap.size + 1, 0, none⟩ = some (.int .i64 0) := by simp [World.cell?, hrs]
    have r1 : w4.cell? ⟨w.heap.size + 1, 1, none⟩ = some (.slice none 0 0) := by simp [World.cell?, hrs]
    have f0 : w4.frozen? ⟨w.heap.size + 1, 0, none⟩ = false := by simp [World.frozen?, hrs]
    have f1 : w4.frozen? ⟨w.heap.size + 1, 1, none⟩ = false := by simp [World.frozen?, hrs]
    clear h1 h2 h3 hb4 hrs hbl
    simp only [errA, List.length_nil] at HQ ⊢
    go_wp2_with fail
    refine bodyPost_ret (v := .tuple #[.agg #[.int .i64 0, .slice p4 0 c4], .slice q4 0 d4, .int .i64 1]) (by simp [results, Try.results11, go_sem, r0, r1]) rfl ?_
    rw [HO1.out]
    exact HQ.out
end Go.Proofs.Ytodcnemnajlbdaa
