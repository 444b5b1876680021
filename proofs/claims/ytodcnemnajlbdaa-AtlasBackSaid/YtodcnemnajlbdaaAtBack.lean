/-
  Layer atlas: the walk of AtlasBack, of a program that answers as is asked.
-/
import Derived.Test.YtodcnemnajlbdaaAtAwake
import Derived.Test.YtodcnemnajlbdaaAtEq
import Derived.Test.YtodcnemnajlbdaaAtBackM
import Derived.Test.YtodcnemnajlbdaaAtPr1
import Derived.Deep.CutBlock
import Derived.Deep.CutRange
namespace Go.Proofs.Ytodcnemnajlbdaa
open Go.RowKit Go.Gz

/-- an atlas that lies in block o. -/
def AB (w : World) (o : Nat) (ep : Int) (L : List Sd) (p : Option Addr) (n c : Nat) : Prop := w.heap[o]? = some (.cells #[.int .i64 ep, .slice p n c] 26 (0, 0)) ∧ RowK KS w p L
theorem AB.below {w w' : World} {o : Nat} {ep : Int} {L : List Sd} {p : Option Addr} {n c : Nat} (h : AB w o ep L p n c) (hb : Below w.heap.size w w') : AB w' o ep L p n c := ⟨(hb.block o (Array.getElem?_eq_some_iff.1 h.1).1).trans h.1, h.2.below hb⟩
theorem AB.cells {w : World} {o : Nat} {ep : Int} {L : List Sd} {p : Option Addr} {n c : Nat} (h : AB w o ep L p n c) : w.cell? ⟨o, 0, none⟩ = some (.int .i64 ep) ∧ w.cell? ⟨o, 1, none⟩ = some (.slice p n c) := ⟨by simp [World.cell?, h.1], by simp [World.cell?, h.1]⟩
theorem AB.new (w : World) (ep : Int) {L : List Sd} {p : Option Addr} (n c : Nat) (h : RowK KS w p L) : AB (w.alloc (.cells #[.int .i64 ep, .slice p n c] 26)) w.heap.size ep L p n c := ⟨alloc_at _ _, h.below (below_alloc _ _)⟩

def vrPair (x y : Int) : VP := ⟨fun v w => ∃ b, v = .slice (some ⟨b, 0, none⟩) 2 2 ∧ Row w .i64 (some ⟨b, 0, none⟩) [x, y], fun _ _ _ ⟨b, h1, h2⟩ hb => ⟨b, h1, h2.below hb⟩⟩

set_option maxHeartbeats 8000000 in
set_option maxRecDepth 100000 in
theorem back_walk (HP : ProgA) (ep : Int) (L : List Sd) (p : Option Addr) (ca : Nat) (key : ByteArray) (xb : Nat) (hxb : xb < 256) (w : World) (hp : RowK KS w p L) (hL : L.length ≤ 9223372036854775807) (hkey : key.size ≤ 9223372036854775807) :
    Calls Try.prog 5 #[.agg #[.int .i64 ep, .slice p L.length ca], .string key, .int .u8 (xb : Int)] w fun e w' => e = .returned (.bool true) ∧ Below w.heap.size w w' := by
  have HH := Lib.hid HP
  obtain ⟨n, hN⟩ : ∃ n, L.length = n := ⟨_, rfl⟩
  have HN := Lib.hid hN
  have CS := Lib.hid (fun w1 h => small_any w1 ep L p ca h hL)
  have CM := Lib.hid (fun w1 h (h6 : n ≤ 60) => made_any w1 ep L p ca h (by omega))
  have CR := Lib.hid (fun w1 h => refAtlasMay_any w1 ep 5 L p ca h hL)
  rw [hN] at hL CS CM CR ⊢
  obtain ⟨w0, hw0⟩ : ∃ w0, w.alloc (.cells #[.int .i64 ep, .slice p n ca] 47) = w0 := ⟨_, rfl⟩
  have HB0 := Lib.hid (show Below w.heap.size w w0 from hw0 ▸ below_alloc _ _)
  have HBX := Lib.hid (show BoxA w0 w.heap.size ep (.slice p n ca) from hw0 ▸ BoxA.new w _ _ _)
  have HR := Lib.hid (hp.below HB0.out)
  have HF := Lib.hid (show ∀ w', Below w0.heap.size w0 w' → (Ending.returned (Value.bool true) = .returned (.bool true) ∧ Below w.heap.size w w') from fun w' h => ⟨rfl, HB0.out.trans (h.mono HB0.out.size)⟩)
  clear HP hN hp
  have CA := Lib.hid (fun w => awake_yes HH.out w)
  go_enter Try.func5, Try.ntmps5
  go_wp2_with fail
  refine (CA.out _).mono ?_
  rintro e w1 ⟨rfl, hb1⟩
  have H1 := Lib.hid (show Below w0.heap.size w0 w1 from hw0 ▸ hb1)
  clear hb1 hw0
  obtain ⟨_, x0, x1⟩ := HBX.out.below H1.out
  go_wp2_with fail
  refine (CS.out _ (HR.out.below H1.out)).mono ?_
  rintro e w2 ⟨b, rfl, hsm, hb2⟩
  have H2 := Lib.hid (H1.out.trans (hb2.mono H1.out.size))
  have HSM := Lib.hid hsm
  clear hb2 x0 x1 hsm
  cases b with
  | false =>
    go_wp2_with fail
    go_ret
    exact ⟨rfl, HB0.out.trans (H2.out.mono HB0.out.size)⟩
  | true =>
    have h60 : n ≤ 60 := HSM.out rfl
    by_cases hk3 : (300 : Int) < (key.size : Int)
    · go_wp2_with fail
      go_ret
      exact ⟨rfl, HB0.out.trans (H2.out.mono HB0.out.size)⟩
    · obtain ⟨_, x0, x1⟩ := HBX.out.below H2.out
      obtain ⟨bm, hbm⟩ : ∃ bm, mayAB 5 ep L = bm := ⟨_, rfl⟩
      have CRw := Lib.hid (CR.out w2 (HR.out.below H2.out))
      rw [hbm] at CRw
      have HBM := Lib.hid hbm
      clear hbm
      go_wp2_with fail
      refine CRw.out.mono ?_
      rintro e w3 ⟨rfl, hb3⟩
      have H3 := Lib.hid (H2.out.trans (hb3.mono H2.out.size))
      clear hb3 CRw x0 x1
      cases bm with
      | false =>
        go_wp2_with fail
        go_ret
        exact ⟨rfl, HB0.out.trans (H3.out.mono HB0.out.size)⟩
      | true =>
        obtain ⟨_, x0, x1⟩ := HBX.out.below H3.out
        by_cases hE : (134217728 : Int) < ep
        · go_wp2_with fail
          go_ret
          exact ⟨rfl, HB0.out.trans (H3.out.mono HB0.out.size)⟩
        · have hmay := (mayAB_iff 5 ep L).1 HBM.out
          have HMay := Lib.hid hmay
          go_wp2_with fail
          refine (CM.out w3 (HR.out.below H3.out) h60).mono ?_
          rintro e w4 ⟨vx, rfl, hown, hb4⟩
          obtain ⟨px, cx, rfl, _, _, hrow, _⟩ := hown.row
          rw [HN.out]
          have H4 := Lib.hid (H3.out.trans (hb4.mono H3.out.size))
          have HX4 := Lib.hid (AB.new w4 ep n cx hrow)
          obtain ⟨w5, hw5⟩ : ∃ w5, w4.alloc (.cells #[.int .i64 ep, .slice px n cx] 26) = w5 := ⟨_, rfl⟩
          rw [hw5] at HX4
          have H5 := Lib.hid (show Below w0.heap.size w0 w5 from H4.out.trans ((hw5 ▸ below_alloc _ _ : Below w4.heap.size w4 w5).mono H4.out.size))
          have HW5 := Lib.hid hw5
          obtain ⟨o, ho⟩ : ∃ o, w4.heap.size = o := ⟨_, rfl⟩
          have HOW := Lib.hid ho
          rw [ho] at HX4
          obtain ⟨y0, y1⟩ := HX4.out.cells
          obtain ⟨out, hout⟩ : ∃ out, splitA ep L key = out := ⟨_, rfl⟩
          have CSp := Lib.hid (show Calls Try.prog 9 #[.agg #[.int .i64 ep, .slice px n cx], .string key] w5 (RetO w5 out) from by
            have := HH.out.split ep L px cx key w5 HX4.out.2 (by rw [HN.out]; omega)
            rw [HN.out, hout] at this
            exact this)
          have HOut := Lib.hid hout
          clear hw5 ho hown hb4 hrow x0 x1 hout hmay
          go_wp2_with fail
          rw [HW5.out, HOW.out]
          refine CSp.out.mono ?_
          rintro e w6 ⟨pb, cb, qb, db, rfl, hrb, hgb, htb, hb6⟩
          obtain ⟨eo, heo⟩ : ∃ eo, out.ep = eo := ⟨_, rfl⟩
          obtain ⟨nb, hnb⟩ : ∃ nb, out.L.length = nb := ⟨_, rfl⟩
          obtain ⟨ng, hng⟩ : ∃ ng, out.gone.length = ng := ⟨_, rfl⟩
          obtain ⟨er, her⟩ : ∃ er, out.err = er := ⟨_, rfl⟩
          rw [heo, hnb, hng, her]
          have HEQ := Lib.hid (And.intro heo (And.intro hnb (And.intro hng her)))
          have H6 := Lib.hid (H5.out.trans (hb6.mono H5.out.size))
          have HX6 := Lib.hid (HX4.out.below hb6)
          have HGB := Lib.hid hgb
          obtain ⟨w7, hw7⟩ : ∃ w7, w6.alloc (.cells #[.int .i64 eo, .slice pb nb cb] 26) = w7 := ⟨_, rfl⟩
          have hb7 : Below w6.heap.size w6 w7 := hw7 ▸ below_alloc _ _
          have H7 := Lib.hid (H6.out.trans (hb7.mono H6.out.size))
          have HX7 := Lib.hid (HX6.out.below hb7)
          have HB7 := Lib.hid (show AB w7 w6.heap.size eo out.L pb nb cb from hw7 ▸ AB.new w6 eo nb cb hrb)
          have HG7 := Lib.hid (hgb.below hb7)
          have HW7 := Lib.hid hw7
          clear hw7 hb7 hrb hgb htb hb6 CSp y0 y1 heo hnb hng her
          obtain ⟨ob, hob7⟩ : ∃ ob, w6.heap.size = ob := ⟨_, rfl⟩
          have HOB := Lib.hid hob7
          rw [hob7] at HB7
          clear hob7
          obtain ⟨y0, y1⟩ := HX7.out.cells
          go_upto_if 53 with fail
          rw [HW7.out, HOB.out]
          clear HOB HW7

          go_cut [11, 12, 13, 14] from 54 to 150 (fun v11 v12 v13 v14 wx => Hid (Below w7.heap.size w7 wx))
          case first =>
            by_cases h0 : er = 0
            · subst h0
              obtain ⟨i, hil, hsp, hmg⟩ := back_merge HMay.out (by omega) (by rw [HOut.out]; exact HEQ.out.2.2.2)
              have hout2 : out = ⟨ep + 1, splitM ep L key i, [(i : Int)], 0⟩ := HOut.out.symm.trans hsp
              obtain ⟨he1, he2, he3, -⟩ := HEQ.out
              obtain rfl : eo = ep + 1 := by rw [← he1, hout2]
              obtain rfl : ng = 1 := by rw [← he3, hout2]; rfl
              have HG7' := Lib.hid (show Row w7 .i64 qb [(i : Int)] by have := HG7.out; rw [hout2] at this; exact this)
              obtain ⟨bg, og, rfl, hbg, -⟩ := row_cell HG7'.out (Below.refl _ _) (show 0 < 1 by omega)
              have HGC := Lib.hid (show ∀ w', Below w7.heap.size w7 w' → w'.cell? ⟨bg, og, none⟩ = some (.int .i64 (i : Int)) from fun w' h => by
                obtain ⟨b', o', h1, _, h2⟩ := row_cell HG7'.out h (show 0 < 1 by omega)
                injection h1 with h1
                injection h1 with h3 h4 _
                rw [h3, h4]
                exact h2)
              have HB7' := Lib.hid (show AB w7 ob (ep + 1) (splitM ep L key i) pb nb cb by have := HB7.out; rw [hout2] at this; exact this)
              have hnb2 : (splitM ep L key i).length = nb := by rw [← he2, hout2]
              rw [show ep + 1 + 1 = ep + 2 by omega] at hmg
              obtain ⟨C, hC⟩ : ∃ C, withL L [⟨(L.getD i default).sp, (L.getD i default).n, ep + 2⟩] i 1 = C := ⟨_, rfl⟩
              have HCL := Lib.hid (show C.length = n by rw [← hC, withL_len _ _ (by omega), HN.out]; simp only [List.length_cons, List.length_nil]; omega)
              have HCG := Lib.hid (show ∀ j, j < L.length → C.getD j default = if j = i then ⟨(L.getD i default).sp, (L.getD i default).n, ep + 2⟩ else L.getD j default from fun j hj => by rw [← hC]; exact withL_self hil hj)
              rw [hC] at hmg
              obtain ⟨out2, ho2⟩ : ∃ o2, mergeA (ep + 1) (splitM ep L key i) (i : Int) = o2 := ⟨_, rfl⟩
              have HE2 := Lib.hid (show out2.ep = ep + 2 ∧ out2.L = C ∧ out2.gone = [(i : Int), (i : Int) + 1] ∧ out2.err = 0 by rw [← ho2, hmg]; exact ⟨rfl, rfl, rfl, rfl⟩)
              have CMg := Lib.hid (show ∀ w', RowK KS w' pb (splitM ep L key i) → Calls Try.prog 10 #[.agg #[.int .i64 (ep + 1), .slice pb nb cb], .int .i64 (i : Int)] w' (RetO w' out2) from fun w' h => by
                have hsl : (splitM ep L key i).length = L.length + 1 := by unfold splitM; rw [withL_len _ _ (by omega)]; simp
                have := HH.out.merge (ep + 1) (splitM ep L key i) pb cb (i : Int) w' h (by have := HMay.out.ln; omega)
                rw [hnb2, ho2] at this
                exact this)
              have HIL := Lib.hid hil
              clear hsp hmg hout2 he1 he2 he3 hC ho2 hnb2 hbg hil
              go_upto_region 8 with fail
              clear y0 y1
              refine wp_region_lay mixedAt (by kernel_rfl) [VP.eq (.agg #[.int .i64 (ep + 1), .slice pb nb cb]), VP.eq (.slice (some ⟨bg, og, none⟩) 1 db), VP.eq (.pointer (some ⟨bg, og, none⟩)), VP.eq (.int .i64 i), vrRet out2, vrRet out2, vrAt out2, vrGone out2, VP.eq (.int .i64 out2.err), VP.any, VP.any, vrGone out2, VP.eq (.int .i64 out2.err)]
                [⟨9, 10, 6, 26, [.int .i64 0, .slice none 0 0], aggC⟩] (by kernel_rfl) ?_ ?_ ?_ ?_ ?_
              · intro kk y hy v w' b cs cs' hv hb _
                simp only [List.mem_cons, List.not_mem_nil, or_false] at hy
                subst hy
                refine staR_list _ (fun vp hvp => ?_) kk v w' b cs (0, 0) cs' hv hb
                simp only [List.mem_cons, List.not_mem_nil, or_false] at hvp
                rcases hvp with rfl | rfl | rfl | rfl | rfl | rfl | rfl | rfl | rfl | rfl | rfl | rfl | rfl
                all_goals first | exact staR_eq _ | exact staR_any | exact staR_ret _ | exact staR_at _ | exact staR_gone _ | exact staR_sp _ _
              · intro i opr Ls vals w' hi hL' hdep hC hB hV hn
                have hlt : i < 13 := by have := (List.getElem?_eq_some_iff.1 hi).1; simpa using this
                have hnn : i ≠ 9 ∧ i ≠ 10 := by
                  have := hn _ (List.mem_cons_self ..)
                  exact ⟨fun e => this.1 e.symm, fun e => this.2 e.symm⟩
                have hVk : ∀ j, Ls j = true → j ≠ 9 → j ≠ 10 → _ := fun j h1 h2 h3 => hV j h1 (fun y hy => by
                  simp only [List.mem_cons, List.not_mem_nil, or_false] at hy
                  subst hy
                  exact ⟨fun e => h2 e.symm, fun e => h3 e.symm⟩)
                clear hV hn
                generalize hA : frA _ _ Ls vals = a'
                have hT8 : a'.tmps.getD 8 undef = .pointer (some ⟨ob, 0, none⟩) := by rw [← hA, frA_base (by kernel_rfl)]; rfl
                have hT9 : a'.tmps.getD 9 undef = .slice (some ⟨bg, og, none⟩) 1 db := by rw [← hA, frA_base (by kernel_rfl)]; rfl
                have hD := Lib.hid (fun k t (hk : Ls k = true) (ht : dstOf _ k = some t) => hA ▸ frA_done (by kernel_rfl) (vals := vals) hk ht)
                clear hA
                obtain ⟨b0', b1'⟩ := (HB7'.out.below hB).cells
                have gg' := HGC.out w' hB
                have hrow' := HB7'.out.2.below hB
                obtain rfl | rfl | rfl | rfl | rfl | rfl | rfl | rfl | rfl | rfl | rfl : i = 0 ∨ i = 1 ∨ i = 2 ∨ i = 3 ∨ i = 4 ∨ i = 5 ∨ i = 6 ∨ i = 7 ∨ i = 8 ∨ i = 11 ∨ i = 12 := by omega
                all_goals
                  injection hi with hi
                  subst hi
                  try simp [Region.binds] at hdep
                · skip
                  exact step_run rfl (v := .agg #[.int .i64 (ep + 1), .slice pb nb cb]) (w' := w') (by go_simp) ⟨rfl, Below.refl _ _⟩
                · skip
                  exact step_run rfl (v := .slice (some ⟨bg, og, none⟩) 1 db) (w' := w') (by go_simp) ⟨rfl, Below.refl _ _⟩
                · skip
                  have d56 := hD.out 1 56 (by simp [hdep]) rfl
                  rw [show vals 1 = _ from hVk 1 (by simp [hdep]) (by decide) (by decide)] at d56
                  exact step_run rfl (v := .pointer (some ⟨bg, og, none⟩)) (w' := w') (by go_simp) ⟨rfl, Below.refl _ _⟩
                · skip
                  have d57 := hD.out 2 57 (by simp [hdep]) rfl
                  rw [show vals 2 = _ from hVk 2 (by simp [hdep]) (by decide) (by decide)] at d57
                  exact step_run rfl (v := .int .i64 i) (w' := w') (by go_simp) ⟨rfl, Below.refl _ _⟩
                · skip
                  have d55 := hD.out 0 55 (by simp [hdep]) rfl
                  rw [show vals 0 = _ from hVk 0 (by simp [hdep]) (by decide) (by decide)] at d55
                  have d58 := hD.out 3 58 (by simp [hdep]) rfl
                  rw [show vals 3 = _ from hVk 3 (by simp [hdep]) (by decide) (by decide)] at d58
                  exact step_enter rfl (f := 10) (args := #[.agg #[.int .i64 (ep + 1), .slice pb nb cb], .int .i64 i]) (w' := w') (by go_simp) ((CMg.out w' hrow').mono fun e w'' ⟨p7, c7, q7, d7, he, h1, h2, ⟨h3, h4⟩, h5⟩ => ⟨_, he, ⟨p7, c7, q7, d7, rfl, h1, h2, h3, h4⟩, h5⟩)
                · skip
                  have d59 := hD.out 4 59 (by simp [hdep]) rfl
                  obtain ⟨pp, cc, qq, dd, ev, g1, g2, g3, g4⟩ : (vrRet out2).f (vals 4) w' := hVk 4 (by simp [hdep]) (by decide) (by decide)
                  rw [ev] at d59
                  exact step_run rfl (v := .tuple #[.agg #[.int .i64 out2.ep, .slice pp out2.L.length cc], .slice qq out2.gone.length dd, .int .i64 out2.err]) (w' := w') (by go_simp) ⟨⟨pp, cc, qq, dd, rfl, g1, g2, g3, g4⟩, Below.refl _ _⟩
                · skip
                  have d54 := hD.out 5 54 (by simp [hdep]) rfl
                  obtain ⟨pp, cc, qq, dd, ev, g1, g2, g3, g4⟩ : (vrRet out2).f (vals 5) w' := hVk 5 (by simp [hdep]) (by decide) (by decide)
                  rw [ev] at d54
                  exact step_run rfl (v := .agg #[.int .i64 out2.ep, .slice pp out2.L.length cc]) (w' := w') (by go_simp) ⟨⟨pp, cc, rfl, g1, g3⟩, Below.refl _ _⟩
                · skip
                  have d54 := hD.out 5 54 (by simp [hdep]) rfl
                  obtain ⟨pp, cc, qq, dd, ev, g1, g2, g3, g4⟩ : (vrRet out2).f (vals 5) w' := hVk 5 (by simp [hdep]) (by decide) (by decide)
                  rw [ev] at d54
                  exact step_run rfl (v := .slice qq out2.gone.length dd) (w' := w') (by go_simp) ⟨⟨qq, dd, rfl, g2, g4⟩, Below.refl _ _⟩
                · skip
                  have d54 := hD.out 5 54 (by simp [hdep]) rfl
                  obtain ⟨pp, cc, qq, dd, ev, g1, g2, g3, g4⟩ : (vrRet out2).f (vals 5) w' := hVk 5 (by simp [hdep]) (by decide) (by decide)
                  rw [ev] at d54
                  exact step_run rfl (v := .int .i64 out2.err) (w' := w') (by go_simp) ⟨rfl, Below.refl _ _⟩
                · skip
                  have d61 := hD.out 7 61 (by simp [hdep]) rfl
                  obtain ⟨qq, dd, ev, g2, g4⟩ : (vrGone out2).f (vals 7) w' := hVk 7 (by simp [hdep]) (by decide) (by decide)
                  rw [ev] at d61
                  exact step_run rfl (v := .slice qq out2.gone.length dd) (w' := w') (by go_simp) ⟨⟨qq, dd, rfl, g2, g4⟩, Below.refl _ _⟩
                · skip
                  have d62 := hD.out 8 62 (by simp [hdep]) rfl
                  rw [show vals 8 = _ from hVk 8 (by simp [hdep]) (by decide) (by decide)] at d62
                  exact step_run rfl (v := .int .i64 out2.err) (w' := w') (by go_simp) ⟨rfl, Below.refl _ _⟩
              · intro y hy o L' vals w' hi
                simp only [List.mem_cons, List.not_mem_nil, or_false] at hy
                subst hy
                injection hi with hi
                subst hi
                exact step_run rfl (v := Lay.ptr w'.heap.size) (w' := w'.alloc (.cells #[.int .i64 0, .slice none 0 0] 26)) (by unfold Lay.ptr; go_simp) ⟨rfl, rfl⟩
              · intro y hy o Ls vals w' q hi hLa hLr hJ hV hp hh
                simp only [List.mem_cons, List.not_mem_nil, or_false] at hy
                generalize hA : frA _ _ Ls vals = a'
                have hD := Lib.hid (fun k t (hk : Ls k = true) (ht : dstOf _ k = some t) => hA ▸ frA_done (by kernel_rfl) (vals := vals) hk ht)
                clear hA
                subst hy
                injection hi with hi
                subst hi
                simp only at hLa hLr hp hh
                have d11 := hD.out 9 11 hLa rfl
                have d60 := hD.out 6 60 hLr rfl
                obtain ⟨pp, cc, ev, g1, g3⟩ : (vrAt out2).f (vals 6) w' := hV 6 hLr (fun y hy => by
                  simp only [List.mem_cons, List.not_mem_nil, or_false] at hy
                  subst hy
                  exact ⟨by decide, by decide⟩)
                rw [ev] at d60 ⊢
                rw [hp] at d11
                unfold Lay.ptr at d11
                have z0 : w'.cell? ⟨q, 0, none⟩ = some (.int .i64 0) := by simp [World.cell?, hh]
                have z1 : w'.cell? ⟨q, 1, none⟩ = some (.slice none 0 0) := by simp [World.cell?, hh]
                have f0 : w'.frozen? ⟨q, 0, none⟩ = false := by simp [World.frozen?, hh]
                have f1 : w'.frozen? ⟨q, 1, none⟩ = false := by simp [World.frozen?, hh]
                clear hh hV
                exact stepI_skip rfl (w' := layCells w' q 0 [.int .i64 out2.ep, .slice pp out2.L.length cc]) (by unfold layCells layCells layCells; go_simp) ⟨rfl, rfl⟩
              · intro vals w8 hB hV hlay hne
                have hVk : ∀ j, j < 13 → j ≠ 9 → j ≠ 10 → _ := fun j h1 h2 h3 => hV j h1 (fun y hy => by
                  simp only [List.mem_cons, List.not_mem_nil, or_false] at hy
                  subst hy
                  exact ⟨fun e => h2 e.symm, fun e => h3 e.symm⟩)
                obtain ⟨bc, ea, hbn, hob⟩ := hlay _ (List.mem_cons_self ..)
                simp only at ea hob
                have e0 : vals 0 = .agg #[.int .i64 (ep + 1), .slice pb nb cb] := hVk 0 (by decide) (by decide) (by decide)
                have e1 : vals 1 = .slice (some ⟨bg, og, none⟩) 1 db := hVk 1 (by decide) (by decide) (by decide)
                have e2 : vals 2 = .pointer (some ⟨bg, og, none⟩) := hVk 2 (by decide) (by decide) (by decide)
                have e3 : vals 3 = .int .i64 i := hVk 3 (by decide) (by decide) (by decide)
                obtain ⟨p4, c4, q4, d4, e4, g1_4, g2_4, g3_4, g4_4⟩ : (vrRet out2).f (vals 4) w8 := hVk 4 (by decide) (by decide) (by decide)
                obtain ⟨p5, c5, q5, d5, e5, g1_5, g2_5, g3_5, g4_5⟩ : (vrRet out2).f (vals 5) w8 := hVk 5 (by decide) (by decide) (by decide)
                obtain ⟨p6, c6, e6, g1_6, g3_6⟩ : (vrAt out2).f (vals 6) w8 := hVk 6 (by decide) (by decide) (by decide)
                obtain ⟨q7, d7, e7, g2_7, g4_7⟩ : (vrGone out2).f (vals 7) w8 := hVk 7 (by decide) (by decide) (by decide)
                have e8 : vals 8 = .int .i64 out2.err := hVk 8 (by decide) (by decide) (by decide)
                obtain ⟨q11, d11, e11, g2_11, g4_11⟩ : (vrGone out2).f (vals 11) w8 := hVk 11 (by decide) (by decide) (by decide)
                have e12 : vals 12 = .int .i64 out2.err := hVk 12 (by decide) (by decide) (by decide)
                rw [e6] at hob
                have hob : w8.heap[bc]? = some (.cells #[.int .i64 out2.ep, .slice p6 out2.L.length c6] 26 (0, 0)) := hob
                have HB8 := Lib.hid hB
                have HC8 := Lib.hid (show AB w8 bc out2.ep out2.L p6 out2.L.length c6 from ⟨hob, g1_6⟩)
                have HG8 := Lib.hid (show Row w8 .i64 q11 out2.gone from g2_11)
                clear g1_6 g3_6 g2_11 g4_11
                unfold Lay.ptr at ea
                simp only [putsL, Act.put, List.setIfInBounds_toArray, List.set_cons_zero, List.set_cons_succ, e0, e1, e2, e3, e4, e5, e6, e7, e8, e11, e12, ea]
                clear e0 e1 e2 e3 e4 e5 e6 e7 e8 e11 e12 ea hlay hne hVk hbn hob hB hV
                obtain ⟨i1, i2, i3, i4⟩ := HE2.out
                rw [i1, i2, HCL.out] at HC8
                rw [i3] at HG8
                simp only [i1, i2, i3, i4, HCL.out, List.length_cons, List.length_nil, Nat.zero_add, Nat.reduceAdd]
                clear i1 i2 i3 i4 HE2
                go_upto_region 9 with fail
                have HWR := Lib.hid (show IntKind.i64.wrap ((i : Int) + 1) = (i : Int) + 1 ∧ IntKind.i64.wrap (ep + 2) = ep + 2 from ⟨IntWalk.i64_in _ (by have := HIL.out; have := HN.out; omega), IntWalk.i64_in _ (by have := HMay.out.ep1; omega)⟩)
                refine wp_region_mono mixedAt (by kernel_rfl) [VP.eq (.int .i64 0), VP.eq (.bool false), VP.eq (.bool false), VP.eq (.pointer (some ⟨bc, 1, none⟩)), VP.eq (.slice p6 n c6), VP.eq (.int .i64 n), VP.eq (.pointer (some ⟨o, 1, none⟩)), VP.eq (.slice px n cx), VP.eq (.int .i64 n), VP.eq (.bool false), VP.eq (.bool false), VP.eq (.bool false), VP.eq (.slice q11 2 d11), VP.eq (.slice (some ⟨bg, og, none⟩) 1 db), VP.eq (.pointer (some ⟨bg, og, none⟩)), VP.eq (.int .i64 i), VP.eq (.slice (some ⟨bg, og, none⟩) 1 db), VP.eq (.pointer (some ⟨bg, og, none⟩)), VP.eq (.int .i64 i), VP.eq (.int .i64 ((i : Int) + 1)), vrPair i ((i : Int) + 1), VP.eq (.bool true), VP.eq (.bool false), VP.eq (.bool false), VP.eq (.bool false), VP.eq (.pointer (some ⟨bc, 0, none⟩)), VP.eq (.int .i64 (ep + 2)), VP.eq (.pointer (some ⟨o, 0, none⟩)), VP.eq (.int .i64 ep), VP.eq (.int .i64 (ep + 2)), VP.eq (.bool false), VP.eq (.bool false)] ?_ ?_
                · intro i opr Ls vals w' hi hL' hdep hC hB hV
                  have hlt : i < 32 := by have := (List.getElem?_eq_some_iff.1 hi).1; simpa using this
                  generalize hA : frA _ _ Ls vals = a'
                  have hT7 : a'.tmps.getD 7 undef = .pointer (some ⟨o, 0, none⟩) := by rw [← hA, frA_base (by kernel_rfl)]; rfl
                  have hT9 : a'.tmps.getD 9 undef = .slice (some ⟨bg, og, none⟩) 1 db := by rw [← hA, frA_base (by kernel_rfl)]; rfl
                  have hT11 : a'.tmps.getD 11 undef = .pointer (some ⟨bc, 0, none⟩) := by rw [← hA, frA_base (by kernel_rfl)]; rfl
                  have hT12 : a'.tmps.getD 12 undef = .slice q11 2 d11 := by rw [← hA, frA_base (by kernel_rfl)]; rfl
                  have hT13 : a'.tmps.getD 13 undef = .int .i64 0 := by rw [← hA, frA_base (by kernel_rfl)]; rfl
                  have hD := Lib.hid (fun k t (hk : Ls k = true) (ht : dstOf _ k = some t) => hA ▸ frA_done (by kernel_rfl) (vals := vals) hk ht)
                  clear hA
                  obtain ⟨c0', c1'⟩ := (HC8.out.below hB).cells
                  have hB7 := HB8.out.trans (hB.mono HB8.out.size)
                  obtain ⟨y0', y1'⟩ := (HX7.out.below hB7).cells
                  have gg' := HGC.out w' hB7
                  have hrow2' := HG8.out.below hB
                  obtain ⟨hwi, hwe⟩ := HWR.out
                  obtain rfl | rfl | rfl | rfl | rfl | rfl | rfl | rfl | rfl | rfl | rfl | rfl | rfl | rfl | rfl | rfl | rfl | rfl | rfl | rfl | rfl | rfl | rfl | rfl | rfl | rfl | rfl | rfl | rfl | rfl | rfl | rfl : i = 0 ∨ i = 1 ∨ i = 2 ∨ i = 3 ∨ i = 4 ∨ i = 5 ∨ i = 6 ∨ i = 7 ∨ i = 8 ∨ i = 9 ∨ i = 10 ∨ i = 11 ∨ i = 12 ∨ i = 13 ∨ i = 14 ∨ i = 15 ∨ i = 16 ∨ i = 17 ∨ i = 18 ∨ i = 19 ∨ i = 20 ∨ i = 21 ∨ i = 22 ∨ i = 23 ∨ i = 24 ∨ i = 25 ∨ i = 26 ∨ i = 27 ∨ i = 28 ∨ i = 29 ∨ i = 30 ∨ i = 31 := by omega
                  all_goals
                    injection hi with hi
                    subst hi
                    try simp [Region.binds] at hdep
                  · skip
                    exact step_run rfl (v := .int .i64 0) (w' := w') (by go_simp) ⟨rfl, Below.refl _ _⟩
                  · skip
                    have d63 := hD.out 0 63 (by simp [hdep]) rfl
                    rw [show vals 0 = _ from hV 0 (by simp [hdep])] at d63
                    exact step_run rfl (v := .bool false) (w' := w') (by go_simp) ⟨rfl, Below.refl _ _⟩
                  · skip
                    have d64 := hD.out 1 64 (by simp [hdep]) rfl
                    rw [show vals 1 = _ from hV 1 (by simp [hdep])] at d64
                    exact step_run rfl (v := .bool false) (w' := w') (by go_simp) ⟨rfl, Below.refl _ _⟩
                  · skip
                    have d65 := hD.out 2 65 (by simp [hdep]) rfl
                    rw [show vals 2 = _ from hV 2 (by simp [hdep])] at d65
                    exact step_run' (wanted_open rfl rfl d65) (v := .pointer (some ⟨bc, 1, none⟩)) (w' := w') (by go_simp) ⟨rfl, Below.refl _ _⟩
                  · skip
                    have d65 := hD.out 2 65 (by simp [hdep]) rfl
                    rw [show vals 2 = _ from hV 2 (by simp [hdep])] at d65
                    have d66 := hD.out 3 66 (by simp [hdep]) rfl
                    rw [show vals 3 = _ from hV 3 (by simp [hdep])] at d66
                    exact step_run' (wanted_open rfl rfl d65) (v := .slice p6 n c6) (w' := w') (by go_simp) ⟨rfl, Below.refl _ _⟩
                  · skip
                    have d65 := hD.out 2 65 (by simp [hdep]) rfl
                    rw [show vals 2 = _ from hV 2 (by simp [hdep])] at d65
                    have d67 := hD.out 4 67 (by simp [hdep]) rfl
                    rw [show vals 4 = _ from hV 4 (by simp [hdep])] at d67
                    exact step_run' (wanted_open rfl rfl d65) (v := .int .i64 n) (w' := w') (by go_simp) ⟨rfl, Below.refl _ _⟩
                  · skip
                    have d65 := hD.out 2 65 (by simp [hdep]) rfl
                    rw [show vals 2 = _ from hV 2 (by simp [hdep])] at d65
                    exact step_run' (wanted_open rfl rfl d65) (v := .pointer (some ⟨o, 1, none⟩)) (w' := w') (by go_simp) ⟨rfl, Below.refl _ _⟩
                  · skip
                    have d65 := hD.out 2 65 (by simp [hdep]) rfl
                    rw [show vals 2 = _ from hV 2 (by simp [hdep])] at d65
                    have d69 := hD.out 6 69 (by simp [hdep]) rfl
                    rw [show vals 6 = _ from hV 6 (by simp [hdep])] at d69
                    exact step_run' (wanted_open rfl rfl d65) (v := .slice px n cx) (w' := w') (by go_simp) ⟨rfl, Below.refl _ _⟩
                  · skip
                    have d65 := hD.out 2 65 (by simp [hdep]) rfl
                    rw [show vals 2 = _ from hV 2 (by simp [hdep])] at d65
                    have d70 := hD.out 7 70 (by simp [hdep]) rfl
                    rw [show vals 7 = _ from hV 7 (by simp [hdep])] at d70
                    exact step_run' (wanted_open rfl rfl d65) (v := .int .i64 n) (w' := w') (by go_simp) ⟨rfl, Below.refl _ _⟩
                  · skip
                    have d65 := hD.out 2 65 (by simp [hdep]) rfl
                    rw [show vals 2 = _ from hV 2 (by simp [hdep])] at d65
                    have d68 := hD.out 5 68 (by simp [hdep]) rfl
                    rw [show vals 5 = _ from hV 5 (by simp [hdep])] at d68
                    have d71 := hD.out 8 71 (by simp [hdep]) rfl
                    rw [show vals 8 = _ from hV 8 (by simp [hdep])] at d71
                    exact step_run' (wanted_open rfl rfl d65) (v := .bool false) (w' := w') (by go_simp) ⟨rfl, Below.refl _ _⟩
                  · skip
                    have d65 := hD.out 2 65 (by simp [hdep]) rfl
                    rw [show vals 2 = _ from hV 2 (by simp [hdep])] at d65
                    have d72 := hD.out 9 72 (by simp [hdep]) rfl
                    rw [show vals 9 = _ from hV 9 (by simp [hdep])] at d72
                    exact step_run rfl (v := .bool false) (w' := w') (by go_simp) ⟨rfl, Below.refl _ _⟩
                  · skip
                    have d73 := hD.out 10 73 (by simp [hdep]) rfl
                    rw [show vals 10 = _ from hV 10 (by simp [hdep])] at d73
                    exact step_run rfl (v := .bool false) (w' := w') (by go_simp) ⟨rfl, Below.refl _ _⟩
                  · skip
                    have d74 := hD.out 11 74 (by simp [hdep]) rfl
                    rw [show vals 11 = _ from hV 11 (by simp [hdep])] at d74
                    exact step_run' (wanted_open rfl rfl d74) (v := .slice q11 2 d11) (w' := w') (by go_simp) ⟨rfl, Below.refl _ _⟩
                  · skip
                    have d74 := hD.out 11 74 (by simp [hdep]) rfl
                    rw [show vals 11 = _ from hV 11 (by simp [hdep])] at d74
                    exact step_run' (wanted_open rfl rfl d74) (v := .slice (some ⟨bg, og, none⟩) 1 db) (w' := w') (by go_simp) ⟨rfl, Below.refl _ _⟩
                  · skip
                    have d74 := hD.out 11 74 (by simp [hdep]) rfl
                    rw [show vals 11 = _ from hV 11 (by simp [hdep])] at d74
                    have d76 := hD.out 13 76 (by simp [hdep]) rfl
                    rw [show vals 13 = _ from hV 13 (by simp [hdep])] at d76
                    exact step_run' (wanted_open rfl rfl d74) (v := .pointer (some ⟨bg, og, none⟩)) (w' := w') (by go_simp) ⟨rfl, Below.refl _ _⟩
                  · skip
                    have d74 := hD.out 11 74 (by simp [hdep]) rfl
                    rw [show vals 11 = _ from hV 11 (by simp [hdep])] at d74
                    have d77 := hD.out 14 77 (by simp [hdep]) rfl
                    rw [show vals 14 = _ from hV 14 (by simp [hdep])] at d77
                    exact step_run' (wanted_open rfl rfl d74) (v := .int .i64 i) (w' := w') (by go_simp) ⟨rfl, Below.refl _ _⟩
                  · skip
                    have d74 := hD.out 11 74 (by simp [hdep]) rfl
                    rw [show vals 11 = _ from hV 11 (by simp [hdep])] at d74
                    exact step_run' (wanted_open rfl rfl d74) (v := .slice (some ⟨bg, og, none⟩) 1 db) (w' := w') (by go_simp) ⟨rfl, Below.refl _ _⟩
                  · skip
                    have d74 := hD.out 11 74 (by simp [hdep]) rfl
                    rw [show vals 11 = _ from hV 11 (by simp [hdep])] at d74
                    have d79 := hD.out 16 79 (by simp [hdep]) rfl
                    rw [show vals 16 = _ from hV 16 (by simp [hdep])] at d79
                    exact step_run' (wanted_open rfl rfl d74) (v := .pointer (some ⟨bg, og, none⟩)) (w' := w') (by go_simp) ⟨rfl, Below.refl _ _⟩
                  · skip
                    have d74 := hD.out 11 74 (by simp [hdep]) rfl
                    rw [show vals 11 = _ from hV 11 (by simp [hdep])] at d74
                    have d80 := hD.out 17 80 (by simp [hdep]) rfl
                    rw [show vals 17 = _ from hV 17 (by simp [hdep])] at d80
                    exact step_run' (wanted_open rfl rfl d74) (v := .int .i64 i) (w' := w') (by go_simp) ⟨rfl, Below.refl _ _⟩
                  · skip
                    have d74 := hD.out 11 74 (by simp [hdep]) rfl
                    rw [show vals 11 = _ from hV 11 (by simp [hdep])] at d74
                    have d81 := hD.out 18 81 (by simp [hdep]) rfl
                    rw [show vals 18 = _ from hV 18 (by simp [hdep])] at d81
                    exact step_run' (wanted_open rfl rfl d74) (v := .int .i64 ((i : Int) + 1)) (w' := w') (by go_simp) ⟨rfl, Below.refl _ _⟩
                  · skip
                    have d74 := hD.out 11 74 (by simp [hdep]) rfl
                    rw [show vals 11 = _ from hV 11 (by simp [hdep])] at d74
                    have d78 := hD.out 15 78 (by simp [hdep]) rfl
                    rw [show vals 15 = _ from hV 15 (by simp [hdep])] at d78
                    have d82 := hD.out 19 82 (by simp [hdep]) rfl
                    rw [show vals 19 = _ from hV 19 (by simp [hdep])] at d82
                    rw [Array.getD_eq_getD_getElem?] at d78 d82
                    exact step_run' (wanted_open rfl rfl d74) (v := .slice (some ⟨w'.heap.size, 0, none⟩) 2 2) (w' := w'.alloc (.cells #[.int .i64 i, .int .i64 ((i : Int) + 1)] 3)) (by go_simp) ⟨⟨_, rfl, row_lit w' .i64 3 [(i : Int), (i : Int) + 1]⟩, below_alloc _ _⟩
                  · skip
                    have d74 := hD.out 11 74 (by simp [hdep]) rfl
                    rw [show vals 11 = _ from hV 11 (by simp [hdep])] at d74
                    have d75 := hD.out 12 75 (by simp [hdep]) rfl
                    rw [show vals 12 = _ from hV 12 (by simp [hdep])] at d75
                    have d83 := hD.out 20 83 (by simp [hdep]) rfl
                    obtain ⟨bb, ev, g1⟩ : (vrPair i ((i : Int) + 1)).f (vals 20) w' := hV 20 (by simp [hdep])
                    rw [ev] at d83
                    exact step_enter' (wanted_open rfl rfl d74) (f := 14) (args := #[.slice q11 2 d11, .slice (some ⟨bb, 0, none⟩) 2 2]) (w' := w') (by go_simp) ((same_ints [(i : Int), (i : Int) + 1] [(i : Int), (i : Int) + 1] q11 (some ⟨bb, 0, none⟩) d11 2 w' hrow2' g1 (by simp) (by simp)).mono fun e w'' ⟨he, hb⟩ => ⟨.bool true, by rw [he]; simp, rfl, hb⟩)
                  · skip
                    have d74 := hD.out 11 74 (by simp [hdep]) rfl
                    rw [show vals 11 = _ from hV 11 (by simp [hdep])] at d74
                    have d84 := hD.out 21 84 (by simp [hdep]) rfl
                    rw [show vals 21 = _ from hV 21 (by simp [hdep])] at d84
                    exact step_run' (wanted_open rfl rfl d74) (v := .bool false) (w' := w') (by go_simp) ⟨rfl, Below.refl _ _⟩
                  · skip
                    have d74 := hD.out 11 74 (by simp [hdep]) rfl
                    rw [show vals 11 = _ from hV 11 (by simp [hdep])] at d74
                    have d85 := hD.out 22 85 (by simp [hdep]) rfl
                    rw [show vals 22 = _ from hV 22 (by simp [hdep])] at d85
                    exact step_run rfl (v := .bool false) (w' := w') (by go_simp) ⟨rfl, Below.refl _ _⟩
                  · skip
                    have d86 := hD.out 23 86 (by simp [hdep]) rfl
                    rw [show vals 23 = _ from hV 23 (by simp [hdep])] at d86
                    exact step_run rfl (v := .bool false) (w' := w') (by go_simp) ⟨rfl, Below.refl _ _⟩
                  · skip
                    have d87 := hD.out 24 87 (by simp [hdep]) rfl
                    rw [show vals 24 = _ from hV 24 (by simp [hdep])] at d87
                    exact step_run' (wanted_open rfl rfl d87) (v := .pointer (some ⟨bc, 0, none⟩)) (w' := w') (by go_simp) ⟨rfl, Below.refl _ _⟩
                  · skip
                    have d87 := hD.out 24 87 (by simp [hdep]) rfl
                    rw [show vals 24 = _ from hV 24 (by simp [hdep])] at d87
                    have d88 := hD.out 25 88 (by simp [hdep]) rfl
                    rw [show vals 25 = _ from hV 25 (by simp [hdep])] at d88
                    exact step_run' (wanted_open rfl rfl d87) (v := .int .i64 (ep + 2)) (w' := w') (by go_simp) ⟨rfl, Below.refl _ _⟩
                  · skip
                    have d87 := hD.out 24 87 (by simp [hdep]) rfl
                    rw [show vals 24 = _ from hV 24 (by simp [hdep])] at d87
                    exact step_run' (wanted_open rfl rfl d87) (v := .pointer (some ⟨o, 0, none⟩)) (w' := w') (by go_simp) ⟨rfl, Below.refl _ _⟩
                  · skip
                    have d87 := hD.out 24 87 (by simp [hdep]) rfl
                    rw [show vals 24 = _ from hV 24 (by simp [hdep])] at d87
                    have d90 := hD.out 27 90 (by simp [hdep]) rfl
                    rw [show vals 27 = _ from hV 27 (by simp [hdep])] at d90
                    exact step_run' (wanted_open rfl rfl d87) (v := .int .i64 ep) (w' := w') (by go_simp) ⟨rfl, Below.refl _ _⟩
                  · skip
                    have d87 := hD.out 24 87 (by simp [hdep]) rfl
                    rw [show vals 24 = _ from hV 24 (by simp [hdep])] at d87
                    have d91 := hD.out 28 91 (by simp [hdep]) rfl
                    rw [show vals 28 = _ from hV 28 (by simp [hdep])] at d91
                    exact step_run' (wanted_open rfl rfl d87) (v := .int .i64 (ep + 2)) (w' := w') (by go_simp) ⟨rfl, Below.refl _ _⟩
                  · skip
                    have d87 := hD.out 24 87 (by simp [hdep]) rfl
                    rw [show vals 24 = _ from hV 24 (by simp [hdep])] at d87
                    have d89 := hD.out 26 89 (by simp [hdep]) rfl
                    rw [show vals 26 = _ from hV 26 (by simp [hdep])] at d89
                    have d92 := hD.out 29 92 (by simp [hdep]) rfl
                    rw [show vals 29 = _ from hV 29 (by simp [hdep])] at d92
                    exact step_run' (wanted_open rfl rfl d87) (v := .bool false) (w' := w') (by go_simp) ⟨rfl, Below.refl _ _⟩
                  · skip
                    have d87 := hD.out 24 87 (by simp [hdep]) rfl
                    rw [show vals 24 = _ from hV 24 (by simp [hdep])] at d87
                    have d93 := hD.out 30 93 (by simp [hdep]) rfl
                    rw [show vals 30 = _ from hV 30 (by simp [hdep])] at d93
                    exact step_run rfl (v := .bool false) (w' := w') (by go_simp) ⟨rfl, Below.refl _ _⟩
                · intro vals w9 hB hV
                  have e0 : vals 0 = .int .i64 0 := hV 0 (by decide)
                  have e1 : vals 1 = .bool false := hV 1 (by decide)
                  have e2 : vals 2 = .bool false := hV 2 (by decide)
                  have e3 : vals 3 = .pointer (some ⟨bc, 1, none⟩) := hV 3 (by decide)
                  have e4 : vals 4 = .slice p6 n c6 := hV 4 (by decide)
                  have e5 : vals 5 = .int .i64 n := hV 5 (by decide)
                  have e6 : vals 6 = .pointer (some ⟨o, 1, none⟩) := hV 6 (by decide)
                  have e7 : vals 7 = .slice px n cx := hV 7 (by decide)
                  have e8 : vals 8 = .int .i64 n := hV 8 (by decide)
                  have e9 : vals 9 = .bool false := hV 9 (by decide)
                  have e10 : vals 10 = .bool false := hV 10 (by decide)
                  have e11 : vals 11 = .bool false := hV 11 (by decide)
                  have e12 : vals 12 = .slice q11 2 d11 := hV 12 (by decide)
                  have e13 : vals 13 = .slice (some ⟨bg, og, none⟩) 1 db := hV 13 (by decide)
                  have e14 : vals 14 = .pointer (some ⟨bg, og, none⟩) := hV 14 (by decide)
                  have e15 : vals 15 = .int .i64 i := hV 15 (by decide)
                  have e16 : vals 16 = .slice (some ⟨bg, og, none⟩) 1 db := hV 16 (by decide)
                  have e17 : vals 17 = .pointer (some ⟨bg, og, none⟩) := hV 17 (by decide)
                  have e18 : vals 18 = .int .i64 i := hV 18 (by decide)
                  have e19 : vals 19 = .int .i64 ((i : Int) + 1) := hV 19 (by decide)
                  obtain ⟨b20, e20, g1_20⟩ : (vrPair i ((i : Int) + 1)).f (vals 20) w9 := hV 20 (by decide)
                  have e21 : vals 21 = .bool true := hV 21 (by decide)
                  have e22 : vals 22 = .bool false := hV 22 (by decide)
                  have e23 : vals 23 = .bool false := hV 23 (by decide)
                  have e24 : vals 24 = .bool false := hV 24 (by decide)
                  have e25 : vals 25 = .pointer (some ⟨bc, 0, none⟩) := hV 25 (by decide)
                  have e26 : vals 26 = .int .i64 (ep + 2) := hV 26 (by decide)
                  have e27 : vals 27 = .pointer (some ⟨o, 0, none⟩) := hV 27 (by decide)
                  have e28 : vals 28 = .int .i64 ep := hV 28 (by decide)
                  have e29 : vals 29 = .int .i64 (ep + 2) := hV 29 (by decide)
                  have e30 : vals 30 = .bool false := hV 30 (by decide)
                  have e31 : vals 31 = .bool false := hV 31 (by decide)
                  have HB9 := Lib.hid hB
                  simp only [putsL, Act.put, List.setIfInBounds_toArray, List.set_cons_zero, List.set_cons_succ, e0, e1, e2, e3, e4, e5, e6, e7, e8, e9, e10, e11, e12, e13, e14, e15, e16, e17, e18, e19, e20, e21, e22, e23, e24, e25, e26, e27, e28, e29, e30, e31]
                  clear e0 e1 e2 e3 e4 e5 e6 e7 e8 e9 e10 e11 e12 e13 e14 e15 e16 e17 e18 e19 e20 e21 e22 e23 e24 e25 e26 e27 e28 e29 e30 e31 hB hV
                  go_wp2_with fail
                  go_loopw [14] (fun v wr => ∃ j : Nat, v = .int .i64 j ∧ j ≤ n ∧ Hid (Below w9.heap.size w9 wr)) (fun v _ => n - (RowKit.intOf v).toNat)
                  case atStart => exact ⟨0, rfl, Nat.zero_le _, Lib.hid (Below.refl _ _)⟩
                  case round =>
                    obtain ⟨j, rfl, hjn, BW⟩ := hrel
                    have H8 := Lib.hid (HB9.out.trans (BW.out.mono HB9.out.size))
                    have H7w := Lib.hid (HB8.out.trans (H8.out.mono HB8.out.size))
                    obtain ⟨c0, c1⟩ := (HC8.out.below H8.out).cells
                    obtain ⟨y0, y1⟩ := (HX7.out.below H7w.out).cells
                    have hj0 : (0 : Int) ≤ (j : Int) := by omega
                    rcases Nat.lt_or_ge j n with hj | hj
                    · have hjz : (j : Int) < (n : Int) := by omega
                      have hjl : j < L.length := by rw [HN.out]; exact hj
                      have hwj : IntKind.i64.wrap ((j : Int) + 1) = (j : Int) + 1 := IntWalk.i64_in _ (by omega)
                      obtain ⟨xb', xo, rfl, hxl, hxc⟩ := HX7.out.2.cells H7w.out hjl
                      obtain ⟨cb', co, rfl, hcl, hcc⟩ := HC8.out.2.cells H8.out (show j < C.length by rw [HCL.out]; exact hj)
                      have gg := HGC.out wr H7w.out
                      have hej := (HMay.out.sh _ (get_mem hjl)).2.2.2
                      rw [HCG.out j hjl] at hcc
                      by_cases hji : j = i
                      · subst hji
                        rw [if_pos rfl] at hcc
                        obtain ⟨x, hx⟩ : ∃ x, L.getD j default = x := ⟨_, rfl⟩
                        rw [hx] at hxc hcc hej
                        obtain ⟨⟨ef, et⟩, en, ee⟩ := x
                        have z0 := hxc 0 (by decide)
                        have z1 := hxc 1 (by decide)
                        have z2 := hxc 2 (by decide)
                        have z3 := hxc 3 (by decide)
                        have u0 := hcc 0 (by decide)
                        have u1 := hcc 1 (by decide)
                        have u2 := hcc 2 (by decide)
                        have u3 := hcc 3 (by decide)
                        simp only [KS, Nat.add_zero] at z0 z1 z2 z3 u0 u1 u2 u3 hej
                        have hE1 : ((ep + 2 : Int) == ee) = false := by simpa using (show ¬ ep + 2 = ee by omega)
                        have hE2 : ¬ ep + 2 = ee := by omega
                        clear hx hxc hcc
                        go_upto_region 14 with fail
                        go_quiet (fail)
                        clear y0 y1 c0 c1 z0 z1 z2 z3 u0 u1 u2 u3 gg hE1 hE2 hej
                        go_wp2_with fail
                        exact ⟨⟨j + 1, by go_num, hj, Lib.hid (BW.out.trans ((below_dn _ _).mono BW.out.size))⟩, by simp [RowKit.intOf]; omega⟩
                      · rw [if_neg hji] at hcc
                        obtain ⟨x, hx⟩ : ∃ x, L.getD j default = x := ⟨_, rfl⟩
                        rw [hx] at hxc hcc hej
                        obtain ⟨⟨ef, et⟩, en, ee⟩ := x
                        have z0 := hxc 0 (by decide)
                        have z1 := hxc 1 (by decide)
                        have z2 := hxc 2 (by decide)
                        have z3 := hxc 3 (by decide)
                        have u0 := hcc 0 (by decide)
                        have u1 := hcc 1 (by decide)
                        have u2 := hcc 2 (by decide)
                        have u3 := hcc 3 (by decide)
                        simp only [KS, Nat.add_zero] at z0 z1 z2 z3 u0 u1 u2 u3 hej
                        have hE2 : ¬ (j : Int) = (i : Int) := by omega
                        have hE1 : ((j : Int) == (i : Int)) = false := by simpa using hE2
                        have hE3 : (!((j : Int) != (i : Int))) = false := by simpa using hE2
                        clear hx hxc hcc
                        go_upto_region 14 with fail
                        go_quiet (fail)
                        clear y0 y1 c0 c1 z0 z1 z2 z3 u0 u1 u2 u3 gg hej
                        go_wp2_with fail
                        exact ⟨⟨j + 1, by go_num, hj, Lib.hid (BW.out.trans ((below_dn _ _).mono BW.out.size))⟩, by simp [RowKit.intOf]; omega⟩
                    · have hjz : ¬ (j : Int) < (n : Int) := by omega
                      have HE := Lib.hid (show Below w7.heap.size w7 wr from H7w.out)
                      go_wp2_with fail
                      go_meet
                      case rel => exact HE
            · have h0b : (er == 0) = false := by simpa using h0
              go_wp2_with fail
              go_meet
              case rel => exact Lib.hid (Below.refl _ _)
          case rest =>
            have HBC := Lib.hid hcut.out
            have H7c := Lib.hid (H7.out.trans (HBC.out.mono H7.out.size))
            have HXc := Lib.hid (HX7.out.below HBC.out)
            obtain ⟨y0, y1⟩ := HXc.out.cells
            have hn0 : 0 < n := by have := HMay.out.ln; have := HN.out; omega
            obtain ⟨k, hk⟩ : ∃ k : Nat, xb % n = k := ⟨_, rfl⟩
            have hkn : k < n := by rw [← hk]; exact Nat.mod_lt _ hn0
            have hkl : k < L.length := by rw [HN.out]; exact hkn
            have hmt : (xb : Int).tmod (n : Int) = (k : Int) := by rw [← Int.ofNat_tmod, hk]
            have hwx : IntKind.i64.wrap (xb : Int) = (xb : Int) := IntWalk.i64_in _ (by omega)
            have hwk : IntKind.i64.wrap (k : Int) = (k : Int) := IntWalk.i64_in _ (by omega)
            have hnz : ¬ (n : Int) = 0 := by omega
            have hnzb : ((n : Int) == 0) = false := by simpa using hnz
            have hkz : (k : Int) < (n : Int) := by omega
            have hk0 : (0 : Int) ≤ (k : Int) := by omega
            obtain ⟨x, hx⟩ : ∃ x, L.getD k default = x := ⟨_, rfl⟩
            have hsh := HMay.out.sh _ (get_mem hkl)
            have hbn := back_node (n := x.n) (by rw [← hx]; exact ⟨hsh.1, hsh.2.1⟩)
            obtain ⟨hm1, hm2⟩ := back_move HMay.out (by omega) hkl ⟨hbn.1, hbn.2.1⟩ (by rw [hx]; exact hbn.2.2)
            rw [show ep + 1 + 1 = ep + 2 by omega] at hm2
            rw [hx] at hm2
            obtain ⟨M, hM⟩ : ∃ M, moveM ep L k (1 + x.n.tmod 5) = M := ⟨_, rfl⟩
            have HML := Lib.hid (show M.length = n by rw [← hM]; unfold moveM; rw [withL_len _ _ (by omega), HN.out]; simp only [List.length_cons, List.length_nil]; omega)
            have HMG := Lib.hid (show M.getD k default = ⟨x.sp, 1 + x.n.tmod 5, ep + 1⟩ by rw [← hM]; unfold moveM; rw [withL_self hkl hkl, if_pos rfl, hx])
            obtain ⟨D, hD'⟩ : ∃ D, withL L [⟨x.sp, x.n, ep + 2⟩] k 1 = D := ⟨_, rfl⟩
            have HDL := Lib.hid (show D.length = n by rw [← hD', withL_len _ _ (by omega), HN.out]; simp only [List.length_cons, List.length_nil]; omega)
            have HDG := Lib.hid (show D.getD k default = ⟨x.sp, x.n, ep + 2⟩ by rw [← hD', withL_self hkl hkl, if_pos rfl])
            rw [hM] at hm1 hm2
            rw [hD'] at hm2
            obtain ⟨o1, ho1⟩ : ∃ o1, moveA ep L k (1 + x.n.tmod 5) 5 = o1 := ⟨_, rfl⟩
            obtain ⟨o2, ho2⟩ : ∃ o2, moveA (ep + 1) M k x.n 5 = o2 := ⟨_, rfl⟩
            have HE1 := Lib.hid (show o1.ep = ep + 1 ∧ o1.L = M ∧ o1.gone = [(k : Int)] ∧ o1.err = 0 by rw [← ho1, hm1]; exact ⟨rfl, rfl, rfl, rfl⟩)
            have HE2 := Lib.hid (show o2.ep = ep + 2 ∧ o2.L = D ∧ o2.gone = [(k : Int)] ∧ o2.err = 0 by rw [← ho2, hm2]; exact ⟨rfl, rfl, rfl, rfl⟩)
            have CM1 := Lib.hid (show Calls Try.prog 11 #[.agg #[.int .i64 ep, .slice px n cx], .int .i64 (k : Int), .int .i64 (1 + x.n.tmod 5), .int .i64 5] wc (RetO wc o1) from by
              have := HH.out.move ep L px cx (k : Int) (1 + x.n.tmod 5) 5 wc HXc.out.2 (by have := HMay.out.ln; omega)
              rw [HN.out, ho1] at this
              exact this)
            have CM2 := Lib.hid (show ∀ w' pm cm, RowK KS w' pm M → Calls Try.prog 11 #[.agg #[.int .i64 (ep + 1), .slice pm n cm], .int .i64 (k : Int), .int .i64 x.n, .int .i64 5] w' (RetO w' o2) from fun w' pm cm h => by
              have := HH.out.move (ep + 1) M pm cm (k : Int) x.n 5 w' h (by rw [HML.out]; omega)
              rw [HML.out, ho2] at this
              exact this)
            have hxm : x.n.tmod 5 ≤ 4 ∧ 0 ≤ x.n.tmod 5 := ⟨by omega, by omega⟩
            obtain ⟨⟨sf, st⟩, sn, se⟩ := x
            simp only at HMG HDG CM1 CM2 hxm
            obtain ⟨m5, hm5⟩ : ∃ m5 : Int, sn.tmod 5 = m5 := ⟨_, rfl⟩
            rw [hm5] at HMG CM1 hxm
            have HCX := Lib.hid (show ∀ w', Below wc.heap.size wc w' → ∃ b q, px = some ⟨b, q, none⟩ ∧ w'.cell? ⟨b, q + k * 4, none⟩ = some (.string sf) ∧ w'.cell? ⟨b, q + k * 4 + 1, none⟩ = some (.string st) ∧ w'.cell? ⟨b, q + k * 4 + 2, none⟩ = some (.int .i64 sn) from fun w' h => by
              obtain ⟨b, q, h1, _, h2⟩ := HXc.out.2.cells h hkl
              rw [hx] at h2
              exact ⟨b, q, h1, h2 0 (by decide), h2 1 (by decide), h2 2 (by decide)⟩)
            obtain ⟨xp, xo, rfl, -, -, z2⟩ := HCX.out wc (Below.refl _ _)
            have hwm : IntKind.i64.wrap (1 + m5) = 1 + m5 := IntWalk.i64_in _ (by omega)
            have hwm5 : IntKind.i64.wrap m5 = m5 := IntWalk.i64_in _ (by omega)
            clear hx hsh hbn hm1 hm2 hM hD' ho1 ho2 hk hkl hcut
            go_wp2_with fail
            refine CM1.out.mono ?_
            rintro e w8 ⟨pm, cm, qm, dm, rfl, hrm, -, -, hb8⟩
            obtain ⟨i1, i2, i3, i4⟩ := HE1.out
            rw [i2] at hrm
            simp only [i1, i2, i3, i4, HML.out, List.length_cons, List.length_nil, Nat.zero_add]
            obtain ⟨w9, hw9⟩ : ∃ w9, w8.alloc (.cells #[.int .i64 (ep + 1), .slice pm n cm] 26) = w9 := ⟨_, rfl⟩
            have hb9 : Below w8.heap.size w8 w9 := hw9 ▸ below_alloc _ _
            have HC9 := Lib.hid (hb8.trans (hb9.mono hb8.size))
            have HM9 := Lib.hid (show AB w9 w8.heap.size (ep + 1) M pm n cm from hw9 ▸ AB.new w8 (ep + 1) n cm hrm)
            have HW9 := Lib.hid hw9
            obtain ⟨oc, hoc⟩ : ∃ oc, w8.heap.size = oc := ⟨_, rfl⟩
            have HOC := Lib.hid hoc
            rw [hoc] at HM9
            clear i1 i2 i3 i4 hrm hb8 hb9 hw9 hoc CM1 y0 y1 z2 HE1
            go_upto_region 19 with fail
            rw [HW9.out, HOC.out]
            refine wp_region_lay mixedAt (by kernel_rfl) [VP.eq (.agg #[.int .i64 (ep + 1), .slice pm n cm]), VP.eq (.int .i64 k), VP.eq (.pointer (some ⟨o, 1, none⟩)), VP.eq (.slice (some ⟨xp, xo, none⟩) n cx), VP.eq (.int .i64 k), VP.eq (.pointer (some ⟨xp, xo + k * 4, none⟩)), VP.eq (.pointer (some ⟨xp, xo + k * 4 + 2, none⟩)), VP.eq (.int .i64 sn), vrRet o2, vrRet o2, vrAt o2, vrGone o2, VP.eq (.int .i64 o2.err), VP.any, VP.any, vrGone o2, VP.eq (.int .i64 o2.err)]
              [⟨13, 14, 10, 26, [.int .i64 0, .slice none 0 0], aggC⟩] (by kernel_rfl) ?_ ?_ ?_ ?_ ?_
            · intro kk y hy v w' b cs cs' hv hb _
              simp only [List.mem_cons, List.not_mem_nil, or_false] at hy
              subst hy
              refine staR_list _ (fun vp hvp => ?_) kk v w' b cs (0, 0) cs' hv hb
              simp only [List.mem_cons, List.not_mem_nil, or_false] at hvp
              rcases hvp with rfl | rfl | rfl | rfl | rfl | rfl | rfl | rfl | rfl | rfl | rfl | rfl | rfl | rfl | rfl | rfl | rfl
              all_goals first | exact staR_eq _ | exact staR_any | exact staR_ret _ | exact staR_at _ | exact staR_gone _ | exact staR_sp _ _
            · intro i opr Ls vals w' hi hL' hdep hC hB hV hn
              have hlt : i < 17 := by have := (List.getElem?_eq_some_iff.1 hi).1; simpa using this
              have hnn : i ≠ 13 ∧ i ≠ 14 := by
                have := hn _ (List.mem_cons_self ..)
                exact ⟨fun e => this.1 e.symm, fun e => this.2 e.symm⟩
              have hVk : ∀ j, Ls j = true → j ≠ 13 → j ≠ 14 → _ := fun j h1 h2 h3 => hV j h1 (fun y hy => by
                simp only [List.mem_cons, List.not_mem_nil, or_false] at hy
                subst hy
                exact ⟨fun e => h2 e.symm, fun e => h3 e.symm⟩)
              clear hV hn
              generalize hA : frA _ _ Ls vals = a'
              have hT7 : a'.tmps.getD 7 undef = .pointer (some ⟨o, 0, none⟩) := by rw [← hA, frA_base (by kernel_rfl)]; rfl
              have hT15 : a'.tmps.getD 15 undef = .int .i64 k := by rw [← hA, frA_base (by kernel_rfl)]; rfl
              have hT17 : a'.tmps.getD 17 undef = .pointer (some ⟨oc, 0, none⟩) := by rw [← hA, frA_base (by kernel_rfl)]; rfl
              have hD := Lib.hid (fun k t (hk : Ls k = true) (ht : dstOf _ k = some t) => hA ▸ frA_done (by kernel_rfl) (vals := vals) hk ht)
              clear hA
              obtain ⟨m0', m1'⟩ := (HM9.out.below hB).cells
              have hBc := HC9.out.trans (hB.mono HC9.out.size)
              obtain ⟨y0', y1'⟩ := (HXc.out.below hBc).cells
              obtain ⟨xp', xo', hxe, -, -, z2'⟩ := HCX.out w' hBc
              injection hxe with hxe
              injection hxe with hx1 hx2 _
              rw [← hx1, ← hx2] at z2'
              clear hx1 hx2
              have hrow' := HM9.out.2.below hB
              obtain rfl | rfl | rfl | rfl | rfl | rfl | rfl | rfl | rfl | rfl | rfl | rfl | rfl | rfl | rfl : i = 0 ∨ i = 1 ∨ i = 2 ∨ i = 3 ∨ i = 4 ∨ i = 5 ∨ i = 6 ∨ i = 7 ∨ i = 8 ∨ i = 9 ∨ i = 10 ∨ i = 11 ∨ i = 12 ∨ i = 15 ∨ i = 16 := by omega
              all_goals
                injection hi with hi
                subst hi
                try simp [Region.binds] at hdep
              · skip
                exact step_run rfl (v := .agg #[.int .i64 (ep + 1), .slice pm n cm]) (w' := w') (by go_simp) ⟨rfl, Below.refl _ _⟩
              · skip
                exact step_run rfl (v := .int .i64 k) (w' := w') (by go_simp) ⟨rfl, Below.refl _ _⟩
              · skip
                exact step_run rfl (v := .pointer (some ⟨o, 1, none⟩)) (w' := w') (by go_simp) ⟨rfl, Below.refl _ _⟩
              · skip
                have d176 := hD.out 2 176 (by simp [hdep]) rfl
                rw [show vals 2 = _ from hVk 2 (by simp [hdep]) (by decide) (by decide)] at d176
                exact step_run rfl (v := .slice (some ⟨xp, xo, none⟩) n cx) (w' := w') (by go_simp) ⟨rfl, Below.refl _ _⟩
              · skip
                exact step_run rfl (v := .int .i64 k) (w' := w') (by go_simp) ⟨rfl, Below.refl _ _⟩
              · skip
                have d177 := hD.out 3 177 (by simp [hdep]) rfl
                rw [show vals 3 = _ from hVk 3 (by simp [hdep]) (by decide) (by decide)] at d177
                have d178 := hD.out 4 178 (by simp [hdep]) rfl
                rw [show vals 4 = _ from hVk 4 (by simp [hdep]) (by decide) (by decide)] at d178
                exact step_run rfl (v := .pointer (some ⟨xp, xo + k * 4, none⟩)) (w' := w') (by go_simp) ⟨rfl, Below.refl _ _⟩
              · skip
                have d179 := hD.out 5 179 (by simp [hdep]) rfl
                rw [show vals 5 = _ from hVk 5 (by simp [hdep]) (by decide) (by decide)] at d179
                exact step_run rfl (v := .pointer (some ⟨xp, xo + k * 4 + 2, none⟩)) (w' := w') (by go_simp) ⟨rfl, Below.refl _ _⟩
              · skip
                have d180 := hD.out 6 180 (by simp [hdep]) rfl
                rw [show vals 6 = _ from hVk 6 (by simp [hdep]) (by decide) (by decide)] at d180
                exact step_run rfl (v := .int .i64 sn) (w' := w') (by go_simp) ⟨rfl, Below.refl _ _⟩
              · skip
                have d174 := hD.out 0 174 (by simp [hdep]) rfl
                rw [show vals 0 = _ from hVk 0 (by simp [hdep]) (by decide) (by decide)] at d174
                have d175 := hD.out 1 175 (by simp [hdep]) rfl
                rw [show vals 1 = _ from hVk 1 (by simp [hdep]) (by decide) (by decide)] at d175
                have d181 := hD.out 7 181 (by simp [hdep]) rfl
                rw [show vals 7 = _ from hVk 7 (by simp [hdep]) (by decide) (by decide)] at d181
                exact step_enter rfl (f := 11) (args := #[.agg #[.int .i64 (ep + 1), .slice pm n cm], .int .i64 k, .int .i64 sn, .int .i64 5]) (w' := w') (by go_simp) ((CM2.out w' pm cm hrow').mono fun e w'' ⟨p7, c7, q7, d7, he, h1, h2, ⟨h3, h4⟩, h5⟩ => ⟨_, he, ⟨p7, c7, q7, d7, rfl, h1, h2, h3, h4⟩, h5⟩)
              · skip
                have d182 := hD.out 8 182 (by simp [hdep]) rfl
                obtain ⟨pp, cc, qq, dd, ev, g1, g2, g3, g4⟩ : (vrRet o2).f (vals 8) w' := hVk 8 (by simp [hdep]) (by decide) (by decide)
                rw [ev] at d182
                exact step_run rfl (v := .tuple #[.agg #[.int .i64 o2.ep, .slice pp o2.L.length cc], .slice qq o2.gone.length dd, .int .i64 o2.err]) (w' := w') (by go_simp) ⟨⟨pp, cc, qq, dd, rfl, g1, g2, g3, g4⟩, Below.refl _ _⟩
              · skip
                have d173 := hD.out 9 173 (by simp [hdep]) rfl
                obtain ⟨pp, cc, qq, dd, ev, g1, g2, g3, g4⟩ : (vrRet o2).f (vals 9) w' := hVk 9 (by simp [hdep]) (by decide) (by decide)
                rw [ev] at d173
                exact step_run rfl (v := .agg #[.int .i64 o2.ep, .slice pp o2.L.length cc]) (w' := w') (by go_simp) ⟨⟨pp, cc, rfl, g1, g3⟩, Below.refl _ _⟩
              · skip
                have d173 := hD.out 9 173 (by simp [hdep]) rfl
                obtain ⟨pp, cc, qq, dd, ev, g1, g2, g3, g4⟩ : (vrRet o2).f (vals 9) w' := hVk 9 (by simp [hdep]) (by decide) (by decide)
                rw [ev] at d173
                exact step_run rfl (v := .slice qq o2.gone.length dd) (w' := w') (by go_simp) ⟨⟨qq, dd, rfl, g2, g4⟩, Below.refl _ _⟩
              · skip
                have d173 := hD.out 9 173 (by simp [hdep]) rfl
                obtain ⟨pp, cc, qq, dd, ev, g1, g2, g3, g4⟩ : (vrRet o2).f (vals 9) w' := hVk 9 (by simp [hdep]) (by decide) (by decide)
                rw [ev] at d173
                exact step_run rfl (v := .int .i64 o2.err) (w' := w') (by go_simp) ⟨rfl, Below.refl _ _⟩
              · skip
                have d184 := hD.out 11 184 (by simp [hdep]) rfl
                obtain ⟨qq, dd, ev, g2, g4⟩ : (vrGone o2).f (vals 11) w' := hVk 11 (by simp [hdep]) (by decide) (by decide)
                rw [ev] at d184
                exact step_run rfl (v := .slice qq o2.gone.length dd) (w' := w') (by go_simp) ⟨⟨qq, dd, rfl, g2, g4⟩, Below.refl _ _⟩
              · skip
                have d185 := hD.out 12 185 (by simp [hdep]) rfl
                rw [show vals 12 = _ from hVk 12 (by simp [hdep]) (by decide) (by decide)] at d185
                exact step_run rfl (v := .int .i64 o2.err) (w' := w') (by go_simp) ⟨rfl, Below.refl _ _⟩
            · intro y hy o L' vals w' hi
              simp only [List.mem_cons, List.not_mem_nil, or_false] at hy
              subst hy
              injection hi with hi
              subst hi
              exact step_run rfl (v := Lay.ptr w'.heap.size) (w' := w'.alloc (.cells #[.int .i64 0, .slice none 0 0] 26)) (by unfold Lay.ptr; go_simp) ⟨rfl, rfl⟩
            · intro y hy o Ls vals w' q hi hLa hLr hJ hV hp hh
              simp only [List.mem_cons, List.not_mem_nil, or_false] at hy
              generalize hA : frA _ _ Ls vals = a'
              have hD := Lib.hid (fun k t (hk : Ls k = true) (ht : dstOf _ k = some t) => hA ▸ frA_done (by kernel_rfl) (vals := vals) hk ht)
              clear hA
              subst hy
              injection hi with hi
              subst hi
              simp only at hLa hLr hp hh
              have d20 := hD.out 13 20 hLa rfl
              have d183 := hD.out 10 183 hLr rfl
              obtain ⟨pp, cc, ev, g1, g3⟩ : (vrAt o2).f (vals 10) w' := hV 10 hLr (fun y hy => by
                simp only [List.mem_cons, List.not_mem_nil, or_false] at hy
                subst hy
                exact ⟨by decide, by decide⟩)
              rw [ev] at d183 ⊢
              rw [hp] at d20
              unfold Lay.ptr at d20
              have z0 : w'.cell? ⟨q, 0, none⟩ = some (.int .i64 0) := by simp [World.cell?, hh]
              have z1 : w'.cell? ⟨q, 1, none⟩ = some (.slice none 0 0) := by simp [World.cell?, hh]
              have f0 : w'.frozen? ⟨q, 0, none⟩ = false := by simp [World.frozen?, hh]
              have f1 : w'.frozen? ⟨q, 1, none⟩ = false := by simp [World.frozen?, hh]
              clear hh hV
              exact stepI_skip rfl (w' := layCells w' q 0 [.int .i64 o2.ep, .slice pp o2.L.length cc]) (by unfold layCells layCells layCells; go_simp) ⟨rfl, rfl⟩
            · intro vals w10 hB hV hlay hne
              have hVk : ∀ j, j < 17 → j ≠ 13 → j ≠ 14 → _ := fun j h1 h2 h3 => hV j h1 (fun y hy => by
                simp only [List.mem_cons, List.not_mem_nil, or_false] at hy
                subst hy
                exact ⟨fun e => h2 e.symm, fun e => h3 e.symm⟩)
              obtain ⟨od, ea, hbn, hob⟩ := hlay _ (List.mem_cons_self ..)
              simp only at ea hob
              have e0 : vals 0 = .agg #[.int .i64 (ep + 1), .slice pm n cm] := hVk 0 (by decide) (by decide) (by decide)
              have e1 : vals 1 = .int .i64 k := hVk 1 (by decide) (by decide) (by decide)
              have e2 : vals 2 = .pointer (some ⟨o, 1, none⟩) := hVk 2 (by decide) (by decide) (by decide)
              have e3 : vals 3 = .slice (some ⟨xp, xo, none⟩) n cx := hVk 3 (by decide) (by decide) (by decide)
              have e4 : vals 4 = .int .i64 k := hVk 4 (by decide) (by decide) (by decide)
              have e5 : vals 5 = .pointer (some ⟨xp, xo + k * 4, none⟩) := hVk 5 (by decide) (by decide) (by decide)
              have e6 : vals 6 = .pointer (some ⟨xp, xo + k * 4 + 2, none⟩) := hVk 6 (by decide) (by decide) (by decide)
              have e7 : vals 7 = .int .i64 sn := hVk 7 (by decide) (by decide) (by decide)
              obtain ⟨p8, c8, q8, d8, e8, g1_8, g2_8, g3_8, g4_8⟩ : (vrRet o2).f (vals 8) w10 := hVk 8 (by decide) (by decide) (by decide)
              obtain ⟨p9, c9, q9, d9, e9, g1_9, g2_9, g3_9, g4_9⟩ : (vrRet o2).f (vals 9) w10 := hVk 9 (by decide) (by decide) (by decide)
              obtain ⟨p10, c10, e10, g1_10, g3_10⟩ : (vrAt o2).f (vals 10) w10 := hVk 10 (by decide) (by decide) (by decide)
              obtain ⟨q11, d11, e11, g2_11, g4_11⟩ : (vrGone o2).f (vals 11) w10 := hVk 11 (by decide) (by decide) (by decide)
              have e12 : vals 12 = .int .i64 o2.err := hVk 12 (by decide) (by decide) (by decide)
              obtain ⟨q15, d15, e15, g2_15, g4_15⟩ : (vrGone o2).f (vals 15) w10 := hVk 15 (by decide) (by decide) (by decide)
              have e16 : vals 16 = .int .i64 o2.err := hVk 16 (by decide) (by decide) (by decide)
              rw [e10] at hob
              have hob : w10.heap[od]? = some (.cells #[.int .i64 o2.ep, .slice p10 o2.L.length c10] 26 (0, 0)) := hob
              have HB10 := Lib.hid hB
              have HD10 := Lib.hid (show AB w10 od o2.ep o2.L p10 o2.L.length c10 from ⟨hob, g1_10⟩)
              clear g1_10 g3_10 g2_15 g4_15
              unfold Lay.ptr at ea
              simp only [putsL, Act.put, List.setIfInBounds_toArray, List.set_cons_zero, List.set_cons_succ, e0, e1, e2, e3, e4, e5, e6, e7, e8, e9, e10, e11, e12, e15, e16, ea]
              clear e0 e1 e2 e3 e4 e5 e6 e7 e8 e9 e10 e11 e12 e15 e16 ea hlay hne hVk hbn hob hB hV
              obtain ⟨i1, i2, i3, i4⟩ := HE2.out
              rw [i1, i2, HDL.out] at HD10
              simp only [i1, i2, i3, i4, HDL.out, List.length_cons, List.length_nil, Nat.zero_add]
              clear i1 i2 i3 i4 HE2
              go_upto_region 20 with fail
              have H10 := Lib.hid (HC9.out.trans (HB10.out.mono HC9.out.size))
              obtain ⟨y0, y1⟩ := (HXc.out.below H10.out).cells
              obtain ⟨m0, m1⟩ := (HM9.out.below HB10.out).cells
              obtain ⟨d0, d1⟩ := HD10.out.cells
              obtain ⟨xp', xo', hxe, z0, z1, z2⟩ := HCX.out w10 H10.out
              injection hxe with hxe
              injection hxe with hx1 hx2 _
              rw [← hx1, ← hx2] at z0 z1 z2
              clear hx1 hx2
              obtain ⟨mp, mo, rfl, hml, hmc⟩ := HM9.out.2.cells HB10.out (show k < M.length by rw [HML.out]; exact hkn)
              obtain ⟨dp, dd, rfl, hdl, hdc⟩ := HD10.out.2.cells (Below.refl _ _) (show k < D.length by rw [HDL.out]; exact hkn)
              rw [HMG.out] at hmc
              rw [HDG.out] at hdc
              have u2 := hmc 2 (by decide)
              have v0 := hdc 0 (by decide)
              have v1 := hdc 1 (by decide)
              have v2 := hdc 2 (by decide)
              simp only [KS, Nat.add_zero] at u2 v0 v1 v2
              have hwe : IntKind.i64.wrap (ep + 2) = ep + 2 := IntWalk.i64_in _ (by have := HMay.out.ep1; omega)
              have HFin := Lib.hid (show Below w.heap.size w w10 from HB0.out.trans ((H7c.out.trans (H10.out.mono H7c.out.size)).mono HB0.out.size))
              clear hmc hdc
              go_quiet (fail)
              go_wp2_with fail
              go_ret
              exact ⟨rfl, HFin.out.trans ((below_dn _ _).mono HFin.out.size)⟩
end Go.Proofs.Ytodcnemnajlbdaa
