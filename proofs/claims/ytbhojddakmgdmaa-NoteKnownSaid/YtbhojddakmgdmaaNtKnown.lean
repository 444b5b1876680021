/-
  Layer note, the law's: NoteKnown: the walk.
-/
import Derived.Test.YtbhojddakmgdmaaMg27
namespace Go.Proofs.Ytbhojddakmgdmaa
open Go.RowKit Go.Gz

set_option maxHeartbeats 32000000 in
set_option maxRecDepth 100000 in
theorem known_n (w : World) : Calls Try.prog 4 #[] w fun e w' => e = .returned (.bool true) ∧ Below w.heap.size w w' := by
  have CA := Lib.hid (awake_n w)
  have CF1 := Lib.hid (fun w1 => first_any 1 w1)
  have CF5 := Lib.hid (fun w1 => first_any 5 w1)
  go_enter Try.func4, Try.ntmps4
  go_wp2_with fail
  refine CA.out.mono ?_
  rintro e w1 ⟨rfl, hb1⟩
  have HB1 := Lib.hid hb1
  have C1 := Lib.hid (CF1.out w1)
  clear hb1 CA
  go_wp2_with fail
  refine C1.out.mono ?_
  rintro e w2 ⟨p3, c3, rfl, hr3, -, hb2⟩
  have HB2 := Lib.hid (HB1.out.trans (hb2.mono HB1.out.size))
  have C2 := Lib.hid (CF5.out w2)
  have HR3 := Lib.hid hr3
  clear hr3 hb2 CF1
  go_wp2_with fail
  refine C2.out.mono ?_
  rintro e w4 ⟨p4, c4, rfl, hr4, -, hb4⟩
  have HR4 := Lib.hid hr4
  have HB24 := Lib.hid hb4
  clear hr4 hb4 CF5
  obtain ⟨CC, hCC⟩ : ∃ CC, ((ntVs (okP p3 p4 c3 c4 w4.heap.size)).flatMap fun v => v.cells.toList).toArray = CC := ⟨_, rfl⟩
  have HCC := Lib.hid hCC
  clear hCC
  go_upto_region 4 with (refine wpList_notes rfl 55 44 _ (okP p3 p4 c3 c4 w4.heap.size) 7 rfl rfl (fun i => if i < 3 then i + 15 else if i = 3 then 19 else if i = 4 then 21 else if i = 5 then 23 else 26) _ rfl Try.underlying55 (by kernel_rfl) (by kernel_rfl) (by decide) (by decide) (by rfl) ?hev CC HCC.out ?_)
  case hev =>
    intro i hi7
    obtain rfl | rfl | rfl | rfl | rfl | rfl | rfl : i = 0 ∨ i = 1 ∨ i = 2 ∨ i = 3 ∨ i = 4 ∨ i = 5 ∨ i = 6 := by omega
    all_goals rfl
  obtain ⟨W5, hW5⟩ : ∃ W5, (w4.alloc (.cells #[.string ⟨#[97]⟩, .string ⟨#[]⟩] 54)).alloc (.cells CC 44) = W5 := ⟨_, rfl⟩
  rw [hW5]
  have HZ5 := Lib.hid (show W5.heap.size = w4.heap.size + 2 by rw [← hW5]; simp)
  have HB45 := Lib.hid (show Below w4.heap.size w4 W5 by rw [← hW5]; exact ((Below.refl _ _).alloc (Nat.le_refl _) _).alloc (by simp) _)
  have HRW5 := Lib.hid (show NtRow W5 (w4.heap.size + 1) (okP p3 p4 c3 c4 w4.heap.size) by
    unfold NtRow
    rw [HCC.out, ← hW5, show w4.heap.size + 1 = (w4.alloc (.cells #[.string ⟨#[97]⟩, .string ⟨#[]⟩] 54)).heap.size by simp]
    exact new_block _ _ _)
  have HRC5 := Lib.hid (show W5.heap[w4.heap.size]? = some (.cells #[.string ⟨#[97]⟩, .string ⟨#[]⟩] 54 (0, 0)) by
    rw [← hW5, Below.heap_alloc _ _ _ (by simp)]
    exact new_block _ _ _)
  clear hW5
  have HN := Lib.hid (fun w' (h : Below W5.heap.size W5 w') => h)
  go_cut [1, 2] from 15 to 45 (fun v1 v2 wx => v1 = .slice (some ⟨w4.heap.size + 1, 0, none⟩) 7 7 ∧ v2 = .slice (some ⟨W5.heap.size + 1, 0, none⟩) 13 13 ∧ Hid (Below W5.heap.size W5 wx ∧ NtRow wx (W5.heap.size + 1) (badP W5.heap.size) ∧ wx.heap[W5.heap.size]? = some (.cells #[.string ⟨#[]⟩, .string ⟨#[]⟩] 54 (0, 0))))
  case first =>
    obtain ⟨CD, hCD⟩ : ∃ CD, ((ntVs (badP W5.heap.size)).flatMap fun v => v.cells.toList).toArray = CD := ⟨_, rfl⟩
    have HCD := Lib.hid hCD
    clear hCD
    go_wp2_with (refine wpList_notes rfl 55 44 _ (badP W5.heap.size) 13 rfl rfl (fun i => if i < 8 then i + 28 else if i = 8 then 38 else if i = 9 then 39 else if i = 10 then 40 else if i = 11 then 42 else 44) _ rfl Try.underlying55 (by kernel_rfl) (by kernel_rfl) (by decide) (by decide) (by rfl) ?hev CD HCD.out ?_)
    case hev =>
      intro i hi
      obtain rfl | rfl | rfl | rfl | rfl | rfl | rfl | rfl | rfl | rfl | rfl | rfl | rfl : i = 0 ∨ i = 1 ∨ i = 2 ∨ i = 3 ∨ i = 4 ∨ i = 5 ∨ i = 6 ∨ i = 7 ∨ i = 8 ∨ i = 9 ∨ i = 10 ∨ i = 11 ∨ i = 12 := by omega
      all_goals rfl
    go_meet
    refine ⟨rfl, ?_, Lib.hid ⟨?_, ?_, ?_⟩⟩
    · simp
    · exact ((Below.refl _ _).alloc (Nat.le_refl _) _).alloc (by simp) _
    · unfold NtRow
      rw [HCD.out, show W5.heap.size + 1 = (W5.alloc (.cells #[.string ⟨#[]⟩, .string ⟨#[]⟩] 54)).heap.size by simp]
      exact new_block _ _ _
    · rw [Below.heap_alloc _ _ _ (by simp)]
      exact new_block _ _ _
  case rest =>
    obtain ⟨rfl, rfl, HW6⟩ := hcut
    have HIA := Lib.hid (show ∀ wr j, Below wc.heap.size wc wr → j < 7 → NtIn wr ((okP p3 p4 c3 c4 w4.heap.size).getD j (ntN, ntQ)).1 ((okP p3 p4 c3 c4 w4.heap.size).getD j (ntN, ntQ)).2 from fun wr j hb hj => by
      have h5 : Below W5.heap.size W5 wr := HW6.out.1.trans (hb.mono HW6.out.1.size)
      have h4 : Below w4.heap.size w4 wr := HB45.out.trans (h5.mono HB45.out.size)
      have h2 : Below w2.heap.size w2 wr := HB24.out.trans (h4.mono HB24.out.size)
      exact okP_in (HR3.out.below h2) (HR4.out.below h4) (rec_block (by rw [h5.block _ (by have := HZ5.out; omega)]; exact HRC5.out)) hj)
    have HIB := Lib.hid (show ∀ wr j, Below wc.heap.size wc wr → j < 13 → NtIn wr ((badP W5.heap.size).getD j (ntN, ntQ)).1 ((badP W5.heap.size).getD j (ntN, ntQ)).2 from fun wr j hb hj => badP_in (rec_block (by rw [hb.block _ (Array.getElem?_eq_some_iff.1 HW6.out.2.2).1]; exact HW6.out.2.2)) hj)
    have HRA := Lib.hid (show ∀ wr, Below wc.heap.size wc wr → NtRow wr (w4.heap.size + 1) (okP p3 p4 c3 c4 w4.heap.size) from fun wr hb => (HRW5.out.below HW6.out.1).below hb)
    have HRB := Lib.hid (show ∀ wr, Below wc.heap.size wc wr → NtRow wr (W5.heap.size + 1) (badP W5.heap.size) from fun wr hb => HW6.out.2.1.below hb)
    have HBC := Lib.hid (show Below w.heap.size w wc from (HB2.out.trans (HB24.out.mono HB2.out.size)).trans ((HB45.out.trans (HW6.out.1.mono HB45.out.size)).mono (by have := HB2.out.size; have := HB24.out.size; omega)))
    clear HB45 HRW5 HRC5 HR3 HR4 HB24 HW6 HN HZ5 HCC
    go_wp2_with fail
    go_loopw [3] (fun i wr => ∃ k : Nat, k ≤ 7 ∧ i = .int .i64 k ∧ Hid (Below wc.heap.size wc wr)) (fun i _ => 7 - (RowKit.intOf i).toNat)
    case atStart => exact ⟨0, Nat.zero_le _, rfl, Lib.hid (Below.refl _ _)⟩
    case round =>
      obtain ⟨k, hk, rfl, HBr⟩ := hrel
      by_cases hlt : k < 7
      · have hltz : (k : Int) < 7 := by omega
        have HRG0 := (HRA.out wr HBr.out).range (j := k) hlt
        have HIN0 := HIA.out wr k HBr.out hlt
        have HMM := okP_mem p3 p4 c3 c4 w4.heap.size hlt
        obtain ⟨x, hx⟩ : ∃ x, (okP p3 p4 c3 c4 w4.heap.size).getD k (ntN, ntQ) = x := ⟨_, rfl⟩
        rw [hx] at HRG0 HIN0 HMM
        obtain ⟨n, P⟩ := x
        simp only at HRG0 HIN0 HMM
        obtain ⟨Y, hY, hYl⟩ := ok_pack n HMM
        have HSMM := Lib.hid (ok_sm n HMM)
        have cp := pack_n n P wr HIN0 HSMM.out.1
        rw [hY] at cp
        have HIN := Lib.hid HIN0
        unfold ntV at cp
        obtain ⟨cl, hcl⟩ : ∃ cl, ntList n P = cl := ⟨_, rfl⟩
        rw [hcl] at HRG0 cp
        have HRG := Lib.hid HRG0
        have HRGA := Lib.hid (show ∀ w1, Below wc.heap.size wc w1 → w1.rangeAt (w4.heap.size + 1) (k * 27) cl from fun w1 h1 => by
          have h2 := (HRA.out w1 h1).range (j := k) hlt
          rw [hx] at h2
          exact hcl ▸ h2)
        have HINA := Lib.hid (show ∀ w1, Below wc.heap.size wc w1 → NtIn w1 n P from fun w1 h1 => by
          have h2 := HIA.out w1 k h1 hlt
          rw [hx] at h2
          exact h2)
        have CP := Lib.hid cp
        have HCL := Lib.hid hcl
        have HSZ := Lib.hid (show (Try.prog.info? 44).map (·.size) = some cl.length by rw [← hcl]; exact info_note)
        clear HRG0 HIN0 HMM hx cp hcl
        go_wp2_with (refine wpList_load_mid rfl 44 (.tmp 55) rfl _ _ rfl cl _ HRG.out Try.underlying44 rfl HSZ.out ?_)
        refine CP.out.mono ?_
        rintro e wa ⟨v2, rfl, ho2, hb2⟩
        obtain ⟨q2, d2, rfl, -, -, hr2⟩ := own_row ho2
        obtain ⟨y, hy⟩ : ∃ y, Y.length = y := ⟨_, rfl⟩
        rw [show ((some Y).getD [] : List UInt8) = Y from rfl] at hr2
        rw [show (nums ((some Y).getD [])).length = y from by rw [nums_length]; exact hy]
        rw [show errP (some Y) = 0 from rfl]
        have HBa := Lib.hid (HBr.out.trans (hb2.mono HBr.out.size))
        have cr := read_back n Y hY hYl q2 d2 wa hr2
        rw [hy] at cr
        have CR := Lib.hid cr
        have CMY := Lib.hid (show ∀ w1, Below wc.heap.size wc w1 → Calls Try.prog 11 #[.agg cl.toArray] w1 fun e w' => e = .returned (.bool true) ∧ Below w1.heap.size w1 w' from fun w1 h1 => by
          have h := may_n n P w1 (HINA.out w1 h1) HSMM.out.1
          rw [hY] at h
          unfold ntV at h
          rw [HCL.out] at h
          exact h)
        clear ho2 hb2 hr2 hy cr hY hYl CP
        go_wp2_with fail
        refine CR.out.mono ?_
        rintro e wb ⟨m, PM, rfl, hb3, hin3, hsm⟩
        have HBb := Lib.hid (HBa.out.trans (hb3.mono HBa.out.size))
        have hla : m.la = [] := by have h1 := hsm.la; rw [HSMM.out.2.1] at h1; simpa using h1.symm
        have csm : ∀ w1, Below wb.heap.size wb w1 → Below wc.heap.size wc w1 → Calls Try.prog 14 #[ntV m PM, ntV n P] w1 fun e w' => e = .returned (.bool true) ∧ Below w1.heap.size w1 w' := fun w1 h1 h2 =>
          same_n m n PM P w1 true ⟨fun _ => hsm.symm, fun _ => rfl⟩ (hin3.below h1) (HINA.out w1 h2) (fun e he => by rw [hla] at he; cases he) (fun e he => by rw [HSMM.out.2.1] at he; cases he) (by rw [← hsm.rep]; exact HSMM.out.2.2.1) HSMM.out.2.2.1 (by rw [← hsm.ls]; exact HSMM.out.2.2.2.1) HSMM.out.2.2.2.1 (by rw [hla]; decide) (by rw [HSMM.out.2.1]; decide) (by rw [← hsm.sh]; exact HSMM.out.2.2.2.2) HSMM.out.2.2.2.2
        unfold ntV at csm ⊢
        obtain ⟨c, hc⟩ : ∃ c, (ntList m PM).toArray = c := ⟨_, rfl⟩
        rw [hc, HCL.out] at csm
        rw [hc]
        have hcs : c.size = 27 := by rw [← hc]; rfl
        have HSZC := Lib.hid (show (Try.prog.info? 44).map (·.size) = some c.size by rw [hcs]; exact info_note)
        have HONE := Lib.hid (show c.all (·.oneCell') = true by rw [← hc]; exact nt_one m PM)
        have HST3 := Lib.hid (note_store wb c wb.heap.size rfl hcs)
        obtain ⟨wd, hwd⟩ : ∃ wd, wb.alloc (.cells c 44) = wd := ⟨_, rfl⟩
        have hbd : Below wb.heap.size wb wd := hwd ▸ (Below.refl _ _).alloc (Nat.le_refl _) _
        have HCd := Lib.hid (show wd.heap[wb.heap.size]? = some (.cells c 44 (0, 0)) from hwd ▸ new_block _ _ _)
        have HBd := Lib.hid (HBb.out.trans (hbd.mono HBb.out.size))
        have CSA := Lib.hid (fun w1 (h1 : Below wd.heap.size wd w1) (h2 : Below wc.heap.size wc w1) => csm w1 (hbd.trans (h1.mono hbd.size)) h2)
        have HWd := Lib.hid hwd
        clear hb3 hin3 hsm hla hc hcs hwd hbd CR csm
        go_upto_region 10 with (with_reducible refine wpList_store_row rfl 44 (.tmp 6) (.tmp 63) rfl wb.heap.size c rfl rfl 44 noteZ HST3.out.1 HSZC.out HST3.out.2.1 HONE.out ?_)
        rw [HST3.out.2.2, HWd.out]
        refine wp_region_mono mixedAt (by kernel_rfl) [VP.eq (.slice (some ⟨w4.heap.size + 1, 0, none⟩) 7 7), VP.eq (.int .i64 k), VP.eq (.pointer (some ⟨w4.heap.size + 1, k * 27, none⟩)), VP.eq (.agg cl.toArray), VP.eq (.bool true), VP.eq (.bool false), VP.eq (.bool false), VP.eq (.int .i64 0), VP.eq (.bool false), VP.eq (.bool false), VP.eq (.bool false), VP.eq (.int .i64 0), VP.eq (.bool false), VP.eq (.bool false), VP.eq (.bool false), VP.eq (.agg c), VP.eq (.slice (some ⟨w4.heap.size + 1, 0, none⟩) 7 7), VP.eq (.int .i64 k), VP.eq (.pointer (some ⟨w4.heap.size + 1, k * 27, none⟩)), VP.eq (.agg cl.toArray), VP.eq (.bool true), VP.eq (.bool false), VP.eq (.bool false)] ?_ ?_
        · intro i opr Ls vals w' hi hL' hdep hC hB hV
          have hlt : i < 23 := by have := (List.getElem?_eq_some_iff.1 hi).1; simpa using this
          generalize hA : frA _ _ Ls vals = a'
          have hT1 : a'.tmps.getD 1 undef = .slice (some ⟨w4.heap.size + 1, 0, none⟩) 7 7 := by rw [← hA, frA_base (by kernel_rfl)]; rfl
          have hT3 : a'.tmps.getD 3 undef = .int .i64 k := by rw [← hA, frA_base (by kernel_rfl)]; rfl
          have hT5 : a'.tmps.getD 5 undef = .int .i64 0 := by rw [← hA, frA_base (by kernel_rfl)]; rfl
          have hT6 : a'.tmps.getD 6 undef = .pointer (some ⟨wb.heap.size, 0, none⟩) := by rw [← hA, frA_base (by kernel_rfl)]; rfl
          have hT7 : a'.tmps.getD 7 undef = .int .i64 0 := by rw [← hA, frA_base (by kernel_rfl)]; rfl
          have hD := Lib.hid (fun k t (hk : Ls k = true) (ht : dstOf _ k = some t) => hA ▸ frA_done (by kernel_rfl) (vals := vals) hk ht)
          clear hA
          have hbc := HBd.out.trans (hB.mono HBd.out.size)
          have hrg : w'.rangeAt (w4.heap.size + 1) (k * 27) cl := HRGA.out w' hbc
          have hcc : w'.heap[wb.heap.size]? = some (.cells c 44 (0, 0)) := by rw [hB.block _ (Array.getElem?_eq_some_iff.1 HCd.out).1]; exact HCd.out
          obtain rfl | rfl | rfl | rfl | rfl | rfl | rfl | rfl | rfl | rfl | rfl | rfl | rfl | rfl | rfl | rfl | rfl | rfl | rfl | rfl | rfl | rfl | rfl : i = 0 ∨ i = 1 ∨ i = 2 ∨ i = 3 ∨ i = 4 ∨ i = 5 ∨ i = 6 ∨ i = 7 ∨ i = 8 ∨ i = 9 ∨ i = 10 ∨ i = 11 ∨ i = 12 ∨ i = 13 ∨ i = 14 ∨ i = 15 ∨ i = 16 ∨ i = 17 ∨ i = 18 ∨ i = 19 ∨ i = 20 ∨ i = 21 ∨ i = 22 := by omega
          all_goals
            injection hi with hi
            subst hi
            try simp [Region.binds] at hdep
          · skip
            exact step_run rfl (v := .slice (some ⟨w4.heap.size + 1, 0, none⟩) 7 7) (w' := w') (by go_simp) ⟨rfl, Below.refl _ _⟩
          · skip
            exact step_run rfl (v := .int .i64 k) (w' := w') (by go_simp) ⟨rfl, Below.refl _ _⟩
          · skip
            have d65 := hD.out 0 65 (by simp [hdep]) rfl
            rw [show vals 0 = _ from hV 0 (by simp [hdep])] at d65
            have d66 := hD.out 1 66 (by simp [hdep]) rfl
            rw [show vals 1 = _ from hV 1 (by simp [hdep])] at d66
            exact step_run rfl (v := .pointer (some ⟨w4.heap.size + 1, k * 27, none⟩)) (w' := w') (by go_simp) ⟨rfl, Below.refl _ _⟩
          · skip
            have d67 := hD.out 2 67 (by simp [hdep]) rfl
            rw [show vals 2 = _ from hV 2 (by simp [hdep])] at d67
            exact step_run rfl (v := .agg cl.toArray) (w' := w') (run_load_note 44 (.tmp 67) rfl _ _ d67 cl _ hrg Try.underlying44 rfl HSZ.out) ⟨rfl, Below.refl _ _⟩
          · skip
            have d68 := hD.out 3 68 (by simp [hdep]) rfl
            rw [show vals 3 = _ from hV 3 (by simp [hdep])] at d68
            exact step_enter rfl (f := 11) (args := #[.agg cl.toArray]) (w' := w') (by go_simp) ((CMY.out w' hbc).mono fun e w'' ⟨he, hb⟩ => ⟨.bool true, he, rfl, hb⟩)
          · skip
            have d69 := hD.out 4 69 (by simp [hdep]) rfl
            rw [show vals 4 = _ from hV 4 (by simp [hdep])] at d69
            exact step_run rfl (v := .bool false) (w' := w') (by go_simp) ⟨rfl, Below.refl _ _⟩
          · skip
            have d70 := hD.out 5 70 (by simp [hdep]) rfl
            rw [show vals 5 = _ from hV 5 (by simp [hdep])] at d70
            exact step_run rfl (v := .bool false) (w' := w') (by go_simp) ⟨rfl, Below.refl _ _⟩
          · skip
            have d71 := hD.out 6 71 (by simp [hdep]) rfl
            rw [show vals 6 = _ from hV 6 (by simp [hdep])] at d71
            exact step_run' (wanted_open rfl rfl d71) (v := .int .i64 0) (w' := w') (by go_simp) ⟨rfl, Below.refl _ _⟩
          · skip
            have d71 := hD.out 6 71 (by simp [hdep]) rfl
            rw [show vals 6 = _ from hV 6 (by simp [hdep])] at d71
            have d72 := hD.out 7 72 (by simp [hdep]) rfl
            rw [show vals 7 = _ from hV 7 (by simp [hdep])] at d72
            exact step_run' (wanted_open rfl rfl d71) (v := .bool false) (w' := w') (by go_simp) ⟨rfl, Below.refl _ _⟩
          · skip
            have d71 := hD.out 6 71 (by simp [hdep]) rfl
            rw [show vals 6 = _ from hV 6 (by simp [hdep])] at d71
            have d73 := hD.out 8 73 (by simp [hdep]) rfl
            rw [show vals 8 = _ from hV 8 (by simp [hdep])] at d73
            exact step_run rfl (v := .bool false) (w' := w') (by go_simp) ⟨rfl, Below.refl _ _⟩
          · skip
            have d74 := hD.out 9 74 (by simp [hdep]) rfl
            rw [show vals 9 = _ from hV 9 (by simp [hdep])] at d74
            exact step_run rfl (v := .bool false) (w' := w') (by go_simp) ⟨rfl, Below.refl _ _⟩
          · skip
            have d75 := hD.out 10 75 (by simp [hdep]) rfl
            rw [show vals 10 = _ from hV 10 (by simp [hdep])] at d75
            exact step_run' (wanted_open rfl rfl d75) (v := .int .i64 0) (w' := w') (by go_simp) ⟨rfl, Below.refl _ _⟩
          · skip
            have d75 := hD.out 10 75 (by simp [hdep]) rfl
            rw [show vals 10 = _ from hV 10 (by simp [hdep])] at d75
            have d76 := hD.out 11 76 (by simp [hdep]) rfl
            rw [show vals 11 = _ from hV 11 (by simp [hdep])] at d76
            exact step_run' (wanted_open rfl rfl d75) (v := .bool false) (w' := w') (by go_simp) ⟨rfl, Below.refl _ _⟩
          · skip
            have d75 := hD.out 10 75 (by simp [hdep]) rfl
            rw [show vals 10 = _ from hV 10 (by simp [hdep])] at d75
            have d77 := hD.out 12 77 (by simp [hdep]) rfl
            rw [show vals 12 = _ from hV 12 (by simp [hdep])] at d77
            exact step_run rfl (v := .bool false) (w' := w') (by go_simp) ⟨rfl, Below.refl _ _⟩
          · skip
            have d78 := hD.out 13 78 (by simp [hdep]) rfl
            rw [show vals 13 = _ from hV 13 (by simp [hdep])] at d78
            exact step_run rfl (v := .bool false) (w' := w') (by go_simp) ⟨rfl, Below.refl _ _⟩
          · skip
            have d79 := hD.out 14 79 (by simp [hdep]) rfl
            rw [show vals 14 = _ from hV 14 (by simp [hdep])] at d79
            exact step_run' (wanted_open rfl rfl d79) (v := .agg c) (w' := w') (run_load_row 44 (.tmp 6) rfl wb.heap.size hT6 44 c (0, 0) _ hcc Try.underlying44 rfl HSZC.out) ⟨rfl, Below.refl _ _⟩
          · skip
            have d79 := hD.out 14 79 (by simp [hdep]) rfl
            rw [show vals 14 = _ from hV 14 (by simp [hdep])] at d79
            exact step_run' (wanted_open rfl rfl d79) (v := .slice (some ⟨w4.heap.size + 1, 0, none⟩) 7 7) (w' := w') (by go_simp) ⟨rfl, Below.refl _ _⟩
          · skip
            have d79 := hD.out 14 79 (by simp [hdep]) rfl
            rw [show vals 14 = _ from hV 14 (by simp [hdep])] at d79
            exact step_run' (wanted_open rfl rfl d79) (v := .int .i64 k) (w' := w') (by go_simp) ⟨rfl, Below.refl _ _⟩
          · skip
            have d79 := hD.out 14 79 (by simp [hdep]) rfl
            rw [show vals 14 = _ from hV 14 (by simp [hdep])] at d79
            have d81 := hD.out 16 81 (by simp [hdep]) rfl
            rw [show vals 16 = _ from hV 16 (by simp [hdep])] at d81
            have d82 := hD.out 17 82 (by simp [hdep]) rfl
            rw [show vals 17 = _ from hV 17 (by simp [hdep])] at d82
            exact step_run' (wanted_open rfl rfl d79) (v := .pointer (some ⟨w4.heap.size + 1, k * 27, none⟩)) (w' := w') (by go_simp) ⟨rfl, Below.refl _ _⟩
          · skip
            have d79 := hD.out 14 79 (by simp [hdep]) rfl
            rw [show vals 14 = _ from hV 14 (by simp [hdep])] at d79
            have d83 := hD.out 18 83 (by simp [hdep]) rfl
            rw [show vals 18 = _ from hV 18 (by simp [hdep])] at d83
            exact step_run' (wanted_open rfl rfl d79) (v := .agg cl.toArray) (w' := w') (run_load_note 44 (.tmp 83) rfl _ _ d83 cl _ hrg Try.underlying44 rfl HSZ.out) ⟨rfl, Below.refl _ _⟩
          · skip
            have d79 := hD.out 14 79 (by simp [hdep]) rfl
            rw [show vals 14 = _ from hV 14 (by simp [hdep])] at d79
            have d80 := hD.out 15 80 (by simp [hdep]) rfl
            rw [show vals 15 = _ from hV 15 (by simp [hdep])] at d80
            have d84 := hD.out 19 84 (by simp [hdep]) rfl
            rw [show vals 19 = _ from hV 19 (by simp [hdep])] at d84
            exact step_enter' (wanted_open rfl rfl d79) (f := 14) (args := #[.agg c, .agg cl.toArray]) (w' := w') (by go_simp) ((CSA.out w' hB hbc).mono fun e w'' ⟨he, hb⟩ => ⟨.bool true, he, rfl, hb⟩)
          · skip
            have d79 := hD.out 14 79 (by simp [hdep]) rfl
            rw [show vals 14 = _ from hV 14 (by simp [hdep])] at d79
            have d85 := hD.out 20 85 (by simp [hdep]) rfl
            rw [show vals 20 = _ from hV 20 (by simp [hdep])] at d85
            exact step_run' (wanted_open rfl rfl d79) (v := .bool false) (w' := w') (by go_simp) ⟨rfl, Below.refl _ _⟩
          · skip
            have d79 := hD.out 14 79 (by simp [hdep]) rfl
            rw [show vals 14 = _ from hV 14 (by simp [hdep])] at d79
            have d86 := hD.out 21 86 (by simp [hdep]) rfl
            rw [show vals 21 = _ from hV 21 (by simp [hdep])] at d86
            exact step_run rfl (v := .bool false) (w' := w') (by go_simp) ⟨rfl, Below.refl _ _⟩
        · intro vals w9 hB hV
          have e0 : vals 0 = .slice (some ⟨w4.heap.size + 1, 0, none⟩) 7 7 := hV 0 (by decide)
          have e1 : vals 1 = .int .i64 k := hV 1 (by decide)
          have e2 : vals 2 = .pointer (some ⟨w4.heap.size + 1, k * 27, none⟩) := hV 2 (by decide)
          have e3 : vals 3 = .agg cl.toArray := hV 3 (by decide)
          have e4 : vals 4 = .bool true := hV 4 (by decide)
          have e5 : vals 5 = .bool false := hV 5 (by decide)
          have e6 : vals 6 = .bool false := hV 6 (by decide)
          have e7 : vals 7 = .int .i64 0 := hV 7 (by decide)
          have e8 : vals 8 = .bool false := hV 8 (by decide)
          have e9 : vals 9 = .bool false := hV 9 (by decide)
          have e10 : vals 10 = .bool false := hV 10 (by decide)
          have e11 : vals 11 = .int .i64 0 := hV 11 (by decide)
          have e12 : vals 12 = .bool false := hV 12 (by decide)
          have e13 : vals 13 = .bool false := hV 13 (by decide)
          have e14 : vals 14 = .bool false := hV 14 (by decide)
          have e15 : vals 15 = .agg c := hV 15 (by decide)
          have e16 : vals 16 = .slice (some ⟨w4.heap.size + 1, 0, none⟩) 7 7 := hV 16 (by decide)
          have e17 : vals 17 = .int .i64 k := hV 17 (by decide)
          have e18 : vals 18 = .pointer (some ⟨w4.heap.size + 1, k * 27, none⟩) := hV 18 (by decide)
          have e19 : vals 19 = .agg cl.toArray := hV 19 (by decide)
          have e20 : vals 20 = .bool true := hV 20 (by decide)
          have e21 : vals 21 = .bool false := hV 21 (by decide)
          have e22 : vals 22 = .bool false := hV 22 (by decide)
          have HB9 := Lib.hid (HBd.out.trans (hB.mono HBd.out.size))
          simp only [putsL, Act.put, List.setIfInBounds_toArray, List.set_cons_zero, List.set_cons_succ, e0, e1, e2, e3, e4, e5, e6, e7, e8, e9, e10, e11, e12, e13, e14, e15, e16, e17, e18, e19, e20, e21, e22]
          clear e0 e1 e2 e3 e4 e5 e6 e7 e8 e9 e10 e11 e12 e13 e14 e15 e16 e17 e18 e19 e20 e21 e22 hB hV
          go_wp2_with fail
          go_roundw
          case rel => exact ⟨k + 1, by omega, by go_num, HB9⟩
          case measure => simp [RowKit.intOf]; omega
      · obtain rfl : k = 7 := by omega
        have hltz : ¬ ((7 : Nat) : Int) < 7 := by omega
        have HB7 := HBr
        clear hlt hltz hk
        go_wp2_with fail
        go_loopw [8] (fun i wr => ∃ k : Nat, k ≤ 13 ∧ i = .int .i64 k ∧ Hid (Below wc.heap.size wc wr)) (fun i _ => 13 - (RowKit.intOf i).toNat)
        case atStart => exact ⟨0, Nat.zero_le _, rfl, HB7⟩
        case round =>
          obtain ⟨k, hk, rfl, HBs⟩ := hrel
          by_cases hlt : k < 13
          · have hltz : (k : Int) < 13 := by omega
            have HMM := badP_mem W5.heap.size hlt
            obtain ⟨x, hx⟩ : ∃ x, (badP W5.heap.size).getD k (ntN, ntQ) = x := ⟨_, rfl⟩
            rw [hx] at HMM
            obtain ⟨n, P⟩ := x
            simp only at HMM
            have hY := bad_pack n HMM
            have hsm := bad_sm n HMM
            obtain ⟨cl, hcl⟩ : ∃ cl, ntList n P = cl := ⟨_, rfl⟩
            have HCL := Lib.hid hcl
            have HRGA := Lib.hid (show ∀ w1, Below wc.heap.size wc w1 → w1.rangeAt (W5.heap.size + 1) (k * 27) cl from fun w1 h1 => by
              have h2 := (HRB.out w1 h1).range (j := k) hlt
              rw [hx] at h2
              exact hcl ▸ h2)
            have hina : ∀ w1, Below wc.heap.size wc w1 → NtIn w1 n P := fun w1 h1 => by
              have h2 := HIB.out w1 k h1 hlt
              rw [hx] at h2
              exact h2
            have CP := Lib.hid (show Calls Try.prog 10 #[.agg cl.toArray] wr (RetPk wr.heap.size none wr) from by
              have h := pack_n n P wr (hina wr HBs.out) hsm
              rw [hY] at h
              unfold ntV at h
              rw [hcl] at h
              exact h)
            have CMY := Lib.hid (show ∀ w1, Below wc.heap.size wc w1 → Calls Try.prog 11 #[.agg cl.toArray] w1 fun e w' => e = .returned (.bool false) ∧ Below w1.heap.size w1 w' from fun w1 h1 => by
              have h := may_n n P w1 (hina w1 h1) hsm
              rw [hY] at h
              unfold ntV at h
              rw [hcl] at h
              exact h)
            have HSZ := Lib.hid (show (Try.prog.info? 44).map (·.size) = some cl.length by rw [← hcl]; exact info_note)
            have HRG := Lib.hid (HRGA.out wr HBs.out)
            clear HMM hx hY hsm hcl hina
            go_wp2_with (refine wpList_load_mid rfl 44 (.tmp 97) rfl _ _ rfl cl _ HRG.out Try.underlying44 rfl HSZ.out ?_)
            refine CP.out.mono ?_
            rintro e wa ⟨v2, rfl, -, hb2⟩
            rw [show errP none = 1 from rfl]
            have HBa := Lib.hid (HBs.out.trans (hb2.mono HBs.out.size))
            have HRG2 := Lib.hid (HRGA.out wa HBa.out)
            have CM := Lib.hid (CMY.out wa HBa.out)
            clear hb2 CP
            go_wp2_with (refine wpList_load_mid rfl 44 (.tmp 104) rfl _ _ rfl cl _ HRG2.out Try.underlying44 rfl HSZ.out ?_)
            refine CM.out.mono ?_
            rintro e wb ⟨rfl, hb3⟩
            have HBb := Lib.hid (HBa.out.trans (hb3.mono HBa.out.size))
            clear hb3
            go_wp2_with fail
            go_roundw
            case rel =>
              refine ⟨_, _, _, _, _, _, _, _, _, _, _, _, _, _, _, _, _, _, _, _, _, _, _, _, _, _, _, ?_, rfl⟩
              exact ⟨k + 1, by omega, by go_num, HBb⟩
            case measure => simp [RowKit.intOf]; omega
          · obtain rfl : k = 13 := by omega
            have hltz : ¬ ((13 : Nat) : Int) < 13 := by omega
            have cr := read_n [] none 0 wr (Or.inl rfl) (by decide)
            have CR := Lib.hid (show Calls Try.prog 9 #[.slice none 0 0] wr (RetRd wr []) from cr)
            clear cr hlt hk
            go_wp2_with fail
            refine CR.out.mono ?_
            rintro e wb ⟨m, PM, E, rfl, hb3, -, hE⟩
            obtain rfl : E = 5 := by
              rcases hE with ⟨-, x, h1, -⟩ | ⟨h1, -⟩
              · exact absurd h1 (by rw [show readL noteC [] = .error 7 from rfl]; intro h; cases h)
              · exact h1
            have HBb := Lib.hid (HBs.out.trans (hb3.mono HBs.out.size))
            unfold ntV
            obtain ⟨c, hc⟩ : ∃ c, (ntList m PM).toArray = c := ⟨_, rfl⟩
            rw [hc]
            have hcs : c.size = 27 := by rw [← hc]; rfl
            have HSZC := Lib.hid (show (Try.prog.info? 44).map (·.size) = some c.size by rw [hcs]; exact info_note)
            have HONE := Lib.hid (show c.all (·.oneCell') = true by rw [← hc]; exact nt_one m PM)
            have HST3 := Lib.hid (note_store wb c wb.heap.size rfl hcs)
            obtain ⟨wd, hwd⟩ : ∃ wd, wb.alloc (.cells c 44) = wd := ⟨_, rfl⟩
            have hbd : Below wb.heap.size wb wd := hwd ▸ (Below.refl _ _).alloc (Nat.le_refl _) _
            have HBd := Lib.hid (HBC.out.trans ((HBb.out.trans (hbd.mono HBb.out.size)).mono HBC.out.size))
            have HWd := Lib.hid hwd
            clear hb3 hE hc hcs hwd hbd CR
            go_upto_region 19 with (with_reducible refine wpList_store_row rfl 44 (.tmp 11) (.tmp 113) rfl wb.heap.size c rfl rfl 44 noteZ HST3.out.1 HSZC.out HST3.out.2.1 HONE.out ?_)
            rw [HST3.out.2.2, HWd.out]
            go_wp2_with fail
            go_ret
            exact ⟨rfl, HBd.out⟩
end Go.Proofs.Ytbhojddakmgdmaa
