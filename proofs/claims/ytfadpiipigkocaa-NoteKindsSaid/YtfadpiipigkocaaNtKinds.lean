/-
  NoteKinds: the walk.
-/
import Derived.Test.YtfadpiipigkocaaNtMay
import Derived.Test.YtfadpiipigkocaaNtVar
import Derived.Test.YtfadpiipigkocaaMg21
import Derived.Test.YtfadpiipigkocaaMg24
import Derived.Test.YtfadpiipigkocaaNtSmU
import Derived.Test.YtfadpiipigkocaaMg18
import Derived.Deep.MidRow
namespace Go.Proofs.Ytfadpiipigkocaa
open Go.RowKit Go.Gz

/-- a row of cells written from a place on. -/
def setsA (cs : Array Value) (o : Nat) : List Value → Array Value
  | [] => cs
  | v :: vs => setsA (cs.setIfInBounds o v) (o + 1) vs
theorem lay_mid {g : Nat} {t : TypeId} : ∀ (vs : List Value) (o : Nat) (w : World) (cs : Array Value), w.heap[g]? = some (.cells cs t (0, 0)) → (layCells w g o vs).heap[g]? = some (.cells (setsA cs o vs) t (0, 0))
  | [], _, _, _, h => h
  | v :: vs, o, w, cs, h => lay_mid vs (o + 1) (w.setCell ⟨g, o, none⟩ v) (cs.setIfInBounds o v) (set_at h o v)
theorem setCells_lay (g : Nat) : ∀ (vs : List Value) (o : Nat) (w : World), w.setCells g o vs = layCells w g o vs
  | [], _, _ => rfl
  | v :: vs, o, w => setCells_lay g vs (o + 1) (w.setCell ⟨g, o, none⟩ v)
theorem there_of {w : World} {g : Nat} {cs : Array Value} {t : TypeId} (h : w.heap[g]? = some (.cells cs t (0, 0))) (o n : Nat) (hn : o + n ≤ cs.size) : w.there g o n := fun j hj => by
  refine ⟨?_, frozen_at h (o + j)⟩
  rw [cell_at h (o + j), Array.getElem?_eq_getElem (by omega)]
  rfl
/-- one block holds a note's cells; what else there was is as it was. -/
structure WithAt (w4 : World) (b5 b6 : Nat) (c5 cv : Array Value) (w : World) : Prop where
  bl : Below w4.heap.size w4 w
  h5 : w.heap[b5]? = some (.cells c5 43 (0, 0))
  h6 : w.heap[b6]? = some (.cells cv 43 (0, 0))
  lo5 : w4.heap.size ≤ b5
  lo : w4.heap.size ≤ b6
  ne : b5 ≠ b6
theorem WithAt.lay {w4 w : World} {b5 b6 : Nat} {c5 cv : Array Value} (h : WithAt w4 b5 b6 c5 cv w) (o : Nat) (vs : List Value) : WithAt w4 b5 b6 c5 (setsA cv o vs) (layCells w b6 o vs) :=
  ⟨layCells_below b6 h.lo vs o w h.bl, by rw [layCells_other b6 vs o w b5 h.ne]; exact h.h5, lay_mid vs o w cv h.h6, h.lo5, h.lo, h.ne⟩
theorem WithAt.row {w4 w : World} {b5 b6 : Nat} {c5 cv cs : Array Value} (h : WithAt w4 b5 b6 c5 cv w) (hs : cs.size = cv.size) : WithAt w4 b5 b6 c5 cs (w.setRow b6 cs) := by
  rw [setRow_lay h.h6 hs]
  refine ⟨layCells_below b6 h.lo _ 0 w h.bl, by rw [layCells_other b6 _ 0 w b5 h.ne]; exact h.h5, ?_, h.lo5, h.lo, h.ne⟩
  have := layCells_all (g := b6) (t := 43) (fz := (0, 0)) (w := w) (cs := cv.toList) cs.toList h.h6 (by simp [hs])
  simpa using this
theorem WithAt.below {w4 w w' : World} {b5 b6 : Nat} {c5 cv : Array Value} (h : WithAt w4 b5 b6 c5 cv w) (hb : Below w.heap.size w w') : WithAt w4 b5 b6 c5 cv w' :=
  ⟨h.bl.trans (hb.mono h.bl.size), (hb.block b5 (Array.getElem?_eq_some_iff.1 h.h5).1).trans h.h5, (hb.block b6 (Array.getElem?_eq_some_iff.1 h.h6).1).trans h.h6, h.lo5, h.lo, h.ne⟩

set_option maxHeartbeats 64000000 in
set_option maxRecDepth 100000 in
theorem kinds_n (n : NtL) (kind : Int) (P : NtP) (w : World) (ha : NtAg w n P) (hr : NtRch n) : Calls Try.prog 3 #[ntV n P, .int .i64 kind] w fun e w' => e = .returned (.bool true) ∧ Below w.heap.size w w' := by
  have HA := Lib.hid ha
  have HR := Lib.hid hr
  have CS := Lib.hid (fun w1 h => smallU_any n P w1 h)
  have CMY := Lib.hid (fun w1 h h1 => mayR_any n P w1 h h1)
  have CMA := Lib.hid (fun w1 h h1 h2 => noteMade_any n P w1 h h1 h2)
  unfold ntV at CS CMY CMA ⊢
  obtain ⟨c, hc⟩ : ∃ c, (ntList n P).toArray = c := ⟨_, rfl⟩
  rw [hc] at CS CMY CMA ⊢
  have hcs : c.size = 27 := by rw [← hc]; rfl
  have HIC := Lib.hid (show (Try.prog.info? 35).map (·.size) = some c.size by rw [hcs]; kernel_rfl)
  obtain ⟨W, hW⟩ : ∃ W, w.alloc (.cells c 35) = W := ⟨_, rfl⟩
  have HBW := Lib.hid (show Below w.heap.size w W from hW ▸ (Below.refl _ _).alloc (Nat.le_refl _) _)
  have HXA := Lib.hid (show ∀ w1, Below W.heap.size W w1 → w1.heap[w.heap.size]? = some (.cells c 35 (0, 0)) from fun w1 h => by
    rw [h.block _ (by rw [← hW]; simp), ← hW]; exact new_block _ _ _)
  have HW := Lib.hid hW
  have C0 := Lib.hid (awake_n W)
  obtain ⟨b2, hb2⟩ : ∃ b, w.heap.size = b := ⟨_, rfl⟩
  have HB2 := Lib.hid hb2
  rw [hb2] at HXA
  clear hc hcs hW ha hr hb2
  go_enter Try.func3, Try.ntmps3
  go_upto_region 1 with fail
  rw [HW.out, HB2.out]
  go_wp2_with fail
  refine C0.out.mono ?_
  rintro e w1 ⟨rfl, hb1⟩
  have HB1 := Lib.hid hb1
  have HA1 := Lib.hid (HXA.out w1 hb1)
  have C1 := Lib.hid (CS.out w1 (HA.out.below (HBW.out.trans (hb1.mono HBW.out.size))))
  clear hb1
  go_wp2_with (with_reducible refine wpList_load_row rfl 35 (.tmp 2) rfl b2 rfl 35 c (0, 0) _ HA1.out Try.underlying35 rfl HIC.out ?_)
  refine C1.out.mono ?_
  rintro e w2 ⟨s2, rfl, hf2, hb2⟩
  have HBB2 := Lib.hid (HB1.out.trans (hb2.mono HB1.out.size))
  have HF2 := Lib.hid hf2
  have HA2 := Lib.hid (HXA.out w2 HBB2.out)
  clear hb2 hf2
  cases s2 with
  | false =>
    go_wp2_with fail
    go_ret
    exact ⟨rfl, HBW.out.trans (HBB2.out.mono HBW.out.size)⟩
  | true =>
  have hsm := HF2.out rfl
  have HFW := Lib.hid hsm.1
  have HLT := Lib.hid hsm.2.1
  have C2 := Lib.hid (CMY.out w2 (HA.out.below (HBW.out.trans (HBB2.out.mono HBW.out.size))) ⟨ask_small hsm.2.1 HR.out hsm.1, rep_small hsm.2.2.rep HR.out.rep hsm.1.rl, hsm.1.rl, fun e he => ⟨rep_small (hsm.2.2.la e he) (HR.out.la e he) (hsm.1.ael e he), hsm.1.ael e he⟩, hsm.1.al, hsm.1.ll, hsm.1.hl⟩)
  clear hsm
  go_wp2_with (refine wpList_load_rowW (by simp [Region.wanted, yielded, Act.put]) 35 (.tmp 2) rfl b2 rfl 35 c (0, 0) _ HA2.out Try.underlying35 rfl HIC.out ?_)
  refine C2.out.mono ?_
  rintro e w3 ⟨s3, rfl, hf3, hb3⟩
  have HBB3 := Lib.hid (HBB2.out.trans (hb3.mono HBB2.out.size))
  have HF3 := Lib.hid hf3
  have HA3 := Lib.hid (HXA.out w3 HBB3.out)
  clear hb3 hf3
  cases s3 with
  | false =>
    go_wp2_with fail
    go_ret
    exact ⟨rfl, HBW.out.trans (HBB3.out.mono HBW.out.size)⟩
  | true =>
  have HM := Lib.hid (HF3.out rfl)
  have HLO := Lib.hid (may_lay HM.out HLT.out HR.out HFW.out (fun e he => (HA.out.les e he).s))
  have C3 := Lib.hid (CMA.out w3 (HA.out.below (HBW.out.trans (HBB3.out.mono HBW.out.size))) (Nat.le_trans HFW.out.al (by decide)) (Nat.le_trans HFW.out.hl (by decide)))
  go_wp2_with (with_reducible refine wpList_load_row rfl 35 (.tmp 2) rfl b2 rfl 35 c (0, 0) _ HA3.out Try.underlying35 rfl HIC.out ?_)
  refine C3.out.mono ?_
  rintro e w4 ⟨P1, rfl, hb4, hin4, hp4, _, _⟩
  have HBB4 := Lib.hid (HBB3.out.trans (hb4.mono HBB3.out.size))
  have HI4 := Lib.hid hin4
  clear hb4 hin4 hp4
  obtain ⟨c5, hc5⟩ : ∃ c, (ntList n P1).toArray = c := ⟨_, rfl⟩
  have HC5 := Lib.hid hc5
  have hs5 : c5.size = 27 := by rw [← hc5]; rfl
  have HI5 := Lib.hid (show (Try.prog.info? 43).map (·.size) = some c5.size by rw [hs5]; exact info_note)
  have HO5 := Lib.hid (show c5.all (·.oneCell') = true by rw [← hc5]; exact nt_one n P1)
  have HS5 := Lib.hid hs5
  unfold ntV
  rw [hc5]
  have HST := Lib.hid (note_store w4 c5 w4.heap.size rfl hs5)
  clear hc5 hs5
  go_upto_region 6 with (with_reducible refine wpList_store_row rfl 43 (.tmp 5) (.tmp 25) rfl w4.heap.size c5 rfl rfl 43 noteZ HST.out.1 HI5.out HST.out.2.1 HO5.out ?_)
  rw [HST.out.2.2]
  obtain ⟨W5, hW5⟩ : ∃ W, w4.alloc (.cells c5 43) = W := ⟨_, rfl⟩
  have HB45 := Lib.hid (show Below w4.heap.size w4 W5 from hW5 ▸ (Below.refl _ _).alloc (Nat.le_refl _) _)
  have HR5 := Lib.hid (show W5.heap[w4.heap.size]? = some (.cells c5 43 (0, 0)) from hW5 ▸ new_block _ _ _)
  have HZ5 := Lib.hid (show W5.heap.size = w4.heap.size + 1 by rw [← hW5]; simp)
  rw [hW5]
  clear hW5 HST
  have HL4 := Lib.hid (Nat.le_refl w4.heap.size)
  obtain ⟨b5, hb5⟩ : ∃ b, w4.heap.size = b := ⟨_, rfl⟩
  have HB5 := Lib.hid hb5
  rw [hb5] at HR5 HZ5
  have HLO5 := Lib.hid (Nat.le_of_eq hb5)
  rw [hb5]
  clear hb5
  have HMAY := Lib.hid (fun (m : NtL) (Q : NtP) (w' : World) (K : Bool) (hin : NtIn w' m Q) (hs : NtSm m) (hk : (packN m).isSome = K) => hk ▸ may_n m Q w' hin hs)
  have CM5 := Lib.hid (show ∀ w', Below w4.heap.size w4 w' → Calls Try.prog 8 #[.agg c5] w' fun e w'' => e = .returned (.bool true) ∧ Below w'.heap.size w' w'' from fun w' hb => by
    have := HMAY.out n P1 w' true (HI4.out.below hb) (few_sm HFW.out) (var_self HM.out HLO.out)
    unfold ntV at this
    rw [HC5.out] at this
    exact this)
  go_wp2_with (with_reducible refine wpList_load_row rfl 43 (.tmp 5) rfl b5 rfl 43 c5 (0, 0) _ HR5.out Try.underlying43 rfl HI5.out ?_)
  refine (CM5.out W5 HB45.out).mono ?_
  rintro e w6 ⟨rfl, hb6⟩
  have HB6 := Lib.hid hb6
  have HR6 := Lib.hid (show w6.heap[b5]? = some (.cells c5 43 (0, 0)) from (hb6.block b5 (by have := HZ5.out; omega)).trans HR5.out)
  have HB46 := Lib.hid (HB45.out.trans (hb6.mono HB45.out.size))
  have HST6 := Lib.hid (note_store w6 c5 w6.heap.size rfl HS5.out)
  clear hb6
  have A0 := Lib.hid (show c5[0]? = some (.int .i64 n.kd) by rw [← HC5.out]; rfl)
  have A3 := Lib.hid (show c5[3]? = some (.int .i64 n.ep) by rw [← HC5.out]; rfl)
  have A4 := Lib.hid (show c5[4]? = some (.int .i64 n.tk) by rw [← HC5.out]; rfl)
  have A5 := Lib.hid (show c5[5]? = some (.int .i64 n.ask.d) by rw [← HC5.out]; rfl)
  have A6 := Lib.hid (show c5[6]? = some (.int .i64 n.ask.c) by rw [← HC5.out]; rfl)
  have A7 := Lib.hid (show c5[7]? = some (.int .i64 n.ask.s) by rw [← HC5.out]; rfl)
  have A8 := Lib.hid (show c5[8]? = some (.string (strB n.ask.t)) by rw [← HC5.out]; rfl)
  have A9 := Lib.hid (show c5[9]? = some (.string (strB n.ask.v)) by rw [← HC5.out]; rfl)
  have A10 := Lib.hid (show c5[10]? = some (.string (strB n.ask.f)) by rw [← HC5.out]; rfl)
  have A11 := Lib.hid (show c5[11]? = some (.string (strB n.ask.u)) by rw [← HC5.out]; rfl)
  have A12 := Lib.hid (show c5[12]? = some (.int .i64 n.ask.m) by rw [← HC5.out]; rfl)
  have A13 := Lib.hid (show c5[13]? = some (.int .i64 n.rep.c) by rw [← HC5.out]; rfl)
  have A14 := Lib.hid (show c5[14]? = some (.int .i64 n.rep.s) by rw [← HC5.out]; rfl)
  have A15 := Lib.hid (show c5[15]? = some (.int .i64 n.rep.e) by rw [← HC5.out]; rfl)
  have A16 := Lib.hid (show c5[16]? = some (.bool n.rep.fd) by rw [← HC5.out]; rfl)
  have A17 := Lib.hid (show c5[17]? = some (.string (strB n.rep.v)) by rw [← HC5.out]; rfl)
  have A18 := Lib.hid (show c5[18]? = some (.slice P1.rp n.rep.ls.length P1.rk) by rw [← HC5.out]; rfl)
  have A19 := Lib.hid (show c5[19]? = some (.string (strB n.rep.nx)) by rw [← HC5.out]; rfl)
  have A20 := Lib.hid (show c5[20]? = some (.bool n.rep.mr) by rw [← HC5.out]; rfl)
  have A23 := Lib.hid (show c5[23]? = some (.slice P1.lp n.ls.length P1.lk) by rw [← HC5.out]; rfl)
  have A25 := Lib.hid (show c5[25]? = some (.int .i64 n.ae) by rw [← HC5.out]; rfl)
  have A26 := Lib.hid (show c5[26]? = some (.slice P1.hp n.sh.length P1.hk) by rw [← HC5.out]; rfl)
  obtain ⟨kd, hkd⟩ : ∃ x, n.kd = x := ⟨_, rfl⟩
  rw [hkd] at A0
  have HKD := Lib.hid hkd
  clear hkd
  go_upto_region 9 with (first | (with_reducible refine wpList_load_row rfl 43 (.tmp 5) rfl b5 rfl 43 c5 (0, 0) _ HR6.out Try.underlying43 rfl HI5.out ?_) | (with_reducible refine wpList_store_row rfl 43 (.tmp 6) (.tmp 29) rfl w6.heap.size c5 rfl rfl 43 noteZ HST6.out.1 HI5.out HST6.out.2.1 HO5.out ?_))
  rw [HST6.out.2.2]
  obtain ⟨X0, hX0⟩ : ∃ W, w6.alloc (.cells c5 43) = W := ⟨_, rfl⟩
  have hb67 : Below w6.heap.size w6 X0 := hX0 ▸ (Below.refl _ _).alloc (Nat.le_refl _) _
  obtain ⟨b6, hb6⟩ : ∃ b, w6.heap.size = b := ⟨_, rfl⟩
  have HW0 := Lib.hid (show WithAt w4 b5 b6 c5 c5 X0 from ⟨HB46.out.trans (hb67.mono HB46.out.size), (hb67.block b5 (Array.getElem?_eq_some_iff.1 HR6.out).1).trans HR6.out, by rw [← hb6, ← hX0]; exact new_block _ _ _, HLO5.out, by rw [← hb6]; exact HB46.out.size, by have h1 := (Array.getElem?_eq_some_iff.1 HR6.out).1; omega⟩)
  rw [hX0, hb6]
  clear hX0 hb67 hb6 HST6
  have HST7 := Lib.hid (show c5.size = c5.size from rfl)
  obtain ⟨q5, hq5⟩ : ∃ b, (kd == 5) = b := ⟨_, rfl⟩
  have HQ5 := Lib.hid hq5
  obtain ⟨q6, hq6⟩ : ∃ b, (kd == 6) = b := ⟨_, rfl⟩
  have HQ6 := Lib.hid hq6
  obtain ⟨q1, hq1⟩ : ∃ b, (kd == 1) = b := ⟨_, rfl⟩
  have HQ1 := Lib.hid hq1
  obtain ⟨q2, hq2⟩ : ∃ b, (kd == 2) = b := ⟨_, rfl⟩
  have HQ2 := Lib.hid hq2
  obtain ⟨q8, hq8⟩ : ∃ b, (kd == 8) = b := ⟨_, rfl⟩
  have HQ8 := Lib.hid hq8
  obtain ⟨q9, hq9⟩ : ∃ b, (kd == 9) = b := ⟨_, rfl⟩
  have HQ9 := Lib.hid hq9
  obtain ⟨q4, hq4⟩ : ∃ b, (kd == 4) = b := ⟨_, rfl⟩
  have HQ4 := Lib.hid hq4
  obtain ⟨q7, hq7⟩ : ∃ b, decide (7 ≤ kd) = b := ⟨_, rfl⟩
  have HQ7 := Lib.hid hq7
  clear hq5 hq6 hq1 hq2 hq8 hq9 hq4 hq7
  have y4_tick := (cell_at HW0.out.h6 4).trans A4.out
  have f4_tick := frozen_at HW0.out.h6 4
  go_upto_region 10 with fail
  have HWv_tick := Lib.hid (HW0.out.lay 4 [.int .i64 5])
  obtain ⟨cv_tick, hcv⟩ : ∃ x, setsA c5 4 [.int .i64 5] = x := ⟨_, rfl⟩
  have HCV_tick := Lib.hid (show (ntList { n with tk := 5 } (P1)).toArray = cv_tick by rw [← hcv, ← HC5.out]; simp only [setsA, ntList, List.setIfInBounds_toArray, List.set_cons_zero, List.set_cons_succ]; try rfl)
  obtain ⟨Xv_tick, hXv⟩ : ∃ W, layCells X0 b6 4 [.int .i64 5] = W := ⟨_, rfl⟩
  rw [hcv, hXv] at HWv_tick
  rw [show (X0.setCell ⟨b6, 4, none⟩ (.int .i64 5)) = Xv_tick from hXv]
  have HSZ_tick := Lib.hid (show cv_tick.size = 27 by rw [← HCV_tick.out]; rfl)
  have HI_tick := Lib.hid (show (Try.prog.info? 43).map (·.size) = some cv_tick.size by rw [HSZ_tick.out]; exact info_note)
  have CMv_tick := Lib.hid (show ∀ w', Below Xv_tick.heap.size Xv_tick w' → Calls Try.prog 8 #[.agg cv_tick] w' fun e w'' => e = .returned (.bool (q5 || q6)) ∧ Below w'.heap.size w' w'' from fun w' hb => by
    have i := HI4.out.below (HWv_tick.out.below hb).bl
    have := HMAY.out { n with tk := 5 } (P1) w' (q5 || q6) ⟨i.rs, i.ls, i.la, i.les, i.sh⟩ (few_sm (n := { n with tk := 5 }) ⟨HFW.out.rl, HFW.out.ll, HFW.out.al, HFW.out.ael, HFW.out.hl⟩) (by rw [var_tick HM.out HLO.out HFW.out, HKD.out, HQ5.out, HQ6.out])
    unfold ntV at this
    rw [HCV_tick.out] at this
    exact this)
  clear hcv hXv y4_tick f4_tick
  refine wp_region_mono mixedAt (by kernel_rfl) [VP.eq (.agg cv_tick), VP.eq (.bool (q5 || q6)), VP.eq (.pointer (some ⟨b5, 0, none⟩)), VP.eq (.int .i64 kd), VP.eq (.bool q5), VP.eq (.bool q5), VP.eq ((bif !q5 then .pointer (some ⟨b5, 0, none⟩) else undef)), VP.eq ((bif !q5 then .int .i64 kd else undef)), VP.eq ((bif !q5 then .bool q6 else undef)), VP.eq (.bool (q5 || q6)), VP.eq (.bool true), VP.eq (.bool true)] ?_ ?_
  · intro i opr Ls vals w' hi hL' hdep hC hB hV
    have hlt : i < 12 := by have := (List.getElem?_eq_some_iff.1 hi).1; simpa using this
    generalize hA : frA _ _ Ls vals = a'
    have hT5 : a'.tmps.getD 5 undef = .pointer (some ⟨b5, 0, none⟩) := by rw [← hA, frA_base (by kernel_rfl)]; rfl
    have hT6 : a'.tmps.getD 6 undef = .pointer (some ⟨b6, 0, none⟩) := by rw [← hA, frA_base (by kernel_rfl)]; rfl
    have hD := Lib.hid (fun k t (hk : Ls k = true) (ht : dstOf _ k = some t) => hA ▸ frA_done (by kernel_rfl) (vals := vals) hk ht)
    clear hA
    have hwa := HWv_tick.out.below hB
    have HWA := Lib.hid hwa
    have c0 := (cell_at hwa.h5 0).trans A0.out
    clear hwa
    obtain rfl | rfl | rfl | rfl | rfl | rfl | rfl | rfl | rfl | rfl | rfl | rfl : i = 0 ∨ i = 1 ∨ i = 2 ∨ i = 3 ∨ i = 4 ∨ i = 5 ∨ i = 6 ∨ i = 7 ∨ i = 8 ∨ i = 9 ∨ i = 10 ∨ i = 11 := by omega
    all_goals
      injection hi with hi
      subst hi
      try simp [Region.binds] at hdep
    · skip
      exact step_run rfl (v := .agg cv_tick) (w' := w') (run_load_row 43 (.tmp 6) rfl b6 hT6 43 cv_tick (0, 0) _ HWA.out.h6 Try.underlying43 rfl HI_tick.out) ⟨rfl, Below.refl _ _⟩
    · skip
      have d31 := hD.out 0 31 (by simp [hdep]) rfl
      rw [show vals 0 = _ from hV 0 (by simp [hdep])] at d31
      change _ = (.agg cv_tick : Value) at d31
      exact step_enter rfl (f := 8) (args := #[.agg cv_tick]) (w' := w') (by go_simp) ((CMv_tick.out w' hB).mono fun e w'' ⟨he, hb⟩ => ⟨_, he, rfl, hb⟩)
    · skip
      exact step_run rfl (w' := w') (by go_simp) ⟨rfl, Below.refl _ _⟩
    · skip
      have d33 := hD.out 2 33 (by simp [hdep]) rfl
      rw [show vals 2 = _ from hV 2 (by simp [hdep])] at d33
      change _ = (.pointer (some ⟨b5, 0, none⟩) : Value) at d33
      exact step_run rfl (w' := w') (by go_simp) ⟨rfl, Below.refl _ _⟩
    · skip
      have d34 := hD.out 3 34 (by simp [hdep]) rfl
      rw [show vals 3 = _ from hV 3 (by simp [hdep])] at d34
      change _ = (.int .i64 kd : Value) at d34
      have e0 := HQ5.out
      exact step_run rfl (w' := w') (by go_simp) ⟨rfl, Below.refl _ _⟩
    · skip
      have d35 := hD.out 4 35 (by simp [hdep]) rfl
      rw [show vals 4 = _ from hV 4 (by simp [hdep])] at d35
      change _ = (.bool q5 : Value) at d35
      exact step_run rfl (w' := w') (by go_simp) ⟨rfl, Below.refl _ _⟩
    · skip
      have d36 := hD.out 5 36 (by simp [hdep]) rfl
      rw [show vals 5 = _ from hV 5 (by simp [hdep])] at d36
      change _ = (.bool q5 : Value) at d36
      cases q5
      all_goals
        first
          | exact step_shut (wanted_shut rfl rfl d36 (by decide)) ⟨rfl, Below.refl _ _⟩
          | exact step_run' (wanted_open rfl rfl d36) (w' := w') (by go_simp) ⟨rfl, Below.refl _ _⟩
    · skip
      have d37 := hD.out 6 37 (by simp [hdep]) rfl
      rw [show vals 6 = _ from hV 6 (by simp [hdep])] at d37
      change _ = ((bif !q5 then .pointer (some ⟨b5, 0, none⟩) else undef) : Value) at d37
      have d36 := hD.out 5 36 (by simp [hdep]) rfl
      rw [show vals 5 = _ from hV 5 (by simp [hdep])] at d36
      change _ = (.bool q5 : Value) at d36
      cases q5
      all_goals
        first
          | exact step_shut (wanted_shut rfl rfl d36 (by decide)) ⟨rfl, Below.refl _ _⟩
          | exact step_run' (wanted_open rfl rfl d36) (w' := w') (by go_simp) ⟨rfl, Below.refl _ _⟩
    · skip
      have d38 := hD.out 7 38 (by simp [hdep]) rfl
      rw [show vals 7 = _ from hV 7 (by simp [hdep])] at d38
      change _ = ((bif !q5 then .int .i64 kd else undef) : Value) at d38
      have d36 := hD.out 5 36 (by simp [hdep]) rfl
      rw [show vals 5 = _ from hV 5 (by simp [hdep])] at d36
      change _ = (.bool q5 : Value) at d36
      have e0 := HQ6.out
      cases q5
      all_goals
        first
          | exact step_shut (wanted_shut rfl rfl d36 (by decide)) ⟨rfl, Below.refl _ _⟩
          | exact step_run' (wanted_open rfl rfl d36) (w' := w') (by go_simp) ⟨rfl, Below.refl _ _⟩
    · skip
      have d36 := hD.out 5 36 (by simp [hdep]) rfl
      rw [show vals 5 = _ from hV 5 (by simp [hdep])] at d36
      change _ = (.bool q5 : Value) at d36
      have d39 := hD.out 8 39 (by simp [hdep]) rfl
      rw [show vals 8 = _ from hV 8 (by simp [hdep])] at d39
      change _ = ((bif !q5 then .bool q6 else undef) : Value) at d39
      cases q5 <;> cases q6
      all_goals
        exact step_run rfl (w' := w') (by go_simp) ⟨rfl, Below.refl _ _⟩
    · skip
      have d32 := hD.out 1 32 (by simp [hdep]) rfl
      rw [show vals 1 = _ from hV 1 (by simp [hdep])] at d32
      change _ = (.bool (q5 || q6) : Value) at d32
      have d40 := hD.out 9 40 (by simp [hdep]) rfl
      rw [show vals 9 = _ from hV 9 (by simp [hdep])] at d40
      change _ = (.bool (q5 || q6) : Value) at d40
      cases q5 <;> cases q6
      all_goals
        exact step_run rfl (w' := w') (by go_simp) ⟨rfl, Below.refl _ _⟩
    · skip
      have d41 := hD.out 10 41 (by simp [hdep]) rfl
      rw [show vals 10 = _ from hV 10 (by simp [hdep])] at d41
      change _ = (.bool true : Value) at d41
      exact step_run rfl (w' := w') (by go_simp) ⟨rfl, Below.refl _ _⟩
  intro vals Xe_tick hB hV
  have e0 : vals 0 = _ := hV 0 (by decide)
  change _ = (.agg cv_tick : Value) at e0
  have e1 : vals 1 = _ := hV 1 (by decide)
  change _ = (.bool (q5 || q6) : Value) at e1
  have e2 : vals 2 = _ := hV 2 (by decide)
  change _ = (.pointer (some ⟨b5, 0, none⟩) : Value) at e2
  have e3 : vals 3 = _ := hV 3 (by decide)
  change _ = (.int .i64 kd : Value) at e3
  have e4 : vals 4 = _ := hV 4 (by decide)
  change _ = (.bool q5 : Value) at e4
  have e5 : vals 5 = _ := hV 5 (by decide)
  change _ = (.bool q5 : Value) at e5
  have e6 : vals 6 = _ := hV 6 (by decide)
  change _ = ((bif !q5 then .pointer (some ⟨b5, 0, none⟩) else undef) : Value) at e6
  have e7 : vals 7 = _ := hV 7 (by decide)
  change _ = ((bif !q5 then .int .i64 kd else undef) : Value) at e7
  have e8 : vals 8 = _ := hV 8 (by decide)
  change _ = ((bif !q5 then .bool q6 else undef) : Value) at e8
  have e9 : vals 9 = _ := hV 9 (by decide)
  change _ = (.bool (q5 || q6) : Value) at e9
  have e10 : vals 10 = _ := hV 10 (by decide)
  change _ = (.bool true : Value) at e10
  have e11 : vals 11 = _ := hV 11 (by decide)
  change _ = (.bool true : Value) at e11
  have HWe_tick := Lib.hid (HWv_tick.out.below hB)
  simp only [putsL, Act.put, List.setIfInBounds_toArray, List.set_cons_zero, List.set_cons_succ, e0, e1, e2, e3, e4, e5, e6, e7, e8, e9, e10, e11]
  clear hB hV e0 e1 e2 e3 e4 e5 e6 e7 e8 e9 e10 e11
  have HOLD_epoch := Lib.hid (show cv_tick.size = c5.size by rw [HS5.out]; exact HSZ_tick.out)
  go_upto_region 12 with (first | (with_reducible refine wpList_load_row rfl 43 (.tmp 5) rfl b5 rfl 43 c5 (0, 0) _ HWe_tick.out.h5 Try.underlying43 rfl HI5.out ?_) | (with_reducible refine wpList_store_row rfl 43 (.tmp 6) (.tmp 42) rfl b6 c5 rfl rfl 43 cv_tick HWe_tick.out.h6 HI5.out HOLD_epoch.out HO5.out ?_))
  have HWc_epoch := Lib.hid (HWe_tick.out.row HOLD_epoch.out.symm)
  obtain ⟨Xc_epoch, hXc⟩ : ∃ W, Xe_tick.setRow b6 c5 = W := ⟨_, rfl⟩
  rw [hXc] at HWc_epoch ⊢
  clear hXc
  have y3_epoch := (cell_at HWc_epoch.out.h6 3).trans A3.out
  have f3_epoch := frozen_at HWc_epoch.out.h6 3
  go_upto_region 13 with fail
  have HWv_epoch := Lib.hid (HWc_epoch.out.lay 3 [.int .i64 7])
  obtain ⟨cv_epoch, hcv⟩ : ∃ x, setsA c5 3 [.int .i64 7] = x := ⟨_, rfl⟩
  have HCV_epoch := Lib.hid (show (ntList { n with ep := 7 } (P1)).toArray = cv_epoch by rw [← hcv, ← HC5.out]; simp only [setsA, ntList, List.setIfInBounds_toArray, List.set_cons_zero, List.set_cons_succ]; try rfl)
  obtain ⟨Xv_epoch, hXv⟩ : ∃ W, layCells Xc_epoch b6 3 [.int .i64 7] = W := ⟨_, rfl⟩
  rw [hcv, hXv] at HWv_epoch
  rw [show (Xc_epoch.setCell ⟨b6, 3, none⟩ (.int .i64 7)) = Xv_epoch from hXv]
  have HSZ_epoch := Lib.hid (show cv_epoch.size = 27 by rw [← HCV_epoch.out]; rfl)
  have HI_epoch := Lib.hid (show (Try.prog.info? 43).map (·.size) = some cv_epoch.size by rw [HSZ_epoch.out]; exact info_note)
  have CMv_epoch := Lib.hid (show ∀ w', Below Xv_epoch.heap.size Xv_epoch w' → Calls Try.prog 8 #[.agg cv_epoch] w' fun e w'' => e = .returned (.bool (q7)) ∧ Below w'.heap.size w' w'' from fun w' hb => by
    have i := HI4.out.below (HWv_epoch.out.below hb).bl
    have := HMAY.out { n with ep := 7 } (P1) w' (q7) ⟨i.rs, i.ls, i.la, i.les, i.sh⟩ (few_sm (n := { n with ep := 7 }) ⟨HFW.out.rl, HFW.out.ll, HFW.out.al, HFW.out.ael, HFW.out.hl⟩) (by rw [var_epoch HM.out HLO.out HFW.out, HKD.out, HQ7.out])
    unfold ntV at this
    rw [HCV_epoch.out] at this
    exact this)
  clear hcv hXv y3_epoch f3_epoch
  refine wp_region_mono mixedAt (by kernel_rfl) [VP.eq (.agg cv_epoch), VP.eq (.bool (q7)), VP.eq (.pointer (some ⟨b5, 0, none⟩)), VP.eq (.int .i64 kd), VP.eq (.bool q7), VP.eq (.bool true), VP.eq (.bool true)] ?_ ?_
  · intro i opr Ls vals w' hi hL' hdep hC hB hV
    have hlt : i < 7 := by have := (List.getElem?_eq_some_iff.1 hi).1; simpa using this
    generalize hA : frA _ _ Ls vals = a'
    have hT5 : a'.tmps.getD 5 undef = .pointer (some ⟨b5, 0, none⟩) := by rw [← hA, frA_base (by kernel_rfl)]; rfl
    have hT6 : a'.tmps.getD 6 undef = .pointer (some ⟨b6, 0, none⟩) := by rw [← hA, frA_base (by kernel_rfl)]; rfl
    have hD := Lib.hid (fun k t (hk : Ls k = true) (ht : dstOf _ k = some t) => hA ▸ frA_done (by kernel_rfl) (vals := vals) hk ht)
    clear hA
    have hwa := HWv_epoch.out.below hB
    have HWA := Lib.hid hwa
    have c0 := (cell_at hwa.h5 0).trans A0.out
    clear hwa
    obtain rfl | rfl | rfl | rfl | rfl | rfl | rfl : i = 0 ∨ i = 1 ∨ i = 2 ∨ i = 3 ∨ i = 4 ∨ i = 5 ∨ i = 6 := by omega
    all_goals
      injection hi with hi
      subst hi
      try simp [Region.binds] at hdep
    · skip
      exact step_run rfl (v := .agg cv_epoch) (w' := w') (run_load_row 43 (.tmp 6) rfl b6 hT6 43 cv_epoch (0, 0) _ HWA.out.h6 Try.underlying43 rfl HI_epoch.out) ⟨rfl, Below.refl _ _⟩
    · skip
      have d44 := hD.out 0 44 (by simp [hdep]) rfl
      rw [show vals 0 = _ from hV 0 (by simp [hdep])] at d44
      change _ = (.agg cv_epoch : Value) at d44
      exact step_enter rfl (f := 8) (args := #[.agg cv_epoch]) (w' := w') (by go_simp) ((CMv_epoch.out w' hB).mono fun e w'' ⟨he, hb⟩ => ⟨_, he, rfl, hb⟩)
    · skip
      exact step_run rfl (w' := w') (by go_simp) ⟨rfl, Below.refl _ _⟩
    · skip
      have d46 := hD.out 2 46 (by simp [hdep]) rfl
      rw [show vals 2 = _ from hV 2 (by simp [hdep])] at d46
      change _ = (.pointer (some ⟨b5, 0, none⟩) : Value) at d46
      exact step_run rfl (w' := w') (by go_simp) ⟨rfl, Below.refl _ _⟩
    · skip
      have d47 := hD.out 3 47 (by simp [hdep]) rfl
      rw [show vals 3 = _ from hV 3 (by simp [hdep])] at d47
      change _ = (.int .i64 kd : Value) at d47
      have e0 := HQ7.out
      exact step_run rfl (w' := w') (by go_simp) ⟨rfl, Below.refl _ _⟩
    · skip
      have d45 := hD.out 1 45 (by simp [hdep]) rfl
      rw [show vals 1 = _ from hV 1 (by simp [hdep])] at d45
      change _ = (.bool (q7) : Value) at d45
      have d48 := hD.out 4 48 (by simp [hdep]) rfl
      rw [show vals 4 = _ from hV 4 (by simp [hdep])] at d48
      change _ = (.bool q7 : Value) at d48
      cases q7
      all_goals
        exact step_run rfl (w' := w') (by go_simp) ⟨rfl, Below.refl _ _⟩
    · skip
      have d49 := hD.out 5 49 (by simp [hdep]) rfl
      rw [show vals 5 = _ from hV 5 (by simp [hdep])] at d49
      change _ = (.bool true : Value) at d49
      exact step_run rfl (w' := w') (by go_simp) ⟨rfl, Below.refl _ _⟩
  intro vals Xe_epoch hB hV
  have e0 : vals 0 = _ := hV 0 (by decide)
  change _ = (.agg cv_epoch : Value) at e0
  have e1 : vals 1 = _ := hV 1 (by decide)
  change _ = (.bool (q7) : Value) at e1
  have e2 : vals 2 = _ := hV 2 (by decide)
  change _ = (.pointer (some ⟨b5, 0, none⟩) : Value) at e2
  have e3 : vals 3 = _ := hV 3 (by decide)
  change _ = (.int .i64 kd : Value) at e3
  have e4 : vals 4 = _ := hV 4 (by decide)
  change _ = (.bool q7 : Value) at e4
  have e5 : vals 5 = _ := hV 5 (by decide)
  change _ = (.bool true : Value) at e5
  have e6 : vals 6 = _ := hV 6 (by decide)
  change _ = (.bool true : Value) at e6
  have HWe_epoch := Lib.hid (HWv_epoch.out.below hB)
  simp only [putsL, Act.put, List.setIfInBounds_toArray, List.set_cons_zero, List.set_cons_succ, e0, e1, e2, e3, e4, e5, e6]
  clear hB hV e0 e1 e2 e3 e4 e5 e6
  have HOLD_ask := Lib.hid (show cv_epoch.size = c5.size by rw [HS5.out]; exact HSZ_epoch.out)
  go_upto_region 15 with (first | (with_reducible refine wpList_load_row rfl 43 (.tmp 5) rfl b5 rfl 43 c5 (0, 0) _ HWe_epoch.out.h5 Try.underlying43 rfl HI5.out ?_) | (with_reducible refine wpList_store_row rfl 43 (.tmp 6) (.tmp 50) rfl b6 c5 rfl rfl 43 cv_epoch HWe_epoch.out.h6 HI5.out HOLD_ask.out HO5.out ?_))
  have HWc_ask := Lib.hid (HWe_epoch.out.row HOLD_ask.out.symm)
  obtain ⟨Xc_ask, hXc⟩ : ∃ W, Xe_epoch.setRow b6 c5 = W := ⟨_, rfl⟩
  rw [hXc] at HWc_ask ⊢
  clear hXc
  have HTH_ask := Lib.hid (show World.there Xc_ask b6 5 (#[.int .i64 1, .int .i64 0, .int .i64 0, .string ⟨#[]⟩, .string ⟨#[]⟩, .string ⟨#[]⟩, .string ⟨#[]⟩, .int .i64 0] : Array Value).size from there_of HWc_ask.out.h6 5 8 (by rw [HS5.out]; decide))
  have HI8_ask := Lib.hid (show (Try.prog.info? 23).map (·.size) = some (#[.int .i64 1, .int .i64 0, .int .i64 0, .string ⟨#[]⟩, .string ⟨#[]⟩, .string ⟨#[]⟩, .string ⟨#[]⟩, .int .i64 0] : Array Value).size by kernel_rfl)
  have HO8_ask := Lib.hid (show (#[.int .i64 1, .int .i64 0, .int .i64 0, .string ⟨#[]⟩, .string ⟨#[]⟩, .string ⟨#[]⟩, .string ⟨#[]⟩, .int .i64 0] : Array Value).all (·.oneCell') = true by simp [Value.oneCell'])
  go_upto_region 16 with (refine wpList_store_mid rfl 23 (.tmp 52) (.tmp 51) rfl b6 5 (#[.int .i64 1, .int .i64 0, .int .i64 0, .string ⟨#[]⟩, .string ⟨#[]⟩, .string ⟨#[]⟩, .string ⟨#[]⟩, .int .i64 0] : Array Value) rfl rfl HTH_ask.out HI8_ask.out HO8_ask.out ?_)
  rw [setCells_lay]
  have HWv_ask := Lib.hid (HWc_ask.out.lay 5 [.int .i64 1, .int .i64 0, .int .i64 0, .string ⟨#[]⟩, .string ⟨#[]⟩, .string ⟨#[]⟩, .string ⟨#[]⟩, .int .i64 0])
  obtain ⟨cv_ask, hcv⟩ : ∃ x, setsA c5 5 [.int .i64 1, .int .i64 0, .int .i64 0, .string ⟨#[]⟩, .string ⟨#[]⟩, .string ⟨#[]⟩, .string ⟨#[]⟩, .int .i64 0] = x := ⟨_, rfl⟩
  have HCV_ask := Lib.hid (show (ntList { n with ask := askOne } (P1)).toArray = cv_ask by rw [← hcv, ← HC5.out]; simp only [setsA, ntList, List.setIfInBounds_toArray, List.set_cons_zero, List.set_cons_succ]; try rfl)
  obtain ⟨Xv_ask, hXv⟩ : ∃ W, layCells Xc_ask b6 5 [.int .i64 1, .int .i64 0, .int .i64 0, .string ⟨#[]⟩, .string ⟨#[]⟩, .string ⟨#[]⟩, .string ⟨#[]⟩, .int .i64 0] = W := ⟨_, rfl⟩
  rw [hcv, hXv] at HWv_ask
  rw [show layCells Xc_ask b6 5 (#[.int .i64 1, .int .i64 0, .int .i64 0, .string ⟨#[]⟩, .string ⟨#[]⟩, .string ⟨#[]⟩, .string ⟨#[]⟩, .int .i64 0] : Array Value).toList = Xv_ask from hXv]
  have HSZ_ask := Lib.hid (show cv_ask.size = 27 by rw [← HCV_ask.out]; rfl)
  have HI_ask := Lib.hid (show (Try.prog.info? 43).map (·.size) = some cv_ask.size by rw [HSZ_ask.out]; exact info_note)
  have CMv_ask := Lib.hid (show ∀ w', Below Xv_ask.heap.size Xv_ask w' → Calls Try.prog 8 #[.agg cv_ask] w' fun e w'' => e = .returned (.bool (q1)) ∧ Below w'.heap.size w' w'' from fun w' hb => by
    have i := HI4.out.below (HWv_ask.out.below hb).bl
    have := HMAY.out { n with ask := askOne } (P1) w' (q1) ⟨i.rs, i.ls, i.la, i.les, i.sh⟩ (few_sm (n := { n with ask := askOne }) ⟨HFW.out.rl, HFW.out.ll, HFW.out.al, HFW.out.ael, HFW.out.hl⟩) (by rw [var_ask HM.out HLO.out HFW.out, HKD.out, HQ1.out])
    unfold ntV at this
    rw [HCV_ask.out] at this
    exact this)
  clear hcv hXv 
  refine wp_region_mono mixedAt (by kernel_rfl) [VP.eq (.agg cv_ask), VP.eq (.bool (q1)), VP.eq (.pointer (some ⟨b5, 0, none⟩)), VP.eq (.int .i64 kd), VP.eq (.bool q1), VP.eq (.bool true), VP.eq (.bool true)] ?_ ?_
  · intro i opr Ls vals w' hi hL' hdep hC hB hV
    have hlt : i < 7 := by have := (List.getElem?_eq_some_iff.1 hi).1; simpa using this
    generalize hA : frA _ _ Ls vals = a'
    have hT5 : a'.tmps.getD 5 undef = .pointer (some ⟨b5, 0, none⟩) := by rw [← hA, frA_base (by kernel_rfl)]; rfl
    have hT6 : a'.tmps.getD 6 undef = .pointer (some ⟨b6, 0, none⟩) := by rw [← hA, frA_base (by kernel_rfl)]; rfl
    have hD := Lib.hid (fun k t (hk : Ls k = true) (ht : dstOf _ k = some t) => hA ▸ frA_done (by kernel_rfl) (vals := vals) hk ht)
    clear hA
    have hwa := HWv_ask.out.below hB
    have HWA := Lib.hid hwa
    have c0 := (cell_at hwa.h5 0).trans A0.out
    clear hwa
    obtain rfl | rfl | rfl | rfl | rfl | rfl | rfl : i = 0 ∨ i = 1 ∨ i = 2 ∨ i = 3 ∨ i = 4 ∨ i = 5 ∨ i = 6 := by omega
    all_goals
      injection hi with hi
      subst hi
      try simp [Region.binds] at hdep
    · skip
      exact step_run rfl (v := .agg cv_ask) (w' := w') (run_load_row 43 (.tmp 6) rfl b6 hT6 43 cv_ask (0, 0) _ HWA.out.h6 Try.underlying43 rfl HI_ask.out) ⟨rfl, Below.refl _ _⟩
    · skip
      have d53 := hD.out 0 53 (by simp [hdep]) rfl
      rw [show vals 0 = _ from hV 0 (by simp [hdep])] at d53
      change _ = (.agg cv_ask : Value) at d53
      exact step_enter rfl (f := 8) (args := #[.agg cv_ask]) (w' := w') (by go_simp) ((CMv_ask.out w' hB).mono fun e w'' ⟨he, hb⟩ => ⟨_, he, rfl, hb⟩)
    · skip
      exact step_run rfl (w' := w') (by go_simp) ⟨rfl, Below.refl _ _⟩
    · skip
      have d55 := hD.out 2 55 (by simp [hdep]) rfl
      rw [show vals 2 = _ from hV 2 (by simp [hdep])] at d55
      change _ = (.pointer (some ⟨b5, 0, none⟩) : Value) at d55
      exact step_run rfl (w' := w') (by go_simp) ⟨rfl, Below.refl _ _⟩
    · skip
      have d56 := hD.out 3 56 (by simp [hdep]) rfl
      rw [show vals 3 = _ from hV 3 (by simp [hdep])] at d56
      change _ = (.int .i64 kd : Value) at d56
      have e0 := HQ1.out
      exact step_run rfl (w' := w') (by go_simp) ⟨rfl, Below.refl _ _⟩
    · skip
      have d54 := hD.out 1 54 (by simp [hdep]) rfl
      rw [show vals 1 = _ from hV 1 (by simp [hdep])] at d54
      change _ = (.bool (q1) : Value) at d54
      have d57 := hD.out 4 57 (by simp [hdep]) rfl
      rw [show vals 4 = _ from hV 4 (by simp [hdep])] at d57
      change _ = (.bool q1 : Value) at d57
      cases q1
      all_goals
        exact step_run rfl (w' := w') (by go_simp) ⟨rfl, Below.refl _ _⟩
    · skip
      have d58 := hD.out 5 58 (by simp [hdep]) rfl
      rw [show vals 5 = _ from hV 5 (by simp [hdep])] at d58
      change _ = (.bool true : Value) at d58
      exact step_run rfl (w' := w') (by go_simp) ⟨rfl, Below.refl _ _⟩
  intro vals Xe_ask hB hV
  have e0 : vals 0 = _ := hV 0 (by decide)
  change _ = (.agg cv_ask : Value) at e0
  have e1 : vals 1 = _ := hV 1 (by decide)
  change _ = (.bool (q1) : Value) at e1
  have e2 : vals 2 = _ := hV 2 (by decide)
  change _ = (.pointer (some ⟨b5, 0, none⟩) : Value) at e2
  have e3 : vals 3 = _ := hV 3 (by decide)
  change _ = (.int .i64 kd : Value) at e3
  have e4 : vals 4 = _ := hV 4 (by decide)
  change _ = (.bool q1 : Value) at e4
  have e5 : vals 5 = _ := hV 5 (by decide)
  change _ = (.bool true : Value) at e5
  have e6 : vals 6 = _ := hV 6 (by decide)
  change _ = (.bool true : Value) at e6
  have HWe_ask := Lib.hid (HWv_ask.out.below hB)
  simp only [putsL, Act.put, List.setIfInBounds_toArray, List.set_cons_zero, List.set_cons_succ, e0, e1, e2, e3, e4, e5, e6]
  clear hB hV e0 e1 e2 e3 e4 e5 e6
  have HOLD_rep := Lib.hid (show cv_ask.size = c5.size by rw [HS5.out]; exact HSZ_ask.out)
  go_upto_region 18 with (first | (with_reducible refine wpList_load_row rfl 43 (.tmp 5) rfl b5 rfl 43 c5 (0, 0) _ HWe_ask.out.h5 Try.underlying43 rfl HI5.out ?_) | (with_reducible refine wpList_store_row rfl 43 (.tmp 6) (.tmp 59) rfl b6 c5 rfl rfl 43 cv_ask HWe_ask.out.h6 HI5.out HOLD_rep.out HO5.out ?_))
  have HWc_rep := Lib.hid (HWe_ask.out.row HOLD_rep.out.symm)
  obtain ⟨Xc_rep, hXc⟩ : ∃ W, Xe_ask.setRow b6 c5 = W := ⟨_, rfl⟩
  rw [hXc] at HWc_rep ⊢
  clear hXc
  have HTH_rep := Lib.hid (show World.there Xc_rep b6 13 (#[.int .i64 0, .int .i64 0, .int .i64 0, .bool true, .string ⟨#[]⟩, .slice none 0 0, .string ⟨#[]⟩, .bool false] : Array Value).size from there_of HWc_rep.out.h6 13 8 (by rw [HS5.out]; decide))
  have HI8_rep := Lib.hid (show (Try.prog.info? 27).map (·.size) = some (#[.int .i64 0, .int .i64 0, .int .i64 0, .bool true, .string ⟨#[]⟩, .slice none 0 0, .string ⟨#[]⟩, .bool false] : Array Value).size by kernel_rfl)
  have HO8_rep := Lib.hid (show (#[.int .i64 0, .int .i64 0, .int .i64 0, .bool true, .string ⟨#[]⟩, .slice none 0 0, .string ⟨#[]⟩, .bool false] : Array Value).all (·.oneCell') = true by simp [Value.oneCell'])
  go_upto_region 19 with (refine wpList_store_mid rfl 27 (.tmp 61) (.tmp 60) rfl b6 13 (#[.int .i64 0, .int .i64 0, .int .i64 0, .bool true, .string ⟨#[]⟩, .slice none 0 0, .string ⟨#[]⟩, .bool false] : Array Value) rfl rfl HTH_rep.out HI8_rep.out HO8_rep.out ?_)
  rw [setCells_lay]
  have HWv_rep := Lib.hid (HWc_rep.out.lay 13 [.int .i64 0, .int .i64 0, .int .i64 0, .bool true, .string ⟨#[]⟩, .slice none 0 0, .string ⟨#[]⟩, .bool false])
  obtain ⟨cv_rep, hcv⟩ : ∃ x, setsA c5 13 [.int .i64 0, .int .i64 0, .int .i64 0, .bool true, .string ⟨#[]⟩, .slice none 0 0, .string ⟨#[]⟩, .bool false] = x := ⟨_, rfl⟩
  have HCV_rep := Lib.hid (show (ntList { n with rep := repOne } ({ P1 with rp := none, rk := 0 })).toArray = cv_rep by rw [← hcv, ← HC5.out]; simp only [setsA, ntList, List.setIfInBounds_toArray, List.set_cons_zero, List.set_cons_succ]; try rfl)
  obtain ⟨Xv_rep, hXv⟩ : ∃ W, layCells Xc_rep b6 13 [.int .i64 0, .int .i64 0, .int .i64 0, .bool true, .string ⟨#[]⟩, .slice none 0 0, .string ⟨#[]⟩, .bool false] = W := ⟨_, rfl⟩
  rw [hcv, hXv] at HWv_rep
  rw [show layCells Xc_rep b6 13 (#[.int .i64 0, .int .i64 0, .int .i64 0, .bool true, .string ⟨#[]⟩, .slice none 0 0, .string ⟨#[]⟩, .bool false] : Array Value).toList = Xv_rep from hXv]
  have HSZ_rep := Lib.hid (show cv_rep.size = 27 by rw [← HCV_rep.out]; rfl)
  have HI_rep := Lib.hid (show (Try.prog.info? 43).map (·.size) = some cv_rep.size by rw [HSZ_rep.out]; exact info_note)
  have CMv_rep := Lib.hid (show ∀ w', Below Xv_rep.heap.size Xv_rep w' → Calls Try.prog 8 #[.agg cv_rep] w' fun e w'' => e = .returned (.bool (q2)) ∧ Below w'.heap.size w' w'' from fun w' hb => by
    have i := HI4.out.below (HWv_rep.out.below hb).bl
    have := HMAY.out { n with rep := repOne } ({ P1 with rp := none, rk := 0 }) w' (q2) ⟨Or.inl rfl, i.ls, i.la, i.les, i.sh⟩ (few_sm (n := { n with rep := repOne }) ⟨by simp [repOne], HFW.out.ll, HFW.out.al, HFW.out.ael, HFW.out.hl⟩) (by rw [var_rep HM.out HLO.out HFW.out, HKD.out, HQ2.out])
    unfold ntV at this
    rw [HCV_rep.out] at this
    exact this)
  clear hcv hXv 
  refine wp_region_mono mixedAt (by kernel_rfl) [VP.eq (.agg cv_rep), VP.eq (.bool (q2)), VP.eq (.pointer (some ⟨b5, 0, none⟩)), VP.eq (.int .i64 kd), VP.eq (.bool q2), VP.eq (.bool true), VP.eq (.bool true)] ?_ ?_
  · intro i opr Ls vals w' hi hL' hdep hC hB hV
    have hlt : i < 7 := by have := (List.getElem?_eq_some_iff.1 hi).1; simpa using this
    generalize hA : frA _ _ Ls vals = a'
    have hT5 : a'.tmps.getD 5 undef = .pointer (some ⟨b5, 0, none⟩) := by rw [← hA, frA_base (by kernel_rfl)]; rfl
    have hT6 : a'.tmps.getD 6 undef = .pointer (some ⟨b6, 0, none⟩) := by rw [← hA, frA_base (by kernel_rfl)]; rfl
    have hD := Lib.hid (fun k t (hk : Ls k = true) (ht : dstOf _ k = some t) => hA ▸ frA_done (by kernel_rfl) (vals := vals) hk ht)
    clear hA
    have hwa := HWv_rep.out.below hB
    have HWA := Lib.hid hwa
    have c0 := (cell_at hwa.h5 0).trans A0.out
    clear hwa
    obtain rfl | rfl | rfl | rfl | rfl | rfl | rfl : i = 0 ∨ i = 1 ∨ i = 2 ∨ i = 3 ∨ i = 4 ∨ i = 5 ∨ i = 6 := by omega
    all_goals
      injection hi with hi
      subst hi
      try simp [Region.binds] at hdep
    · skip
      exact step_run rfl (v := .agg cv_rep) (w' := w') (run_load_row 43 (.tmp 6) rfl b6 hT6 43 cv_rep (0, 0) _ HWA.out.h6 Try.underlying43 rfl HI_rep.out) ⟨rfl, Below.refl _ _⟩
    · skip
      have d62 := hD.out 0 62 (by simp [hdep]) rfl
      rw [show vals 0 = _ from hV 0 (by simp [hdep])] at d62
      change _ = (.agg cv_rep : Value) at d62
      exact step_enter rfl (f := 8) (args := #[.agg cv_rep]) (w' := w') (by go_simp) ((CMv_rep.out w' hB).mono fun e w'' ⟨he, hb⟩ => ⟨_, he, rfl, hb⟩)
    · skip
      exact step_run rfl (w' := w') (by go_simp) ⟨rfl, Below.refl _ _⟩
    · skip
      have d64 := hD.out 2 64 (by simp [hdep]) rfl
      rw [show vals 2 = _ from hV 2 (by simp [hdep])] at d64
      change _ = (.pointer (some ⟨b5, 0, none⟩) : Value) at d64
      exact step_run rfl (w' := w') (by go_simp) ⟨rfl, Below.refl _ _⟩
    · skip
      have d65 := hD.out 3 65 (by simp [hdep]) rfl
      rw [show vals 3 = _ from hV 3 (by simp [hdep])] at d65
      change _ = (.int .i64 kd : Value) at d65
      have e0 := HQ2.out
      exact step_run rfl (w' := w') (by go_simp) ⟨rfl, Below.refl _ _⟩
    · skip
      have d63 := hD.out 1 63 (by simp [hdep]) rfl
      rw [show vals 1 = _ from hV 1 (by simp [hdep])] at d63
      change _ = (.bool (q2) : Value) at d63
      have d66 := hD.out 4 66 (by simp [hdep]) rfl
      rw [show vals 4 = _ from hV 4 (by simp [hdep])] at d66
      change _ = (.bool q2 : Value) at d66
      cases q2
      all_goals
        exact step_run rfl (w' := w') (by go_simp) ⟨rfl, Below.refl _ _⟩
    · skip
      have d67 := hD.out 5 67 (by simp [hdep]) rfl
      rw [show vals 5 = _ from hV 5 (by simp [hdep])] at d67
      change _ = (.bool true : Value) at d67
      exact step_run rfl (w' := w') (by go_simp) ⟨rfl, Below.refl _ _⟩
  intro vals Xe_rep hB hV
  have e0 : vals 0 = _ := hV 0 (by decide)
  change _ = (.agg cv_rep : Value) at e0
  have e1 : vals 1 = _ := hV 1 (by decide)
  change _ = (.bool (q2) : Value) at e1
  have e2 : vals 2 = _ := hV 2 (by decide)
  change _ = (.pointer (some ⟨b5, 0, none⟩) : Value) at e2
  have e3 : vals 3 = _ := hV 3 (by decide)
  change _ = (.int .i64 kd : Value) at e3
  have e4 : vals 4 = _ := hV 4 (by decide)
  change _ = (.bool q2 : Value) at e4
  have e5 : vals 5 = _ := hV 5 (by decide)
  change _ = (.bool true : Value) at e5
  have e6 : vals 6 = _ := hV 6 (by decide)
  change _ = (.bool true : Value) at e6
  have HWe_rep := Lib.hid (HWv_rep.out.below hB)
  simp only [putsL, Act.put, List.setIfInBounds_toArray, List.set_cons_zero, List.set_cons_succ, e0, e1, e2, e3, e4, e5, e6]
  clear hB hV e0 e1 e2 e3 e4 e5 e6
  have HOLD_list := Lib.hid (show cv_rep.size = c5.size by rw [HS5.out]; exact HSZ_rep.out)
  go_upto_region 21 with (first | (with_reducible refine wpList_load_row rfl 43 (.tmp 5) rfl b5 rfl 43 c5 (0, 0) _ HWe_rep.out.h5 Try.underlying43 rfl HI5.out ?_) | (with_reducible refine wpList_store_row rfl 43 (.tmp 6) (.tmp 68) rfl b6 c5 rfl rfl 43 cv_rep HWe_rep.out.h6 HI5.out HOLD_list.out HO5.out ?_))
  have HWc_list := Lib.hid (HWe_rep.out.row HOLD_list.out.symm)
  obtain ⟨Xc_list, hXc⟩ : ∃ W, Xe_rep.setRow b6 c5 = W := ⟨_, rfl⟩
  rw [hXc] at HWc_list ⊢
  clear hXc
  have HBL := Lib.hid (show ∃ b, Xc_list.heap.size = b from ⟨_, rfl⟩)
  obtain ⟨bL, hbL⟩ := HBL.out
  obtain ⟨XL, hXL⟩ : ∃ W, Xc_list.alloc (.cells #[.string ⟨#[97]⟩, .string ⟨#[]⟩] 47) = W := ⟨_, rfl⟩
  have HWL := Lib.hid (HWc_list.out.below (hXL ▸ (Below.refl _ _).alloc (Nat.le_refl _) _ : Below Xc_list.heap.size Xc_list XL))
  have HRL := Lib.hid (show XL.heap[bL]? = some (.cells #[.string ⟨#[97]⟩, .string ⟨#[]⟩] 47 (0, 0)) by rw [← hbL, ← hXL]; exact new_block _ _ _)
  have HNL := Lib.hid (show bL ≠ b6 by have h1 := (Array.getElem?_eq_some_iff.1 HWc_list.out.h6).1; omega)
  have HXL := Lib.hid (And.intro hXL hbL)
  clear hXL hbL
  have y23_list : (Xc_list.alloc (.cells #[.string ⟨#[97]⟩, .string ⟨#[]⟩] 47)).cell? ⟨b6, 23, none⟩ = some (.slice P1.lp n.ls.length P1.lk) := by rw [HXL.out.1]; exact (cell_at HWL.out.h6 23).trans A23.out
  have f23_list : (Xc_list.alloc (.cells #[.string ⟨#[97]⟩, .string ⟨#[]⟩] 47)).frozen? ⟨b6, 23, none⟩ = false := by rw [HXL.out.1]; exact frozen_at HWL.out.h6 23
  go_upto_region 22 with fail
  rw [HXL.out.1, HXL.out.2]
  have HWv_list := Lib.hid (HWL.out.lay 23 [.slice (some ⟨bL, 0, none⟩) 1 1])
  obtain ⟨cv_list, hcv⟩ : ∃ x, setsA c5 23 [.slice (some ⟨bL, 0, none⟩) 1 1] = x := ⟨_, rfl⟩
  have HCV_list := Lib.hid (show (ntList { n with ls := [([97], [])] } ({ P1 with lp := some ⟨bL, 0, none⟩, lk := 1 })).toArray = cv_list by rw [← hcv, ← HC5.out]; simp only [setsA, ntList, List.setIfInBounds_toArray, List.set_cons_zero, List.set_cons_succ]; try rfl)
  obtain ⟨Xv_list, hXv⟩ : ∃ W, layCells XL b6 23 [.slice (some ⟨bL, 0, none⟩) 1 1] = W := ⟨_, rfl⟩
  rw [hcv, hXv] at HWv_list
  rw [show (XL.setCell ⟨b6, 23, none⟩ (.slice (some ⟨bL, 0, none⟩) 1 1)) = Xv_list from hXv]
  have HRLv := Lib.hid (show Xv_list.heap[bL]? = some (.cells #[.string ⟨#[97]⟩, .string ⟨#[]⟩] 47 (0, 0)) by rw [← hXv, layCells_other _ _ _ _ _ HNL.out]; exact HRL.out)
  have HRC := Lib.hid (show Recs Xv_list (some ⟨bL, 0, none⟩) [([97], [])] from Or.inr ⟨bL, 0, rfl, (Array.getElem?_eq_some_iff.1 HRLv.out).1, fun j hj => by obtain rfl : j = 0 := (by simpa using hj); exact ⟨cell_at HRLv.out 0, cell_at HRLv.out 1⟩⟩)
  have HSZ_list := Lib.hid (show cv_list.size = 27 by rw [← HCV_list.out]; rfl)
  have HI_list := Lib.hid (show (Try.prog.info? 43).map (·.size) = some cv_list.size by rw [HSZ_list.out]; exact info_note)
  have CMv_list := Lib.hid (show ∀ w', Below Xv_list.heap.size Xv_list w' → Calls Try.prog 8 #[.agg cv_list] w' fun e w'' => e = .returned (.bool (q8 || q9)) ∧ Below w'.heap.size w' w'' from fun w' hb => by
    have i := HI4.out.below (HWv_list.out.below hb).bl
    have := HMAY.out { n with ls := [([97], [])] } ({ P1 with lp := some ⟨bL, 0, none⟩, lk := 1 }) w' (q8 || q9) ⟨i.rs, HRC.out.below hb, i.la, i.les, i.sh⟩ (few_sm (n := { n with ls := [([97], [])] }) ⟨HFW.out.rl, by simp, HFW.out.al, HFW.out.ael, HFW.out.hl⟩) (by rw [var_list HM.out HLO.out HFW.out, HKD.out, HQ8.out, HQ9.out])
    unfold ntV at this
    rw [HCV_list.out] at this
    exact this)
  clear hcv hXv y23_list f23_list
  refine wp_region_mono mixedAt (by kernel_rfl) [VP.eq (.agg cv_list), VP.eq (.bool (q8 || q9)), VP.eq (.pointer (some ⟨b5, 0, none⟩)), VP.eq (.int .i64 kd), VP.eq (.bool q8), VP.eq (.bool q8), VP.eq ((bif !q8 then .pointer (some ⟨b5, 0, none⟩) else undef)), VP.eq ((bif !q8 then .int .i64 kd else undef)), VP.eq ((bif !q8 then .bool q9 else undef)), VP.eq (.bool (q8 || q9)), VP.eq (.bool true), VP.eq (.bool true)] ?_ ?_
  · intro i opr Ls vals w' hi hL' hdep hC hB hV
    have hlt : i < 12 := by have := (List.getElem?_eq_some_iff.1 hi).1; simpa using this
    generalize hA : frA _ _ Ls vals = a'
    have hT5 : a'.tmps.getD 5 undef = .pointer (some ⟨b5, 0, none⟩) := by rw [← hA, frA_base (by kernel_rfl)]; rfl
    have hT6 : a'.tmps.getD 6 undef = .pointer (some ⟨b6, 0, none⟩) := by rw [← hA, frA_base (by kernel_rfl)]; rfl
    have hD := Lib.hid (fun k t (hk : Ls k = true) (ht : dstOf _ k = some t) => hA ▸ frA_done (by kernel_rfl) (vals := vals) hk ht)
    clear hA
    have hwa := HWv_list.out.below hB
    have HWA := Lib.hid hwa
    have c0 := (cell_at hwa.h5 0).trans A0.out
    clear hwa
    obtain rfl | rfl | rfl | rfl | rfl | rfl | rfl | rfl | rfl | rfl | rfl | rfl : i = 0 ∨ i = 1 ∨ i = 2 ∨ i = 3 ∨ i = 4 ∨ i = 5 ∨ i = 6 ∨ i = 7 ∨ i = 8 ∨ i = 9 ∨ i = 10 ∨ i = 11 := by omega
    all_goals
      injection hi with hi
      subst hi
      try simp [Region.binds] at hdep
    · skip
      exact step_run rfl (v := .agg cv_list) (w' := w') (run_load_row 43 (.tmp 6) rfl b6 hT6 43 cv_list (0, 0) _ HWA.out.h6 Try.underlying43 rfl HI_list.out) ⟨rfl, Below.refl _ _⟩
    · skip
      have d72 := hD.out 0 72 (by simp [hdep]) rfl
      rw [show vals 0 = _ from hV 0 (by simp [hdep])] at d72
      change _ = (.agg cv_list : Value) at d72
      exact step_enter rfl (f := 8) (args := #[.agg cv_list]) (w' := w') (by go_simp) ((CMv_list.out w' hB).mono fun e w'' ⟨he, hb⟩ => ⟨_, he, rfl, hb⟩)
    · skip
      exact step_run rfl (w' := w') (by go_simp) ⟨rfl, Below.refl _ _⟩
    · skip
      have d74 := hD.out 2 74 (by simp [hdep]) rfl
      rw [show vals 2 = _ from hV 2 (by simp [hdep])] at d74
      change _ = (.pointer (some ⟨b5, 0, none⟩) : Value) at d74
      exact step_run rfl (w' := w') (by go_simp) ⟨rfl, Below.refl _ _⟩
    · skip
      have d75 := hD.out 3 75 (by simp [hdep]) rfl
      rw [show vals 3 = _ from hV 3 (by simp [hdep])] at d75
      change _ = (.int .i64 kd : Value) at d75
      have e0 := HQ8.out
      exact step_run rfl (w' := w') (by go_simp) ⟨rfl, Below.refl _ _⟩
    · skip
      have d76 := hD.out 4 76 (by simp [hdep]) rfl
      rw [show vals 4 = _ from hV 4 (by simp [hdep])] at d76
      change _ = (.bool q8 : Value) at d76
      exact step_run rfl (w' := w') (by go_simp) ⟨rfl, Below.refl _ _⟩
    · skip
      have d77 := hD.out 5 77 (by simp [hdep]) rfl
      rw [show vals 5 = _ from hV 5 (by simp [hdep])] at d77
      change _ = (.bool q8 : Value) at d77
      cases q8
      all_goals
        first
          | exact step_shut (wanted_shut rfl rfl d77 (by decide)) ⟨rfl, Below.refl _ _⟩
          | exact step_run' (wanted_open rfl rfl d77) (w' := w') (by go_simp) ⟨rfl, Below.refl _ _⟩
    · skip
      have d78 := hD.out 6 78 (by simp [hdep]) rfl
      rw [show vals 6 = _ from hV 6 (by simp [hdep])] at d78
      change _ = ((bif !q8 then .pointer (some ⟨b5, 0, none⟩) else undef) : Value) at d78
      have d77 := hD.out 5 77 (by simp [hdep]) rfl
      rw [show vals 5 = _ from hV 5 (by simp [hdep])] at d77
      change _ = (.bool q8 : Value) at d77
      cases q8
      all_goals
        first
          | exact step_shut (wanted_shut rfl rfl d77 (by decide)) ⟨rfl, Below.refl _ _⟩
          | exact step_run' (wanted_open rfl rfl d77) (w' := w') (by go_simp) ⟨rfl, Below.refl _ _⟩
    · skip
      have d79 := hD.out 7 79 (by simp [hdep]) rfl
      rw [show vals 7 = _ from hV 7 (by simp [hdep])] at d79
      change _ = ((bif !q8 then .int .i64 kd else undef) : Value) at d79
      have d77 := hD.out 5 77 (by simp [hdep]) rfl
      rw [show vals 5 = _ from hV 5 (by simp [hdep])] at d77
      change _ = (.bool q8 : Value) at d77
      have e0 := HQ9.out
      cases q8
      all_goals
        first
          | exact step_shut (wanted_shut rfl rfl d77 (by decide)) ⟨rfl, Below.refl _ _⟩
          | exact step_run' (wanted_open rfl rfl d77) (w' := w') (by go_simp) ⟨rfl, Below.refl _ _⟩
    · skip
      have d77 := hD.out 5 77 (by simp [hdep]) rfl
      rw [show vals 5 = _ from hV 5 (by simp [hdep])] at d77
      change _ = (.bool q8 : Value) at d77
      have d80 := hD.out 8 80 (by simp [hdep]) rfl
      rw [show vals 8 = _ from hV 8 (by simp [hdep])] at d80
      change _ = ((bif !q8 then .bool q9 else undef) : Value) at d80
      cases q8 <;> cases q9
      all_goals
        exact step_run rfl (w' := w') (by go_simp) ⟨rfl, Below.refl _ _⟩
    · skip
      have d73 := hD.out 1 73 (by simp [hdep]) rfl
      rw [show vals 1 = _ from hV 1 (by simp [hdep])] at d73
      change _ = (.bool (q8 || q9) : Value) at d73
      have d81 := hD.out 9 81 (by simp [hdep]) rfl
      rw [show vals 9 = _ from hV 9 (by simp [hdep])] at d81
      change _ = (.bool (q8 || q9) : Value) at d81
      cases q8 <;> cases q9
      all_goals
        exact step_run rfl (w' := w') (by go_simp) ⟨rfl, Below.refl _ _⟩
    · skip
      have d82 := hD.out 10 82 (by simp [hdep]) rfl
      rw [show vals 10 = _ from hV 10 (by simp [hdep])] at d82
      change _ = (.bool true : Value) at d82
      exact step_run rfl (w' := w') (by go_simp) ⟨rfl, Below.refl _ _⟩
  intro vals Xe_list hB hV
  have e0 : vals 0 = _ := hV 0 (by decide)
  change _ = (.agg cv_list : Value) at e0
  have e1 : vals 1 = _ := hV 1 (by decide)
  change _ = (.bool (q8 || q9) : Value) at e1
  have e2 : vals 2 = _ := hV 2 (by decide)
  change _ = (.pointer (some ⟨b5, 0, none⟩) : Value) at e2
  have e3 : vals 3 = _ := hV 3 (by decide)
  change _ = (.int .i64 kd : Value) at e3
  have e4 : vals 4 = _ := hV 4 (by decide)
  change _ = (.bool q8 : Value) at e4
  have e5 : vals 5 = _ := hV 5 (by decide)
  change _ = (.bool q8 : Value) at e5
  have e6 : vals 6 = _ := hV 6 (by decide)
  change _ = ((bif !q8 then .pointer (some ⟨b5, 0, none⟩) else undef) : Value) at e6
  have e7 : vals 7 = _ := hV 7 (by decide)
  change _ = ((bif !q8 then .int .i64 kd else undef) : Value) at e7
  have e8 : vals 8 = _ := hV 8 (by decide)
  change _ = ((bif !q8 then .bool q9 else undef) : Value) at e8
  have e9 : vals 9 = _ := hV 9 (by decide)
  change _ = (.bool (q8 || q9) : Value) at e9
  have e10 : vals 10 = _ := hV 10 (by decide)
  change _ = (.bool true : Value) at e10
  have e11 : vals 11 = _ := hV 11 (by decide)
  change _ = (.bool true : Value) at e11
  have HWe_list := Lib.hid (HWv_list.out.below hB)
  simp only [putsL, Act.put, List.setIfInBounds_toArray, List.set_cons_zero, List.set_cons_succ, e0, e1, e2, e3, e4, e5, e6, e7, e8, e9, e10, e11]
  clear hB hV e0 e1 e2 e3 e4 e5 e6 e7 e8 e9 e10 e11
  have HOLD_map := Lib.hid (show cv_list.size = c5.size by rw [HS5.out]; exact HSZ_list.out)
  go_upto_region 24 with (first | (with_reducible refine wpList_load_row rfl 43 (.tmp 5) rfl b5 rfl 43 c5 (0, 0) _ HWe_list.out.h5 Try.underlying43 rfl HI5.out ?_) | (with_reducible refine wpList_store_row rfl 43 (.tmp 6) (.tmp 83) rfl b6 c5 rfl rfl 43 cv_list HWe_list.out.h6 HI5.out HOLD_map.out HO5.out ?_))
  have HWc_map := Lib.hid (HWe_list.out.row HOLD_map.out.symm)
  obtain ⟨Xc_map, hXc⟩ : ∃ W, Xe_list.setRow b6 c5 = W := ⟨_, rfl⟩
  rw [hXc] at HWc_map ⊢
  clear hXc
  have CFA := Lib.hid (first_any 1 Xc_map)
  go_wp2_with fail
  refine CFA.out.mono ?_
  rintro e XM ⟨pM, cM, rfl, hrM, htM, hbM⟩
  have HWM := Lib.hid (HWc_map.out.below hbM)
  have HRM := Lib.hid (And.intro hrM htM)
  clear hrM htM hbM CFA
  have y25_map := (cell_at HWM.out.h6 25).trans A25.out
  have f25_map := frozen_at HWM.out.h6 25
  have y26_map := (cell_at HWM.out.h6 26).trans A26.out
  have f26_map := frozen_at HWM.out.h6 26
  go_upto_region 25 with fail
  have HWv_map := Lib.hid (HWM.out.lay 25 [.int .i64 1, .slice pM 1 cM])
  obtain ⟨cv_map, hcv⟩ : ∃ x, setsA c5 25 [.int .i64 1, .slice pM 1 cM] = x := ⟨_, rfl⟩
  have HCV_map := Lib.hid (show (ntList { n with ae := 1, sh := sd1 1 } ({ P1 with hp := pM, hk := cM })).toArray = cv_map by rw [← hcv, ← HC5.out]; simp only [setsA, ntList, List.setIfInBounds_toArray, List.set_cons_zero, List.set_cons_succ]; try rfl)
  obtain ⟨Xv_map, hXv⟩ : ∃ W, layCells XM b6 25 [.int .i64 1, .slice pM 1 cM] = W := ⟨_, rfl⟩
  rw [hcv, hXv] at HWv_map
  rw [show ((XM.setCell ⟨b6, 25, none⟩ (.int .i64 1)).setCell ⟨b6, 26, none⟩ (.slice pM 1 cM)) = Xv_map from hXv]
  have HRMv := Lib.hid (show RowK KS Xv_map pM (sd1 1) by rw [← hXv]; exact HRM.out.1.layCells (HRM.out.2.ne HWM.out.h6 (by decide)) _ _)
  have HSZ_map := Lib.hid (show cv_map.size = 27 by rw [← HCV_map.out]; rfl)
  have HI_map := Lib.hid (show (Try.prog.info? 43).map (·.size) = some cv_map.size by rw [HSZ_map.out]; exact info_note)
  have CMv_map := Lib.hid (show ∀ w', Below Xv_map.heap.size Xv_map w' → Calls Try.prog 8 #[.agg cv_map] w' fun e w'' => e = .returned (.bool (q4 || q6)) ∧ Below w'.heap.size w' w'' from fun w' hb => by
    have i := HI4.out.below (HWv_map.out.below hb).bl
    have := HMAY.out { n with ae := 1, sh := sd1 1 } ({ P1 with hp := pM, hk := cM }) w' (q4 || q6) ⟨i.rs, i.ls, i.la, i.les, HRMv.out.below hb⟩ (few_sm (n := { n with ae := 1, sh := sd1 1 }) ⟨HFW.out.rl, HFW.out.ll, HFW.out.al, HFW.out.ael, by simp [sd1]⟩) (by rw [var_map HM.out HLO.out HFW.out, HKD.out, HQ4.out, HQ6.out])
    unfold ntV at this
    rw [HCV_map.out] at this
    exact this)
  clear hcv hXv y25_map f25_map y26_map f26_map
  refine wp_region_mono mixedAt (by kernel_rfl) [VP.eq (.agg cv_map), VP.eq (.bool (q4 || q6)), VP.eq (.pointer (some ⟨b5, 0, none⟩)), VP.eq (.int .i64 kd), VP.eq (.bool q4), VP.eq (.bool q4), VP.eq ((bif !q4 then .pointer (some ⟨b5, 0, none⟩) else undef)), VP.eq ((bif !q4 then .int .i64 kd else undef)), VP.eq ((bif !q4 then .bool q6 else undef)), VP.eq (.bool (q4 || q6)), VP.eq (.bool true), VP.eq (.bool true)] ?_ ?_
  · intro i opr Ls vals w' hi hL' hdep hC hB hV
    have hlt : i < 12 := by have := (List.getElem?_eq_some_iff.1 hi).1; simpa using this
    generalize hA : frA _ _ Ls vals = a'
    have hT5 : a'.tmps.getD 5 undef = .pointer (some ⟨b5, 0, none⟩) := by rw [← hA, frA_base (by kernel_rfl)]; rfl
    have hT6 : a'.tmps.getD 6 undef = .pointer (some ⟨b6, 0, none⟩) := by rw [← hA, frA_base (by kernel_rfl)]; rfl
    have hD := Lib.hid (fun k t (hk : Ls k = true) (ht : dstOf _ k = some t) => hA ▸ frA_done (by kernel_rfl) (vals := vals) hk ht)
    clear hA
    have hwa := HWv_map.out.below hB
    have HWA := Lib.hid hwa
    have c0 := (cell_at hwa.h5 0).trans A0.out
    clear hwa
    obtain rfl | rfl | rfl | rfl | rfl | rfl | rfl | rfl | rfl | rfl | rfl | rfl : i = 0 ∨ i = 1 ∨ i = 2 ∨ i = 3 ∨ i = 4 ∨ i = 5 ∨ i = 6 ∨ i = 7 ∨ i = 8 ∨ i = 9 ∨ i = 10 ∨ i = 11 := by omega
    all_goals
      injection hi with hi
      subst hi
      try simp [Region.binds] at hdep
    · skip
      exact step_run rfl (v := .agg cv_map) (w' := w') (run_load_row 43 (.tmp 6) rfl b6 hT6 43 cv_map (0, 0) _ HWA.out.h6 Try.underlying43 rfl HI_map.out) ⟨rfl, Below.refl _ _⟩
    · skip
      have d86 := hD.out 0 86 (by simp [hdep]) rfl
      rw [show vals 0 = _ from hV 0 (by simp [hdep])] at d86
      change _ = (.agg cv_map : Value) at d86
      exact step_enter rfl (f := 8) (args := #[.agg cv_map]) (w' := w') (by go_simp) ((CMv_map.out w' hB).mono fun e w'' ⟨he, hb⟩ => ⟨_, he, rfl, hb⟩)
    · skip
      exact step_run rfl (w' := w') (by go_simp) ⟨rfl, Below.refl _ _⟩
    · skip
      have d88 := hD.out 2 88 (by simp [hdep]) rfl
      rw [show vals 2 = _ from hV 2 (by simp [hdep])] at d88
      change _ = (.pointer (some ⟨b5, 0, none⟩) : Value) at d88
      exact step_run rfl (w' := w') (by go_simp) ⟨rfl, Below.refl _ _⟩
    · skip
      have d89 := hD.out 3 89 (by simp [hdep]) rfl
      rw [show vals 3 = _ from hV 3 (by simp [hdep])] at d89
      change _ = (.int .i64 kd : Value) at d89
      have e0 := HQ4.out
      exact step_run rfl (w' := w') (by go_simp) ⟨rfl, Below.refl _ _⟩
    · skip
      have d90 := hD.out 4 90 (by simp [hdep]) rfl
      rw [show vals 4 = _ from hV 4 (by simp [hdep])] at d90
      change _ = (.bool q4 : Value) at d90
      exact step_run rfl (w' := w') (by go_simp) ⟨rfl, Below.refl _ _⟩
    · skip
      have d91 := hD.out 5 91 (by simp [hdep]) rfl
      rw [show vals 5 = _ from hV 5 (by simp [hdep])] at d91
      change _ = (.bool q4 : Value) at d91
      cases q4
      all_goals
        first
          | exact step_shut (wanted_shut rfl rfl d91 (by decide)) ⟨rfl, Below.refl _ _⟩
          | exact step_run' (wanted_open rfl rfl d91) (w' := w') (by go_simp) ⟨rfl, Below.refl _ _⟩
    · skip
      have d92 := hD.out 6 92 (by simp [hdep]) rfl
      rw [show vals 6 = _ from hV 6 (by simp [hdep])] at d92
      change _ = ((bif !q4 then .pointer (some ⟨b5, 0, none⟩) else undef) : Value) at d92
      have d91 := hD.out 5 91 (by simp [hdep]) rfl
      rw [show vals 5 = _ from hV 5 (by simp [hdep])] at d91
      change _ = (.bool q4 : Value) at d91
      cases q4
      all_goals
        first
          | exact step_shut (wanted_shut rfl rfl d91 (by decide)) ⟨rfl, Below.refl _ _⟩
          | exact step_run' (wanted_open rfl rfl d91) (w' := w') (by go_simp) ⟨rfl, Below.refl _ _⟩
    · skip
      have d93 := hD.out 7 93 (by simp [hdep]) rfl
      rw [show vals 7 = _ from hV 7 (by simp [hdep])] at d93
      change _ = ((bif !q4 then .int .i64 kd else undef) : Value) at d93
      have d91 := hD.out 5 91 (by simp [hdep]) rfl
      rw [show vals 5 = _ from hV 5 (by simp [hdep])] at d91
      change _ = (.bool q4 : Value) at d91
      have e0 := HQ6.out
      cases q4
      all_goals
        first
          | exact step_shut (wanted_shut rfl rfl d91 (by decide)) ⟨rfl, Below.refl _ _⟩
          | exact step_run' (wanted_open rfl rfl d91) (w' := w') (by go_simp) ⟨rfl, Below.refl _ _⟩
    · skip
      have d91 := hD.out 5 91 (by simp [hdep]) rfl
      rw [show vals 5 = _ from hV 5 (by simp [hdep])] at d91
      change _ = (.bool q4 : Value) at d91
      have d94 := hD.out 8 94 (by simp [hdep]) rfl
      rw [show vals 8 = _ from hV 8 (by simp [hdep])] at d94
      change _ = ((bif !q4 then .bool q6 else undef) : Value) at d94
      cases q4 <;> cases q6
      all_goals
        exact step_run rfl (w' := w') (by go_simp) ⟨rfl, Below.refl _ _⟩
    · skip
      have d87 := hD.out 1 87 (by simp [hdep]) rfl
      rw [show vals 1 = _ from hV 1 (by simp [hdep])] at d87
      change _ = (.bool (q4 || q6) : Value) at d87
      have d95 := hD.out 9 95 (by simp [hdep]) rfl
      rw [show vals 9 = _ from hV 9 (by simp [hdep])] at d95
      change _ = (.bool (q4 || q6) : Value) at d95
      cases q4 <;> cases q6
      all_goals
        exact step_run rfl (w' := w') (by go_simp) ⟨rfl, Below.refl _ _⟩
    · skip
      have d96 := hD.out 10 96 (by simp [hdep]) rfl
      rw [show vals 10 = _ from hV 10 (by simp [hdep])] at d96
      change _ = (.bool true : Value) at d96
      exact step_run rfl (w' := w') (by go_simp) ⟨rfl, Below.refl _ _⟩
  intro vals Xe_map hB hV
  have e0 : vals 0 = _ := hV 0 (by decide)
  change _ = (.agg cv_map : Value) at e0
  have e1 : vals 1 = _ := hV 1 (by decide)
  change _ = (.bool (q4 || q6) : Value) at e1
  have e2 : vals 2 = _ := hV 2 (by decide)
  change _ = (.pointer (some ⟨b5, 0, none⟩) : Value) at e2
  have e3 : vals 3 = _ := hV 3 (by decide)
  change _ = (.int .i64 kd : Value) at e3
  have e4 : vals 4 = _ := hV 4 (by decide)
  change _ = (.bool q4 : Value) at e4
  have e5 : vals 5 = _ := hV 5 (by decide)
  change _ = (.bool q4 : Value) at e5
  have e6 : vals 6 = _ := hV 6 (by decide)
  change _ = ((bif !q4 then .pointer (some ⟨b5, 0, none⟩) else undef) : Value) at e6
  have e7 : vals 7 = _ := hV 7 (by decide)
  change _ = ((bif !q4 then .int .i64 kd else undef) : Value) at e7
  have e8 : vals 8 = _ := hV 8 (by decide)
  change _ = ((bif !q4 then .bool q6 else undef) : Value) at e8
  have e9 : vals 9 = _ := hV 9 (by decide)
  change _ = (.bool (q4 || q6) : Value) at e9
  have e10 : vals 10 = _ := hV 10 (by decide)
  change _ = (.bool true : Value) at e10
  have e11 : vals 11 = _ := hV 11 (by decide)
  change _ = (.bool true : Value) at e11
  have HWe_map := Lib.hid (HWv_map.out.below hB)
  simp only [putsL, Act.put, List.setIfInBounds_toArray, List.set_cons_zero, List.set_cons_succ, e0, e1, e2, e3, e4, e5, e6, e7, e8, e9, e10, e11]
  clear hB hV e0 e1 e2 e3 e4 e5 e6 e7 e8 e9 e10 e11
  have HOLD_kind := Lib.hid (show cv_map.size = c5.size by rw [HS5.out]; exact HSZ_map.out)
  go_upto_region 27 with (first | (with_reducible refine wpList_load_row rfl 43 (.tmp 5) rfl b5 rfl 43 c5 (0, 0) _ HWe_map.out.h5 Try.underlying43 rfl HI5.out ?_) | (with_reducible refine wpList_store_row rfl 43 (.tmp 6) (.tmp 97) rfl b6 c5 rfl rfl 43 cv_map HWe_map.out.h6 HI5.out HOLD_kind.out HO5.out ?_))
  have HWc_kind := Lib.hid (HWe_map.out.row HOLD_kind.out.symm)
  obtain ⟨Xc_kind, hXc⟩ : ∃ W, Xe_map.setRow b6 c5 = W := ⟨_, rfl⟩
  rw [hXc] at HWc_kind ⊢
  clear hXc
  have y0 := (cell_at HWc_kind.out.h6 0).trans A0.out
  have f0 := frozen_at HWc_kind.out.h6 0
  go_upto_region 28 with fail
  have HWv_kind := Lib.hid (HWc_kind.out.lay 0 [.int .i64 kind])
  obtain ⟨cv_kind, hcv⟩ : ∃ x, setsA c5 0 [.int .i64 kind] = x := ⟨_, rfl⟩
  have HCV_kind := Lib.hid (show (ntList { n with kd := kind } P1).toArray = cv_kind by rw [← hcv, ← HC5.out]; simp only [setsA, ntList, List.setIfInBounds_toArray, List.set_cons_zero])
  obtain ⟨Xv_kind, hXv⟩ : ∃ W, layCells Xc_kind b6 0 [.int .i64 kind] = W := ⟨_, rfl⟩
  rw [hcv, hXv] at HWv_kind
  rw [show Xc_kind.setCell ⟨b6, 0, none⟩ (.int .i64 kind) = Xv_kind from hXv]
  have HI_kind := Lib.hid (show (Try.prog.info? 43).map (·.size) = some cv_kind.size by rw [← HCV_kind.out]; exact info_note)
  have CMv := Lib.hid (fun (hk : ¬ (1 ≤ kind ∧ kind ≤ 12)) => show Calls Try.prog 8 #[.agg cv_kind] Xv_kind fun e w'' => e = .returned (.bool false) ∧ Below Xv_kind.heap.size Xv_kind w'' from by
    have i := HI4.out.below HWv_kind.out.bl
    have := HMAY.out { n with kd := kind } P1 Xv_kind false ⟨i.rs, i.ls, i.la, i.les, i.sh⟩ (few_sm (n := { n with kd := kind }) ⟨HFW.out.rl, HFW.out.ll, HFW.out.al, HFW.out.ael, HFW.out.hl⟩) (var_kind hk)
    unfold ntV at this
    rw [HCV_kind.out] at this
    exact this)
  have HEND := Lib.hid (show Below w.heap.size w Xv_kind from HBW.out.trans ((HBB4.out.trans (HWv_kind.out.bl.mono HBB4.out.size)).mono HBW.out.size))
  clear hcv hXv y0 f0
  by_cases hk1 : 1 ≤ kind
  · by_cases hk2 : kind ≤ 12
    · go_wp2_with fail
      go_ret
      exact ⟨rfl, HEND.out⟩
    · have CV := Lib.hid (CMv.out (fun h => by omega))
      go_wp2_with (refine wpList_load_rowW (by simp [Region.wanted, yielded, Act.put]) 43 (.tmp 6) rfl b6 rfl 43 cv_kind (0, 0) _ HWv_kind.out.h6 Try.underlying43 rfl HI_kind.out ?_)
      refine CV.out.mono ?_
      rintro e wz ⟨rfl, hbz⟩
      have HBZ := Lib.hid (HEND.out.trans (hbz.mono HEND.out.size))
      clear hbz
      go_wp2_with fail
      go_ret
      exact ⟨rfl, HBZ.out⟩
  · have CV := Lib.hid (CMv.out (fun h => by omega))
    go_wp2_with (refine wpList_load_rowW (by simp [Region.wanted, yielded, Act.put]) 43 (.tmp 6) rfl b6 rfl 43 cv_kind (0, 0) _ HWv_kind.out.h6 Try.underlying43 rfl HI_kind.out ?_)
    refine CV.out.mono ?_
    rintro e wz ⟨rfl, hbz⟩
    have HBZ := Lib.hid (HEND.out.trans (hbz.mono HEND.out.size))
    clear hbz
    go_wp2_with fail
    go_ret
    exact ⟨rfl, HBZ.out⟩
end Go.Proofs.Ytfadpiipigkocaa
