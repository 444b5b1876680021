/-
  Layer note: fits.
-/
import Derived.Test.YtfadpiipigkocaaMg18
namespace Go.Proofs.Ytfadpiipigkocaa
open Go.RowKit Go.Gz


set_option maxHeartbeats 16000000 in
set_option maxRecDepth 100000 in
theorem fits_3 (n : NtL) (P : NtP) (w : World) (hkd : n.kd = 3) : Calls Try.prog 23 #[ntV n P] w fun e w' => e = .returned (.bool (bareB n)) ∧ Below w.heap.size w w' := by
  have CB := Lib.hid (fun w1 => isBare_any n P w1)
  generalize bareB n = R at CB ⊢
  unfold ntV at CB ⊢
  obtain ⟨c, hc⟩ : ∃ c, (ntList n P).toArray = c := ⟨_, rfl⟩
  obtain ⟨cf, hcf⟩ : ∃ cf, (ntList n P).toArray = cf := ⟨_, rfl⟩
  rw [hcf] at CB
  have HEQ := Lib.hid (show c = cf from by subst hc hcf; rfl)
  have hcs : c.size = 27 := by rw [← hc]; rfl
  have HSZ := Lib.hid (show (Try.prog.info? 43).map (·.size) = some c.size by rw [hcs]; exact info_note)
  have HSF := Lib.hid (show (Try.prog.info? 43).map (·.size) = some cf.size by rw [← hcf]; exact info_note)
  have HONE := Lib.hid (show c.all (·.oneCell') = true by rw [← hc]; exact nt_one n P)
  have C0 := Lib.hid (show c[0]? = some (.int .i64 3) by rw [← hc]; exact congrArg (fun x => some (Value.int .i64 x)) hkd)
  rw [hc]
  obtain ⟨W0, hW0⟩ : ∃ W0, w.alloc (.cells c 43) = W0 := ⟨_, rfl⟩
  obtain ⟨W1, hW1⟩ : ∃ W1, W0.alloc (.cells c 43) = W1 := ⟨_, rfl⟩
  have hb0 : Below w.heap.size w W0 := hW0 ▸ (Below.refl _ _).alloc (Nat.le_refl _) _
  have hz0 : W0.heap.size = w.heap.size + 1 := by rw [← hW0]; simp
  have hz1 : W1.heap.size = w.heap.size + 2 := by rw [← hW1, World.size_alloc, hz0]
  have hb1 : Below W0.heap.size W0 W1 := hW1 ▸ (Below.refl _ _).alloc (Nat.le_refl _) _
  have hk0 : W0.heap[w.heap.size]? = some (.cells c 43 (0, 0)) := hW0 ▸ new_block w _ _
  have hk1 : W1.heap[w.heap.size]? = some (.cells c 43 (0, 0)) := by rw [hb1.block _ (by omega)]; exact hk0
  have hj1 : W1.heap[w.heap.size + 1]? = some (.cells c 43 (0, 0)) := by rw [← hz0, ← hW1]; exact new_block W0 _ _
  have HST := Lib.hid (note_store W0 c (w.heap.size + 1) hz0 hcs)
  rw [hW1] at HST
  have HB := Lib.hid (hb0.trans (hb1.mono (by omega)))
  have HW0 := Lib.hid hW0
  have HZ0 := Lib.hid hz0
  have HZ1 := Lib.hid hz1
  have HK0 := Lib.hid hk0
  have HK1 := Lib.hid hk1
  have HJ1 := Lib.hid hj1
  have t0 := (cell_at hk1 0).trans C0.out
  clear hc hcf hcs hW0 hW1 hb0 hz0 hb1 hk0 hk1 hj1 hz1 hkd
  go_enter Try.func23, Try.ntmps23
  go_upto_region 1 with fail
  rw [HW0.out]
  have hzz := HZ0.out
  go_upto_region 2 with (first | (with_reducible refine wpList_load_row rfl 43 (.tmp 1) rfl w.heap.size rfl 43 c (0, 0) _ HK0.out Try.underlying43 rfl HSZ.out ?_) | (with_reducible refine wpList_store_row rfl 43 (.tmp 3) (.tmp 4) rfl (w.heap.size + 1) c rfl rfl 43 noteZ HST.out.1 HSZ.out HST.out.2.1 HONE.out ?_))
  rw [HST.out.2.2]
  clear hzz
  have HFIN := Lib.hid (show (W1).heap[w.heap.size + 1]? = some (.cells cf 43 (0, 0)) by rw [← HEQ.out]; exact HJ1.out)
  have HBF := Lib.hid (show Below w.heap.size w (W1) from HB.out)
  have CB2 := Lib.hid (CB.out (W1))
  go_wp2_with (with_reducible refine wpList_load_row rfl 43 (.tmp 3) rfl (w.heap.size + 1) rfl 43 cf (0, 0) _ HFIN.out Try.underlying43 rfl HSF.out ?_)
  refine CB2.out.mono ?_
  rintro e w3 ⟨rfl, hb3⟩
  have HE := Lib.hid (HBF.out.trans (hb3.mono HBF.out.size))
  clear hb3
  go_wp2_with fail
  go_ret
  exact ⟨rfl, HE.out⟩

set_option maxHeartbeats 16000000 in
set_option maxRecDepth 100000 in
theorem fits_4 (n : NtL) (P : NtP) (w : World) (hkd : n.kd = 4) (hp : RowK KS w P.hp n.sh) (hl : n.sh.length ≤ 1000000) : Calls Try.prog 23 #[ntV n P] w fun e w' => e = .returned (.bool (mayAB 5 n.ae n.sh && bareB { n with ae := 0, sh := [] })) ∧ Below w.heap.size w w' := by
  have CB := Lib.hid (fun w1 => isBare_any ({ n with ae := 0, sh := [] }) ({ P with hp := none, hk := 0 }) w1)
  have CM := Lib.hid (fun w1 hb => may_any n.ae n.sh P.hp P.hk 5 w1 (hp.below hb) hl)
  generalize mayAB 5 n.ae n.sh = mb at CM ⊢
  generalize bareB ({ n with ae := 0, sh := [] }) = R at CB ⊢
  unfold ntV at CB ⊢
  obtain ⟨c, hc⟩ : ∃ c, (ntList n P).toArray = c := ⟨_, rfl⟩
  obtain ⟨cf, hcf⟩ : ∃ cf, (ntList ({ n with ae := 0, sh := [] }) ({ P with hp := none, hk := 0 })).toArray = cf := ⟨_, rfl⟩
  rw [hcf] at CB
  have HEQ := Lib.hid (show ((c).setIfInBounds 25 (.int .i64 0)).setIfInBounds 26 (.slice none 0 0) = cf from by subst hc hcf; rfl)
  have hcs : c.size = 27 := by rw [← hc]; rfl
  have HSZ := Lib.hid (show (Try.prog.info? 43).map (·.size) = some c.size by rw [hcs]; exact info_note)
  have HSF := Lib.hid (show (Try.prog.info? 43).map (·.size) = some cf.size by rw [← hcf]; exact info_note)
  have HONE := Lib.hid (show c.all (·.oneCell') = true by rw [← hc]; exact nt_one n P)
  have C0 := Lib.hid (show c[0]? = some (.int .i64 4) by rw [← hc]; exact congrArg (fun x => some (Value.int .i64 x)) hkd)
  have C25 := Lib.hid (show c[25]? = some (.int .i64 n.ae) by rw [← hc]; rfl)
  have C26 := Lib.hid (show c[26]? = some (.slice P.hp n.sh.length P.hk) by rw [← hc]; rfl)
  rw [hc]
  obtain ⟨W0, hW0⟩ : ∃ W0, w.alloc (.cells c 43) = W0 := ⟨_, rfl⟩
  obtain ⟨W1, hW1⟩ : ∃ W1, W0.alloc (.cells c 43) = W1 := ⟨_, rfl⟩
  have hb0 : Below w.heap.size w W0 := hW0 ▸ (Below.refl _ _).alloc (Nat.le_refl _) _
  have hz0 : W0.heap.size = w.heap.size + 1 := by rw [← hW0]; simp
  have hz1 : W1.heap.size = w.heap.size + 2 := by rw [← hW1, World.size_alloc, hz0]
  have hb1 : Below W0.heap.size W0 W1 := hW1 ▸ (Below.refl _ _).alloc (Nat.le_refl _) _
  have hk0 : W0.heap[w.heap.size]? = some (.cells c 43 (0, 0)) := hW0 ▸ new_block w _ _
  have hk1 : W1.heap[w.heap.size]? = some (.cells c 43 (0, 0)) := by rw [hb1.block _ (by omega)]; exact hk0
  have hj1 : W1.heap[w.heap.size + 1]? = some (.cells c 43 (0, 0)) := by rw [← hz0, ← hW1]; exact new_block W0 _ _
  have HST := Lib.hid (note_store W0 c (w.heap.size + 1) hz0 hcs)
  rw [hW1] at HST
  have HB := Lib.hid (hb0.trans (hb1.mono (by omega)))
  have HW0 := Lib.hid hW0
  have HZ0 := Lib.hid hz0
  have HZ1 := Lib.hid hz1
  have HK0 := Lib.hid hk0
  have HK1 := Lib.hid hk1
  have HJ1 := Lib.hid hj1
  have t0 := (cell_at hk1 0).trans C0.out
  clear hc hcf hcs hW0 hW1 hb0 hz0 hb1 hk0 hk1 hj1 hz1 hkd hp hl
  go_enter Try.func23, Try.ntmps23
  go_upto_region 1 with fail
  rw [HW0.out]
  have hzz := HZ0.out
  go_upto_region 2 with (first | (with_reducible refine wpList_load_row rfl 43 (.tmp 1) rfl w.heap.size rfl 43 c (0, 0) _ HK0.out Try.underlying43 rfl HSZ.out ?_) | (with_reducible refine wpList_store_row rfl 43 (.tmp 3) (.tmp 4) rfl (w.heap.size + 1) c rfl rfl 43 noteZ HST.out.1 HSZ.out HST.out.2.1 HONE.out ?_))
  rw [HST.out.2.2]
  clear hzz
  have hm0 := HK1.out
  have m25 := (cell_at hm0 25).trans C25.out
  have m26 := (cell_at hm0 26).trans C26.out
  have HJ2 := Lib.hid HJ1.out
  have HBW := Lib.hid (show Below w.heap.size w (W1) from HB.out)
  have HZW := Lib.hid (show (W1).heap.size = w.heap.size + 2 by exact HZ1.out)
  have CM2 := Lib.hid (CM.out _ HBW.out)
  clear hm0
  go_wp2_with fail
  refine CM2.out.mono ?_
  rintro e w2 ⟨rfl, hb2⟩
  rw [HZW.out] at hb2
  have HB2 := Lib.hid (HBW.out.trans (hb2.mono (by omega)))
  have HJ3 := Lib.hid (show w2.heap[w.heap.size + 1]? = some (.cells (c) 43 (0, 0)) by rw [hb2.block _ (by omega)]; exact HJ2.out)
  clear hb2 m25 m26
  cases mb with
  | false =>
    have HE := Lib.hid (And.intro (show Ending.returned (Value.bool false) = .returned (.bool (false && R)) from rfl) HB2.out)
    go_wp2_with fail
    go_ret
    exact HE.out
  | true =>
    have cq0 := (cell_at HJ3.out 25).trans (by simp [C25.out] : _ = some (.int .i64 n.ae))
    have fq0 := frozen_at HJ3.out 25
    have hq0 := set_at HJ3.out 25 (.int .i64 0)
    have cq1 := (cell_at hq0 26).trans (by simp [C26.out] : _ = some (.slice P.hp n.sh.length P.hk))
    have fq1 := frozen_at hq0 26
    have hq1 := set_at hq0 26 (.slice none 0 0)
    have HFIN := Lib.hid (show (((w2).setCell ⟨w.heap.size + 1, 25, none⟩ (.int .i64 0)).setCell ⟨w.heap.size + 1, 26, none⟩ (.slice none 0 0)).heap[w.heap.size + 1]? = some (.cells cf 43 (0, 0)) by rw [← HEQ.out]; exact hq1)
    have HBF := Lib.hid (show Below w.heap.size w (((w2).setCell ⟨w.heap.size + 1, 25, none⟩ (.int .i64 0)).setCell ⟨w.heap.size + 1, 26, none⟩ (.slice none 0 0)) from ((HB2.out.setCell (p := ⟨w.heap.size + 1, 25, none⟩) (by show w.heap.size ≤ w.heap.size + 1; omega) _).setCell (p := ⟨w.heap.size + 1, 26, none⟩) (by show w.heap.size ≤ w.heap.size + 1; omega) _))
    clear hq0 hq1
    have CB2 := Lib.hid (CB.out (((w2).setCell ⟨w.heap.size + 1, 25, none⟩ (.int .i64 0)).setCell ⟨w.heap.size + 1, 26, none⟩ (.slice none 0 0)))
    go_upto_region 25 with fail
    clear cq0 fq0 cq1 fq1
    generalize ((w2).setCell ⟨w.heap.size + 1, 25, none⟩ (.int .i64 0)).setCell ⟨w.heap.size + 1, 26, none⟩ (.slice none 0 0) = W2 at HFIN HBF CB2 ⊢
    go_wp2_with (with_reducible refine wpList_load_row rfl 43 (.tmp 3) rfl (w.heap.size + 1) rfl 43 cf (0, 0) _ HFIN.out Try.underlying43 rfl HSF.out ?_)
    refine CB2.out.mono ?_
    rintro e w3 ⟨rfl, hb3⟩
    have HE := Lib.hid (HBF.out.trans (hb3.mono HBF.out.size))
    clear hb3
    go_wp2_with fail
    go_ret
    exact ⟨rfl, HE.out⟩

set_option maxHeartbeats 16000000 in
set_option maxRecDepth 100000 in
theorem fits_5 (n : NtL) (P : NtP) (w : World) (hkd : n.kd = 5) : Calls Try.prog 23 #[ntV n P] w fun e w' => e = .returned (.bool (bareB ({ n with tk := 0 }))) ∧ Below w.heap.size w w' := by
  have CB := Lib.hid (fun w1 => isBare_any ({ n with tk := 0 }) P w1)
  generalize bareB ({ n with tk := 0 }) = R at CB ⊢
  unfold ntV at CB ⊢
  obtain ⟨c, hc⟩ : ∃ c, (ntList n P).toArray = c := ⟨_, rfl⟩
  obtain ⟨cf, hcf⟩ : ∃ cf, (ntList ({ n with tk := 0 }) P).toArray = cf := ⟨_, rfl⟩
  rw [hcf] at CB
  have HEQ := Lib.hid (show (c).setIfInBounds 4 (.int .i64 0) = cf from by subst hc hcf; rfl)
  have hcs : c.size = 27 := by rw [← hc]; rfl
  have HSZ := Lib.hid (show (Try.prog.info? 43).map (·.size) = some c.size by rw [hcs]; exact info_note)
  have HSF := Lib.hid (show (Try.prog.info? 43).map (·.size) = some cf.size by rw [← hcf]; exact info_note)
  have HONE := Lib.hid (show c.all (·.oneCell') = true by rw [← hc]; exact nt_one n P)
  have C0 := Lib.hid (show c[0]? = some (.int .i64 5) by rw [← hc]; exact congrArg (fun x => some (Value.int .i64 x)) hkd)
  have C4 := Lib.hid (show c[4]? = some (.int .i64 n.tk) by rw [← hc]; rfl)
  rw [hc]
  obtain ⟨W0, hW0⟩ : ∃ W0, w.alloc (.cells c 43) = W0 := ⟨_, rfl⟩
  obtain ⟨W1, hW1⟩ : ∃ W1, W0.alloc (.cells c 43) = W1 := ⟨_, rfl⟩
  have hb0 : Below w.heap.size w W0 := hW0 ▸ (Below.refl _ _).alloc (Nat.le_refl _) _
  have hz0 : W0.heap.size = w.heap.size + 1 := by rw [← hW0]; simp
  have hz1 : W1.heap.size = w.heap.size + 2 := by rw [← hW1, World.size_alloc, hz0]
  have hb1 : Below W0.heap.size W0 W1 := hW1 ▸ (Below.refl _ _).alloc (Nat.le_refl _) _
  have hk0 : W0.heap[w.heap.size]? = some (.cells c 43 (0, 0)) := hW0 ▸ new_block w _ _
  have hk1 : W1.heap[w.heap.size]? = some (.cells c 43 (0, 0)) := by rw [hb1.block _ (by omega)]; exact hk0
  have hj1 : W1.heap[w.heap.size + 1]? = some (.cells c 43 (0, 0)) := by rw [← hz0, ← hW1]; exact new_block W0 _ _
  have HST := Lib.hid (note_store W0 c (w.heap.size + 1) hz0 hcs)
  rw [hW1] at HST
  have HB := Lib.hid (hb0.trans (hb1.mono (by omega)))
  have HW0 := Lib.hid hW0
  have HZ0 := Lib.hid hz0
  have HZ1 := Lib.hid hz1
  have HK0 := Lib.hid hk0
  have HK1 := Lib.hid hk1
  have HJ1 := Lib.hid hj1
  have t0 := (cell_at hk1 0).trans C0.out
  clear hc hcf hcs hW0 hW1 hb0 hz0 hb1 hk0 hk1 hj1 hz1 hkd
  go_enter Try.func23, Try.ntmps23
  go_upto_region 1 with fail
  rw [HW0.out]
  have hzz := HZ0.out
  go_upto_region 2 with (first | (with_reducible refine wpList_load_row rfl 43 (.tmp 1) rfl w.heap.size rfl 43 c (0, 0) _ HK0.out Try.underlying43 rfl HSZ.out ?_) | (with_reducible refine wpList_store_row rfl 43 (.tmp 3) (.tmp 4) rfl (w.heap.size + 1) c rfl rfl 43 noteZ HST.out.1 HSZ.out HST.out.2.1 HONE.out ?_))
  rw [HST.out.2.2]
  clear hzz
  have cq0 := (cell_at HJ1.out 4).trans (C4.out : _ = some (.int .i64 n.tk))
  have fq0 := frozen_at HJ1.out 4
  have hq0 := set_at HJ1.out 4 (.int .i64 0)
  have HFIN := Lib.hid (show ((W1).setCell ⟨w.heap.size + 1, 4, none⟩ (.int .i64 0)).heap[w.heap.size + 1]? = some (.cells cf 43 (0, 0)) by rw [← HEQ.out]; exact hq0)
  have HBF := Lib.hid (show Below w.heap.size w ((W1).setCell ⟨w.heap.size + 1, 4, none⟩ (.int .i64 0)) from (HB.out.setCell (p := ⟨w.heap.size + 1, 4, none⟩) (by show w.heap.size ≤ w.heap.size + 1; omega) _))
  clear hq0
  have CB2 := Lib.hid (CB.out ((W1).setCell ⟨w.heap.size + 1, 4, none⟩ (.int .i64 0)))
  go_upto_region 25 with fail
  clear cq0 fq0
  generalize (W1).setCell ⟨w.heap.size + 1, 4, none⟩ (.int .i64 0) = W2 at HFIN HBF CB2 ⊢
  go_wp2_with (with_reducible refine wpList_load_row rfl 43 (.tmp 3) rfl (w.heap.size + 1) rfl 43 cf (0, 0) _ HFIN.out Try.underlying43 rfl HSF.out ?_)
  refine CB2.out.mono ?_
  rintro e w3 ⟨rfl, hb3⟩
  have HE := Lib.hid (HBF.out.trans (hb3.mono HBF.out.size))
  clear hb3
  go_wp2_with fail
  go_ret
  exact ⟨rfl, HE.out⟩

set_option maxHeartbeats 16000000 in
set_option maxRecDepth 100000 in
theorem fits_6 (n : NtL) (P : NtP) (w : World) (hkd : n.kd = 6) (hp : RowK KS w P.hp n.sh) (hl : n.sh.length ≤ 1000000) : Calls Try.prog 23 #[ntV n P] w fun e w' => e = .returned (.bool (mayAB 5 n.ae n.sh && bareB { n with tk := 0, ae := 0, sh := [] })) ∧ Below w.heap.size w w' := by
  have CB := Lib.hid (fun w1 => isBare_any ({ n with tk := 0, ae := 0, sh := [] }) ({ P with hp := none, hk := 0 }) w1)
  have CM := Lib.hid (fun w1 hb => may_any n.ae n.sh P.hp P.hk 5 w1 (hp.below hb) hl)
  generalize mayAB 5 n.ae n.sh = mb at CM ⊢
  generalize bareB ({ n with tk := 0, ae := 0, sh := [] }) = R at CB ⊢
  unfold ntV at CB ⊢
  obtain ⟨c, hc⟩ : ∃ c, (ntList n P).toArray = c := ⟨_, rfl⟩
  obtain ⟨cf, hcf⟩ : ∃ cf, (ntList ({ n with tk := 0, ae := 0, sh := [] }) ({ P with hp := none, hk := 0 })).toArray = cf := ⟨_, rfl⟩
  rw [hcf] at CB
  have HEQ := Lib.hid (show (((c).setIfInBounds 4 (.int .i64 0)).setIfInBounds 25 (.int .i64 0)).setIfInBounds 26 (.slice none 0 0) = cf from by subst hc hcf; rfl)
  have hcs : c.size = 27 := by rw [← hc]; rfl
  have HSZ := Lib.hid (show (Try.prog.info? 43).map (·.size) = some c.size by rw [hcs]; exact info_note)
  have HSF := Lib.hid (show (Try.prog.info? 43).map (·.size) = some cf.size by rw [← hcf]; exact info_note)
  have HONE := Lib.hid (show c.all (·.oneCell') = true by rw [← hc]; exact nt_one n P)
  have C0 := Lib.hid (show c[0]? = some (.int .i64 6) by rw [← hc]; exact congrArg (fun x => some (Value.int .i64 x)) hkd)
  have C4 := Lib.hid (show c[4]? = some (.int .i64 n.tk) by rw [← hc]; rfl)
  have C25 := Lib.hid (show c[25]? = some (.int .i64 n.ae) by rw [← hc]; rfl)
  have C26 := Lib.hid (show c[26]? = some (.slice P.hp n.sh.length P.hk) by rw [← hc]; rfl)
  rw [hc]
  obtain ⟨W0, hW0⟩ : ∃ W0, w.alloc (.cells c 43) = W0 := ⟨_, rfl⟩
  obtain ⟨W1, hW1⟩ : ∃ W1, W0.alloc (.cells c 43) = W1 := ⟨_, rfl⟩
  have hb0 : Below w.heap.size w W0 := hW0 ▸ (Below.refl _ _).alloc (Nat.le_refl _) _
  have hz0 : W0.heap.size = w.heap.size + 1 := by rw [← hW0]; simp
  have hz1 : W1.heap.size = w.heap.size + 2 := by rw [← hW1, World.size_alloc, hz0]
  have hb1 : Below W0.heap.size W0 W1 := hW1 ▸ (Below.refl _ _).alloc (Nat.le_refl _) _
  have hk0 : W0.heap[w.heap.size]? = some (.cells c 43 (0, 0)) := hW0 ▸ new_block w _ _
  have hk1 : W1.heap[w.heap.size]? = some (.cells c 43 (0, 0)) := by rw [hb1.block _ (by omega)]; exact hk0
  have hj1 : W1.heap[w.heap.size + 1]? = some (.cells c 43 (0, 0)) := by rw [← hz0, ← hW1]; exact new_block W0 _ _
  have HST := Lib.hid (note_store W0 c (w.heap.size + 1) hz0 hcs)
  rw [hW1] at HST
  have HB := Lib.hid (hb0.trans (hb1.mono (by omega)))
  have HW0 := Lib.hid hW0
  have HZ0 := Lib.hid hz0
  have HZ1 := Lib.hid hz1
  have HK0 := Lib.hid hk0
  have HK1 := Lib.hid hk1
  have HJ1 := Lib.hid hj1
  have t0 := (cell_at hk1 0).trans C0.out
  clear hc hcf hcs hW0 hW1 hb0 hz0 hb1 hk0 hk1 hj1 hz1 hkd hp hl
  go_enter Try.func23, Try.ntmps23
  go_upto_region 1 with fail
  rw [HW0.out]
  have hzz := HZ0.out
  go_upto_region 2 with (first | (with_reducible refine wpList_load_row rfl 43 (.tmp 1) rfl w.heap.size rfl 43 c (0, 0) _ HK0.out Try.underlying43 rfl HSZ.out ?_) | (with_reducible refine wpList_store_row rfl 43 (.tmp 3) (.tmp 4) rfl (w.heap.size + 1) c rfl rfl 43 noteZ HST.out.1 HSZ.out HST.out.2.1 HONE.out ?_))
  rw [HST.out.2.2]
  clear hzz
  have cp0 := (cell_at HJ1.out 4).trans (C4.out : _ = some (.int .i64 n.tk))
  have fp0 := frozen_at HJ1.out 4
  have hp0 := set_at HJ1.out 4 (.int .i64 0)
  have hm0 : ((W1).setCell ⟨w.heap.size + 1, 4, none⟩ (.int .i64 0)).heap[w.heap.size]? = some (.cells c 43 (0, 0)) := by rw [Below.heap_setCell _ _ _ _ (by show w.heap.size ≠ w.heap.size + 1; omega)]; exact HK1.out
  have m25 := (cell_at hm0 25).trans C25.out
  have m26 := (cell_at hm0 26).trans C26.out
  have HJ2 := Lib.hid hp0
  have HBW := Lib.hid (show Below w.heap.size w ((W1).setCell ⟨w.heap.size + 1, 4, none⟩ (.int .i64 0)) from (HB.out.setCell (p := ⟨w.heap.size + 1, 4, none⟩) (by show w.heap.size ≤ w.heap.size + 1; omega) _))
  have HZW := Lib.hid (show ((W1).setCell ⟨w.heap.size + 1, 4, none⟩ (.int .i64 0)).heap.size = w.heap.size + 2 by simp [World.setCell, HZ1.out])
  have CM2 := Lib.hid (CM.out _ HBW.out)
  clear hm0 hp0
  go_wp2_with fail
  refine CM2.out.mono ?_
  rintro e w2 ⟨rfl, hb2⟩
  rw [HZW.out] at hb2
  have HB2 := Lib.hid (HBW.out.trans (hb2.mono (by omega)))
  have HJ3 := Lib.hid (show w2.heap[w.heap.size + 1]? = some (.cells ((c).setIfInBounds 4 (.int .i64 0)) 43 (0, 0)) by rw [hb2.block _ (by omega)]; exact HJ2.out)
  clear hb2 m25 m26 cp0 fp0
  cases mb with
  | false =>
    have HE := Lib.hid (And.intro (show Ending.returned (Value.bool false) = .returned (.bool (false && R)) from rfl) HB2.out)
    go_wp2_with fail
    go_ret
    exact HE.out
  | true =>
    have cq0 := (cell_at HJ3.out 25).trans (by simp [C25.out] : _ = some (.int .i64 n.ae))
    have fq0 := frozen_at HJ3.out 25
    have hq0 := set_at HJ3.out 25 (.int .i64 0)
    have cq1 := (cell_at hq0 26).trans (by simp [C26.out] : _ = some (.slice P.hp n.sh.length P.hk))
    have fq1 := frozen_at hq0 26
    have hq1 := set_at hq0 26 (.slice none 0 0)
    have HFIN := Lib.hid (show (((w2).setCell ⟨w.heap.size + 1, 25, none⟩ (.int .i64 0)).setCell ⟨w.heap.size + 1, 26, none⟩ (.slice none 0 0)).heap[w.heap.size + 1]? = some (.cells cf 43 (0, 0)) by rw [← HEQ.out]; exact hq1)
    have HBF := Lib.hid (show Below w.heap.size w (((w2).setCell ⟨w.heap.size + 1, 25, none⟩ (.int .i64 0)).setCell ⟨w.heap.size + 1, 26, none⟩ (.slice none 0 0)) from ((HB2.out.setCell (p := ⟨w.heap.size + 1, 25, none⟩) (by show w.heap.size ≤ w.heap.size + 1; omega) _).setCell (p := ⟨w.heap.size + 1, 26, none⟩) (by show w.heap.size ≤ w.heap.size + 1; omega) _))
    clear hq0 hq1
    have CB2 := Lib.hid (CB.out (((w2).setCell ⟨w.heap.size + 1, 25, none⟩ (.int .i64 0)).setCell ⟨w.heap.size + 1, 26, none⟩ (.slice none 0 0)))
    go_upto_region 25 with fail
    clear cq0 fq0 cq1 fq1
    generalize ((w2).setCell ⟨w.heap.size + 1, 25, none⟩ (.int .i64 0)).setCell ⟨w.heap.size + 1, 26, none⟩ (.slice none 0 0) = W2 at HFIN HBF CB2 ⊢
    go_wp2_with (with_reducible refine wpList_load_row rfl 43 (.tmp 3) rfl (w.heap.size + 1) rfl 43 cf (0, 0) _ HFIN.out Try.underlying43 rfl HSF.out ?_)
    refine CB2.out.mono ?_
    rintro e w3 ⟨rfl, hb3⟩
    have HE := Lib.hid (HBF.out.trans (hb3.mono HBF.out.size))
    clear hb3
    go_wp2_with fail
    go_ret
    exact ⟨rfl, HE.out⟩

set_option maxHeartbeats 16000000 in
set_option maxRecDepth 100000 in
theorem fits_7 (n : NtL) (P : NtP) (w : World) (hkd : n.kd = 7) : Calls Try.prog 23 #[ntV n P] w fun e w' => e = .returned (.bool (bareB ({ n with sf := [], st := [], ep := 0 }))) ∧ Below w.heap.size w w' := by
  have CB := Lib.hid (fun w1 => isBare_any ({ n with sf := [], st := [], ep := 0 }) P w1)
  generalize bareB ({ n with sf := [], st := [], ep := 0 }) = R at CB ⊢
  unfold ntV at CB ⊢
  obtain ⟨c, hc⟩ : ∃ c, (ntList n P).toArray = c := ⟨_, rfl⟩
  obtain ⟨cf, hcf⟩ : ∃ cf, (ntList ({ n with sf := [], st := [], ep := 0 }) P).toArray = cf := ⟨_, rfl⟩
  rw [hcf] at CB
  have HEQ := Lib.hid (show (((c).setIfInBounds 21 (.string ⟨#[]⟩)).setIfInBounds 22 (.string ⟨#[]⟩)).setIfInBounds 3 (.int .i64 0) = cf from by subst hc hcf; rfl)
  have hcs : c.size = 27 := by rw [← hc]; rfl
  have HSZ := Lib.hid (show (Try.prog.info? 43).map (·.size) = some c.size by rw [hcs]; exact info_note)
  have HSF := Lib.hid (show (Try.prog.info? 43).map (·.size) = some cf.size by rw [← hcf]; exact info_note)
  have HONE := Lib.hid (show c.all (·.oneCell') = true by rw [← hc]; exact nt_one n P)
  have C0 := Lib.hid (show c[0]? = some (.int .i64 7) by rw [← hc]; exact congrArg (fun x => some (Value.int .i64 x)) hkd)
  have C3 := Lib.hid (show c[3]? = some (.int .i64 n.ep) by rw [← hc]; rfl)
  have C21 := Lib.hid (show c[21]? = some (.string (strB n.sf)) by rw [← hc]; rfl)
  have C22 := Lib.hid (show c[22]? = some (.string (strB n.st)) by rw [← hc]; rfl)
  rw [hc]
  obtain ⟨W0, hW0⟩ : ∃ W0, w.alloc (.cells c 43) = W0 := ⟨_, rfl⟩
  obtain ⟨W1, hW1⟩ : ∃ W1, W0.alloc (.cells c 43) = W1 := ⟨_, rfl⟩
  have hb0 : Below w.heap.size w W0 := hW0 ▸ (Below.refl _ _).alloc (Nat.le_refl _) _
  have hz0 : W0.heap.size = w.heap.size + 1 := by rw [← hW0]; simp
  have hz1 : W1.heap.size = w.heap.size + 2 := by rw [← hW1, World.size_alloc, hz0]
  have hb1 : Below W0.heap.size W0 W1 := hW1 ▸ (Below.refl _ _).alloc (Nat.le_refl _) _
  have hk0 : W0.heap[w.heap.size]? = some (.cells c 43 (0, 0)) := hW0 ▸ new_block w _ _
  have hk1 : W1.heap[w.heap.size]? = some (.cells c 43 (0, 0)) := by rw [hb1.block _ (by omega)]; exact hk0
  have hj1 : W1.heap[w.heap.size + 1]? = some (.cells c 43 (0, 0)) := by rw [← hz0, ← hW1]; exact new_block W0 _ _
  have HST := Lib.hid (note_store W0 c (w.heap.size + 1) hz0 hcs)
  rw [hW1] at HST
  have HB := Lib.hid (hb0.trans (hb1.mono (by omega)))
  have HW0 := Lib.hid hW0
  have HZ0 := Lib.hid hz0
  have HZ1 := Lib.hid hz1
  have HK0 := Lib.hid hk0
  have HK1 := Lib.hid hk1
  have HJ1 := Lib.hid hj1
  have t0 := (cell_at hk1 0).trans C0.out
  clear hc hcf hcs hW0 hW1 hb0 hz0 hb1 hk0 hk1 hj1 hz1 hkd
  go_enter Try.func23, Try.ntmps23
  go_upto_region 1 with fail
  rw [HW0.out]
  have hzz := HZ0.out
  go_upto_region 2 with (first | (with_reducible refine wpList_load_row rfl 43 (.tmp 1) rfl w.heap.size rfl 43 c (0, 0) _ HK0.out Try.underlying43 rfl HSZ.out ?_) | (with_reducible refine wpList_store_row rfl 43 (.tmp 3) (.tmp 4) rfl (w.heap.size + 1) c rfl rfl 43 noteZ HST.out.1 HSZ.out HST.out.2.1 HONE.out ?_))
  rw [HST.out.2.2]
  clear hzz
  have cq0 := (cell_at HJ1.out 21).trans (C21.out : _ = some (.string (strB n.sf)))
  have fq0 := frozen_at HJ1.out 21
  have hq0 := set_at HJ1.out 21 (.string ⟨#[]⟩)
  have cq1 := (cell_at hq0 22).trans (by simp [C22.out] : _ = some (.string (strB n.st)))
  have fq1 := frozen_at hq0 22
  have hq1 := set_at hq0 22 (.string ⟨#[]⟩)
  have cq2 := (cell_at hq1 3).trans (by simp [C3.out] : _ = some (.int .i64 n.ep))
  have fq2 := frozen_at hq1 3
  have hq2 := set_at hq1 3 (.int .i64 0)
  have HFIN := Lib.hid (show ((((W1).setCell ⟨w.heap.size + 1, 21, none⟩ (.string ⟨#[]⟩)).setCell ⟨w.heap.size + 1, 22, none⟩ (.string ⟨#[]⟩)).setCell ⟨w.heap.size + 1, 3, none⟩ (.int .i64 0)).heap[w.heap.size + 1]? = some (.cells cf 43 (0, 0)) by rw [← HEQ.out]; exact hq2)
  have HBF := Lib.hid (show Below w.heap.size w ((((W1).setCell ⟨w.heap.size + 1, 21, none⟩ (.string ⟨#[]⟩)).setCell ⟨w.heap.size + 1, 22, none⟩ (.string ⟨#[]⟩)).setCell ⟨w.heap.size + 1, 3, none⟩ (.int .i64 0)) from (((HB.out.setCell (p := ⟨w.heap.size + 1, 21, none⟩) (by show w.heap.size ≤ w.heap.size + 1; omega) _).setCell (p := ⟨w.heap.size + 1, 22, none⟩) (by show w.heap.size ≤ w.heap.size + 1; omega) _).setCell (p := ⟨w.heap.size + 1, 3, none⟩) (by show w.heap.size ≤ w.heap.size + 1; omega) _))
  clear hq0 hq1 hq2
  have CB2 := Lib.hid (CB.out ((((W1).setCell ⟨w.heap.size + 1, 21, none⟩ (.string ⟨#[]⟩)).setCell ⟨w.heap.size + 1, 22, none⟩ (.string ⟨#[]⟩)).setCell ⟨w.heap.size + 1, 3, none⟩ (.int .i64 0)))
  go_upto_region 25 with fail
  clear cq0 fq0 cq1 fq1 cq2 fq2
  generalize (((W1).setCell ⟨w.heap.size + 1, 21, none⟩ (.string ⟨#[]⟩)).setCell ⟨w.heap.size + 1, 22, none⟩ (.string ⟨#[]⟩)).setCell ⟨w.heap.size + 1, 3, none⟩ (.int .i64 0) = W2 at HFIN HBF CB2 ⊢
  go_wp2_with (with_reducible refine wpList_load_row rfl 43 (.tmp 3) rfl (w.heap.size + 1) rfl 43 cf (0, 0) _ HFIN.out Try.underlying43 rfl HSF.out ?_)
  refine CB2.out.mono ?_
  rintro e w3 ⟨rfl, hb3⟩
  have HE := Lib.hid (HBF.out.trans (hb3.mono HBF.out.size))
  clear hb3
  go_wp2_with fail
  go_ret
  exact ⟨rfl, HE.out⟩

set_option maxHeartbeats 16000000 in
set_option maxRecDepth 100000 in
theorem fits_8 (n : NtL) (P : NtP) (w : World) (hkd : n.kd = 8) : Calls Try.prog 23 #[ntV n P] w fun e w' => e = .returned (.bool (bareB ({ n with ls := [], la := [], sf := [], st := [], ep := 0 }))) ∧ Below w.heap.size w w' := by
  have CB := Lib.hid (fun w1 => isBare_any ({ n with ls := [], la := [], sf := [], st := [], ep := 0 }) ({ P with lp := none, lk := 0, ap := none, ak := 0 }) w1)
  generalize bareB ({ n with ls := [], la := [], sf := [], st := [], ep := 0 }) = R at CB ⊢
  unfold ntV at CB ⊢
  obtain ⟨c, hc⟩ : ∃ c, (ntList n P).toArray = c := ⟨_, rfl⟩
  obtain ⟨cf, hcf⟩ : ∃ cf, (ntList ({ n with ls := [], la := [], sf := [], st := [], ep := 0 }) ({ P with lp := none, lk := 0, ap := none, ak := 0 })).toArray = cf := ⟨_, rfl⟩
  rw [hcf] at CB
  have HEQ := Lib.hid (show (((((c).setIfInBounds 23 (.slice none 0 0)).setIfInBounds 24 (.slice none 0 0)).setIfInBounds 21 (.string ⟨#[]⟩)).setIfInBounds 22 (.string ⟨#[]⟩)).setIfInBounds 3 (.int .i64 0) = cf from by subst hc hcf; rfl)
  have hcs : c.size = 27 := by rw [← hc]; rfl
  have HSZ := Lib.hid (show (Try.prog.info? 43).map (·.size) = some c.size by rw [hcs]; exact info_note)
  have HSF := Lib.hid (show (Try.prog.info? 43).map (·.size) = some cf.size by rw [← hcf]; exact info_note)
  have HONE := Lib.hid (show c.all (·.oneCell') = true by rw [← hc]; exact nt_one n P)
  have C0 := Lib.hid (show c[0]? = some (.int .i64 8) by rw [← hc]; exact congrArg (fun x => some (Value.int .i64 x)) hkd)
  have C3 := Lib.hid (show c[3]? = some (.int .i64 n.ep) by rw [← hc]; rfl)
  have C21 := Lib.hid (show c[21]? = some (.string (strB n.sf)) by rw [← hc]; rfl)
  have C22 := Lib.hid (show c[22]? = some (.string (strB n.st)) by rw [← hc]; rfl)
  have C23 := Lib.hid (show c[23]? = some (.slice P.lp n.ls.length P.lk) by rw [← hc]; rfl)
  have C24 := Lib.hid (show c[24]? = some (.slice P.ap n.la.length P.ak) by rw [← hc]; rfl)
  rw [hc]
  obtain ⟨W0, hW0⟩ : ∃ W0, w.alloc (.cells c 43) = W0 := ⟨_, rfl⟩
  obtain ⟨W1, hW1⟩ : ∃ W1, W0.alloc (.cells c 43) = W1 := ⟨_, rfl⟩
  have hb0 : Below w.heap.size w W0 := hW0 ▸ (Below.refl _ _).alloc (Nat.le_refl _) _
  have hz0 : W0.heap.size = w.heap.size + 1 := by rw [← hW0]; simp
  have hz1 : W1.heap.size = w.heap.size + 2 := by rw [← hW1, World.size_alloc, hz0]
  have hb1 : Below W0.heap.size W0 W1 := hW1 ▸ (Below.refl _ _).alloc (Nat.le_refl _) _
  have hk0 : W0.heap[w.heap.size]? = some (.cells c 43 (0, 0)) := hW0 ▸ new_block w _ _
  have hk1 : W1.heap[w.heap.size]? = some (.cells c 43 (0, 0)) := by rw [hb1.block _ (by omega)]; exact hk0
  have hj1 : W1.heap[w.heap.size + 1]? = some (.cells c 43 (0, 0)) := by rw [← hz0, ← hW1]; exact new_block W0 _ _
  have HST := Lib.hid (note_store W0 c (w.heap.size + 1) hz0 hcs)
  rw [hW1] at HST
  have HB := Lib.hid (hb0.trans (hb1.mono (by omega)))
  have HW0 := Lib.hid hW0
  have HZ0 := Lib.hid hz0
  have HZ1 := Lib.hid hz1
  have HK0 := Lib.hid hk0
  have HK1 := Lib.hid hk1
  have HJ1 := Lib.hid hj1
  have t0 := (cell_at hk1 0).trans C0.out
  clear hc hcf hcs hW0 hW1 hb0 hz0 hb1 hk0 hk1 hj1 hz1 hkd
  go_enter Try.func23, Try.ntmps23
  go_upto_region 1 with fail
  rw [HW0.out]
  have hzz := HZ0.out
  go_upto_region 2 with (first | (with_reducible refine wpList_load_row rfl 43 (.tmp 1) rfl w.heap.size rfl 43 c (0, 0) _ HK0.out Try.underlying43 rfl HSZ.out ?_) | (with_reducible refine wpList_store_row rfl 43 (.tmp 3) (.tmp 4) rfl (w.heap.size + 1) c rfl rfl 43 noteZ HST.out.1 HSZ.out HST.out.2.1 HONE.out ?_))
  rw [HST.out.2.2]
  clear hzz
  have cq0 := (cell_at HJ1.out 23).trans (C23.out : _ = some (.slice P.lp n.ls.length P.lk))
  have fq0 := frozen_at HJ1.out 23
  have hq0 := set_at HJ1.out 23 (.slice none 0 0)
  have cq1 := (cell_at hq0 24).trans (by simp [C24.out] : _ = some (.slice P.ap n.la.length P.ak))
  have fq1 := frozen_at hq0 24
  have hq1 := set_at hq0 24 (.slice none 0 0)
  have cq2 := (cell_at hq1 21).trans (by simp [C21.out] : _ = some (.string (strB n.sf)))
  have fq2 := frozen_at hq1 21
  have hq2 := set_at hq1 21 (.string ⟨#[]⟩)
  have cq3 := (cell_at hq2 22).trans (by simp [C22.out] : _ = some (.string (strB n.st)))
  have fq3 := frozen_at hq2 22
  have hq3 := set_at hq2 22 (.string ⟨#[]⟩)
  have cq4 := (cell_at hq3 3).trans (by simp [C3.out] : _ = some (.int .i64 n.ep))
  have fq4 := frozen_at hq3 3
  have hq4 := set_at hq3 3 (.int .i64 0)
  have HFIN := Lib.hid (show ((((((W1).setCell ⟨w.heap.size + 1, 23, none⟩ (.slice none 0 0)).setCell ⟨w.heap.size + 1, 24, none⟩ (.slice none 0 0)).setCell ⟨w.heap.size + 1, 21, none⟩ (.string ⟨#[]⟩)).setCell ⟨w.heap.size + 1, 22, none⟩ (.string ⟨#[]⟩)).setCell ⟨w.heap.size + 1, 3, none⟩ (.int .i64 0)).heap[w.heap.size + 1]? = some (.cells cf 43 (0, 0)) by rw [← HEQ.out]; exact hq4)
  have HBF := Lib.hid (show Below w.heap.size w ((((((W1).setCell ⟨w.heap.size + 1, 23, none⟩ (.slice none 0 0)).setCell ⟨w.heap.size + 1, 24, none⟩ (.slice none 0 0)).setCell ⟨w.heap.size + 1, 21, none⟩ (.string ⟨#[]⟩)).setCell ⟨w.heap.size + 1, 22, none⟩ (.string ⟨#[]⟩)).setCell ⟨w.heap.size + 1, 3, none⟩ (.int .i64 0)) from (((((HB.out.setCell (p := ⟨w.heap.size + 1, 23, none⟩) (by show w.heap.size ≤ w.heap.size + 1; omega) _).setCell (p := ⟨w.heap.size + 1, 24, none⟩) (by show w.heap.size ≤ w.heap.size + 1; omega) _).setCell (p := ⟨w.heap.size + 1, 21, none⟩) (by show w.heap.size ≤ w.heap.size + 1; omega) _).setCell (p := ⟨w.heap.size + 1, 22, none⟩) (by show w.heap.size ≤ w.heap.size + 1; omega) _).setCell (p := ⟨w.heap.size + 1, 3, none⟩) (by show w.heap.size ≤ w.heap.size + 1; omega) _))
  clear hq0 hq1 hq2 hq3 hq4
  have CB2 := Lib.hid (CB.out ((((((W1).setCell ⟨w.heap.size + 1, 23, none⟩ (.slice none 0 0)).setCell ⟨w.heap.size + 1, 24, none⟩ (.slice none 0 0)).setCell ⟨w.heap.size + 1, 21, none⟩ (.string ⟨#[]⟩)).setCell ⟨w.heap.size + 1, 22, none⟩ (.string ⟨#[]⟩)).setCell ⟨w.heap.size + 1, 3, none⟩ (.int .i64 0)))
  go_upto_region 25 with fail
  clear cq0 fq0 cq1 fq1 cq2 fq2 cq3 fq3 cq4 fq4
  generalize (((((W1).setCell ⟨w.heap.size + 1, 23, none⟩ (.slice none 0 0)).setCell ⟨w.heap.size + 1, 24, none⟩ (.slice none 0 0)).setCell ⟨w.heap.size + 1, 21, none⟩ (.string ⟨#[]⟩)).setCell ⟨w.heap.size + 1, 22, none⟩ (.string ⟨#[]⟩)).setCell ⟨w.heap.size + 1, 3, none⟩ (.int .i64 0) = W2 at HFIN HBF CB2 ⊢
  go_wp2_with (with_reducible refine wpList_load_row rfl 43 (.tmp 3) rfl (w.heap.size + 1) rfl 43 cf (0, 0) _ HFIN.out Try.underlying43 rfl HSF.out ?_)
  refine CB2.out.mono ?_
  rintro e w3 ⟨rfl, hb3⟩
  have HE := Lib.hid (HBF.out.trans (hb3.mono HBF.out.size))
  clear hb3
  go_wp2_with fail
  go_ret
  exact ⟨rfl, HE.out⟩

set_option maxHeartbeats 16000000 in
set_option maxRecDepth 100000 in
theorem fits_9 (n : NtL) (P : NtP) (w : World) (hkd : n.kd = 9) : Calls Try.prog 23 #[ntV n P] w fun e w' => e = .returned (.bool (bareB ({ n with ls := [], la := [], sf := [], st := [], ep := 0 }))) ∧ Below w.heap.size w w' := by
  have CB := Lib.hid (fun w1 => isBare_any ({ n with ls := [], la := [], sf := [], st := [], ep := 0 }) ({ P with lp := none, lk := 0, ap := none, ak := 0 }) w1)
  generalize bareB ({ n with ls := [], la := [], sf := [], st := [], ep := 0 }) = R at CB ⊢
  unfold ntV at CB ⊢
  obtain ⟨c, hc⟩ : ∃ c, (ntList n P).toArray = c := ⟨_, rfl⟩
  obtain ⟨cf, hcf⟩ : ∃ cf, (ntList ({ n with ls := [], la := [], sf := [], st := [], ep := 0 }) ({ P with lp := none, lk := 0, ap := none, ak := 0 })).toArray = cf := ⟨_, rfl⟩
  rw [hcf] at CB
  have HEQ := Lib.hid (show (((((c).setIfInBounds 23 (.slice none 0 0)).setIfInBounds 24 (.slice none 0 0)).setIfInBounds 21 (.string ⟨#[]⟩)).setIfInBounds 22 (.string ⟨#[]⟩)).setIfInBounds 3 (.int .i64 0) = cf from by subst hc hcf; rfl)
  have hcs : c.size = 27 := by rw [← hc]; rfl
  have HSZ := Lib.hid (show (Try.prog.info? 43).map (·.size) = some c.size by rw [hcs]; exact info_note)
  have HSF := Lib.hid (show (Try.prog.info? 43).map (·.size) = some cf.size by rw [← hcf]; exact info_note)
  have HONE := Lib.hid (show c.all (·.oneCell') = true by rw [← hc]; exact nt_one n P)
  have C0 := Lib.hid (show c[0]? = some (.int .i64 9) by rw [← hc]; exact congrArg (fun x => some (Value.int .i64 x)) hkd)
  have C3 := Lib.hid (show c[3]? = some (.int .i64 n.ep) by rw [← hc]; rfl)
  have C21 := Lib.hid (show c[21]? = some (.string (strB n.sf)) by rw [← hc]; rfl)
  have C22 := Lib.hid (show c[22]? = some (.string (strB n.st)) by rw [← hc]; rfl)
  have C23 := Lib.hid (show c[23]? = some (.slice P.lp n.ls.length P.lk) by rw [← hc]; rfl)
  have C24 := Lib.hid (show c[24]? = some (.slice P.ap n.la.length P.ak) by rw [← hc]; rfl)
  rw [hc]
  obtain ⟨W0, hW0⟩ : ∃ W0, w.alloc (.cells c 43) = W0 := ⟨_, rfl⟩
  obtain ⟨W1, hW1⟩ : ∃ W1, W0.alloc (.cells c 43) = W1 := ⟨_, rfl⟩
  have hb0 : Below w.heap.size w W0 := hW0 ▸ (Below.refl _ _).alloc (Nat.le_refl _) _
  have hz0 : W0.heap.size = w.heap.size + 1 := by rw [← hW0]; simp
  have hz1 : W1.heap.size = w.heap.size + 2 := by rw [← hW1, World.size_alloc, hz0]
  have hb1 : Below W0.heap.size W0 W1 := hW1 ▸ (Below.refl _ _).alloc (Nat.le_refl _) _
  have hk0 : W0.heap[w.heap.size]? = some (.cells c 43 (0, 0)) := hW0 ▸ new_block w _ _
  have hk1 : W1.heap[w.heap.size]? = some (.cells c 43 (0, 0)) := by rw [hb1.block _ (by omega)]; exact hk0
  have hj1 : W1.heap[w.heap.size + 1]? = some (.cells c 43 (0, 0)) := by rw [← hz0, ← hW1]; exact new_block W0 _ _
  have HST := Lib.hid (note_store W0 c (w.heap.size + 1) hz0 hcs)
  rw [hW1] at HST
  have HB := Lib.hid (hb0.trans (hb1.mono (by omega)))
  have HW0 := Lib.hid hW0
  have HZ0 := Lib.hid hz0
  have HZ1 := Lib.hid hz1
  have HK0 := Lib.hid hk0
  have HK1 := Lib.hid hk1
  have HJ1 := Lib.hid hj1
  have t0 := (cell_at hk1 0).trans C0.out
  clear hc hcf hcs hW0 hW1 hb0 hz0 hb1 hk0 hk1 hj1 hz1 hkd
  go_enter Try.func23, Try.ntmps23
  go_upto_region 1 with fail
  rw [HW0.out]
  have hzz := HZ0.out
  go_upto_region 2 with (first | (with_reducible refine wpList_load_row rfl 43 (.tmp 1) rfl w.heap.size rfl 43 c (0, 0) _ HK0.out Try.underlying43 rfl HSZ.out ?_) | (with_reducible refine wpList_store_row rfl 43 (.tmp 3) (.tmp 4) rfl (w.heap.size + 1) c rfl rfl 43 noteZ HST.out.1 HSZ.out HST.out.2.1 HONE.out ?_))
  rw [HST.out.2.2]
  clear hzz
  have cq0 := (cell_at HJ1.out 23).trans (C23.out : _ = some (.slice P.lp n.ls.length P.lk))
  have fq0 := frozen_at HJ1.out 23
  have hq0 := set_at HJ1.out 23 (.slice none 0 0)
  have cq1 := (cell_at hq0 24).trans (by simp [C24.out] : _ = some (.slice P.ap n.la.length P.ak))
  have fq1 := frozen_at hq0 24
  have hq1 := set_at hq0 24 (.slice none 0 0)
  have cq2 := (cell_at hq1 21).trans (by simp [C21.out] : _ = some (.string (strB n.sf)))
  have fq2 := frozen_at hq1 21
  have hq2 := set_at hq1 21 (.string ⟨#[]⟩)
  have cq3 := (cell_at hq2 22).trans (by simp [C22.out] : _ = some (.string (strB n.st)))
  have fq3 := frozen_at hq2 22
  have hq3 := set_at hq2 22 (.string ⟨#[]⟩)
  have cq4 := (cell_at hq3 3).trans (by simp [C3.out] : _ = some (.int .i64 n.ep))
  have fq4 := frozen_at hq3 3
  have hq4 := set_at hq3 3 (.int .i64 0)
  have HFIN := Lib.hid (show ((((((W1).setCell ⟨w.heap.size + 1, 23, none⟩ (.slice none 0 0)).setCell ⟨w.heap.size + 1, 24, none⟩ (.slice none 0 0)).setCell ⟨w.heap.size + 1, 21, none⟩ (.string ⟨#[]⟩)).setCell ⟨w.heap.size + 1, 22, none⟩ (.string ⟨#[]⟩)).setCell ⟨w.heap.size + 1, 3, none⟩ (.int .i64 0)).heap[w.heap.size + 1]? = some (.cells cf 43 (0, 0)) by rw [← HEQ.out]; exact hq4)
  have HBF := Lib.hid (show Below w.heap.size w ((((((W1).setCell ⟨w.heap.size + 1, 23, none⟩ (.slice none 0 0)).setCell ⟨w.heap.size + 1, 24, none⟩ (.slice none 0 0)).setCell ⟨w.heap.size + 1, 21, none⟩ (.string ⟨#[]⟩)).setCell ⟨w.heap.size + 1, 22, none⟩ (.string ⟨#[]⟩)).setCell ⟨w.heap.size + 1, 3, none⟩ (.int .i64 0)) from (((((HB.out.setCell (p := ⟨w.heap.size + 1, 23, none⟩) (by show w.heap.size ≤ w.heap.size + 1; omega) _).setCell (p := ⟨w.heap.size + 1, 24, none⟩) (by show w.heap.size ≤ w.heap.size + 1; omega) _).setCell (p := ⟨w.heap.size + 1, 21, none⟩) (by show w.heap.size ≤ w.heap.size + 1; omega) _).setCell (p := ⟨w.heap.size + 1, 22, none⟩) (by show w.heap.size ≤ w.heap.size + 1; omega) _).setCell (p := ⟨w.heap.size + 1, 3, none⟩) (by show w.heap.size ≤ w.heap.size + 1; omega) _))
  clear hq0 hq1 hq2 hq3 hq4
  have CB2 := Lib.hid (CB.out ((((((W1).setCell ⟨w.heap.size + 1, 23, none⟩ (.slice none 0 0)).setCell ⟨w.heap.size + 1, 24, none⟩ (.slice none 0 0)).setCell ⟨w.heap.size + 1, 21, none⟩ (.string ⟨#[]⟩)).setCell ⟨w.heap.size + 1, 22, none⟩ (.string ⟨#[]⟩)).setCell ⟨w.heap.size + 1, 3, none⟩ (.int .i64 0)))
  go_upto_region 25 with fail
  clear cq0 fq0 cq1 fq1 cq2 fq2 cq3 fq3 cq4 fq4
  generalize (((((W1).setCell ⟨w.heap.size + 1, 23, none⟩ (.slice none 0 0)).setCell ⟨w.heap.size + 1, 24, none⟩ (.slice none 0 0)).setCell ⟨w.heap.size + 1, 21, none⟩ (.string ⟨#[]⟩)).setCell ⟨w.heap.size + 1, 22, none⟩ (.string ⟨#[]⟩)).setCell ⟨w.heap.size + 1, 3, none⟩ (.int .i64 0) = W2 at HFIN HBF CB2 ⊢
  go_wp2_with (with_reducible refine wpList_load_row rfl 43 (.tmp 3) rfl (w.heap.size + 1) rfl 43 cf (0, 0) _ HFIN.out Try.underlying43 rfl HSF.out ?_)
  refine CB2.out.mono ?_
  rintro e w3 ⟨rfl, hb3⟩
  have HE := Lib.hid (HBF.out.trans (hb3.mono HBF.out.size))
  clear hb3
  go_wp2_with fail
  go_ret
  exact ⟨rfl, HE.out⟩

set_option maxHeartbeats 16000000 in
set_option maxRecDepth 100000 in
theorem fits_10 (n : NtL) (P : NtP) (w : World) (hkd : n.kd = 10) : Calls Try.prog 23 #[ntV n P] w fun e w' => e = .returned (.bool (bareB ({ n with sf := [], st := [], ep := 0 }))) ∧ Below w.heap.size w w' := by
  have CB := Lib.hid (fun w1 => isBare_any ({ n with sf := [], st := [], ep := 0 }) P w1)
  generalize bareB ({ n with sf := [], st := [], ep := 0 }) = R at CB ⊢
  unfold ntV at CB ⊢
  obtain ⟨c, hc⟩ : ∃ c, (ntList n P).toArray = c := ⟨_, rfl⟩
  obtain ⟨cf, hcf⟩ : ∃ cf, (ntList ({ n with sf := [], st := [], ep := 0 }) P).toArray = cf := ⟨_, rfl⟩
  rw [hcf] at CB
  have HEQ := Lib.hid (show (((c).setIfInBounds 21 (.string ⟨#[]⟩)).setIfInBounds 22 (.string ⟨#[]⟩)).setIfInBounds 3 (.int .i64 0) = cf from by subst hc hcf; rfl)
  have hcs : c.size = 27 := by rw [← hc]; rfl
  have HSZ := Lib.hid (show (Try.prog.info? 43).map (·.size) = some c.size by rw [hcs]; exact info_note)
  have HSF := Lib.hid (show (Try.prog.info? 43).map (·.size) = some cf.size by rw [← hcf]; exact info_note)
  have HONE := Lib.hid (show c.all (·.oneCell') = true by rw [← hc]; exact nt_one n P)
  have C0 := Lib.hid (show c[0]? = some (.int .i64 10) by rw [← hc]; exact congrArg (fun x => some (Value.int .i64 x)) hkd)
  have C3 := Lib.hid (show c[3]? = some (.int .i64 n.ep) by rw [← hc]; rfl)
  have C21 := Lib.hid (show c[21]? = some (.string (strB n.sf)) by rw [← hc]; rfl)
  have C22 := Lib.hid (show c[22]? = some (.string (strB n.st)) by rw [← hc]; rfl)
  rw [hc]
  obtain ⟨W0, hW0⟩ : ∃ W0, w.alloc (.cells c 43) = W0 := ⟨_, rfl⟩
  obtain ⟨W1, hW1⟩ : ∃ W1, W0.alloc (.cells c 43) = W1 := ⟨_, rfl⟩
  have hb0 : Below w.heap.size w W0 := hW0 ▸ (Below.refl _ _).alloc (Nat.le_refl _) _
  have hz0 : W0.heap.size = w.heap.size + 1 := by rw [← hW0]; simp
  have hz1 : W1.heap.size = w.heap.size + 2 := by rw [← hW1, World.size_alloc, hz0]
  have hb1 : Below W0.heap.size W0 W1 := hW1 ▸ (Below.refl _ _).alloc (Nat.le_refl _) _
  have hk0 : W0.heap[w.heap.size]? = some (.cells c 43 (0, 0)) := hW0 ▸ new_block w _ _
  have hk1 : W1.heap[w.heap.size]? = some (.cells c 43 (0, 0)) := by rw [hb1.block _ (by omega)]; exact hk0
  have hj1 : W1.heap[w.heap.size + 1]? = some (.cells c 43 (0, 0)) := by rw [← hz0, ← hW1]; exact new_block W0 _ _
  have HST := Lib.hid (note_store W0 c (w.heap.size + 1) hz0 hcs)
  rw [hW1] at HST
  have HB := Lib.hid (hb0.trans (hb1.mono (by omega)))
  have HW0 := Lib.hid hW0
  have HZ0 := Lib.hid hz0
  have HZ1 := Lib.hid hz1
  have HK0 := Lib.hid hk0
  have HK1 := Lib.hid hk1
  have HJ1 := Lib.hid hj1
  have t0 := (cell_at hk1 0).trans C0.out
  clear hc hcf hcs hW0 hW1 hb0 hz0 hb1 hk0 hk1 hj1 hz1 hkd
  go_enter Try.func23, Try.ntmps23
  go_upto_region 1 with fail
  rw [HW0.out]
  have hzz := HZ0.out
  go_upto_region 2 with (first | (with_reducible refine wpList_load_row rfl 43 (.tmp 1) rfl w.heap.size rfl 43 c (0, 0) _ HK0.out Try.underlying43 rfl HSZ.out ?_) | (with_reducible refine wpList_store_row rfl 43 (.tmp 3) (.tmp 4) rfl (w.heap.size + 1) c rfl rfl 43 noteZ HST.out.1 HSZ.out HST.out.2.1 HONE.out ?_))
  rw [HST.out.2.2]
  clear hzz
  have cq0 := (cell_at HJ1.out 21).trans (C21.out : _ = some (.string (strB n.sf)))
  have fq0 := frozen_at HJ1.out 21
  have hq0 := set_at HJ1.out 21 (.string ⟨#[]⟩)
  have cq1 := (cell_at hq0 22).trans (by simp [C22.out] : _ = some (.string (strB n.st)))
  have fq1 := frozen_at hq0 22
  have hq1 := set_at hq0 22 (.string ⟨#[]⟩)
  have cq2 := (cell_at hq1 3).trans (by simp [C3.out] : _ = some (.int .i64 n.ep))
  have fq2 := frozen_at hq1 3
  have hq2 := set_at hq1 3 (.int .i64 0)
  have HFIN := Lib.hid (show ((((W1).setCell ⟨w.heap.size + 1, 21, none⟩ (.string ⟨#[]⟩)).setCell ⟨w.heap.size + 1, 22, none⟩ (.string ⟨#[]⟩)).setCell ⟨w.heap.size + 1, 3, none⟩ (.int .i64 0)).heap[w.heap.size + 1]? = some (.cells cf 43 (0, 0)) by rw [← HEQ.out]; exact hq2)
  have HBF := Lib.hid (show Below w.heap.size w ((((W1).setCell ⟨w.heap.size + 1, 21, none⟩ (.string ⟨#[]⟩)).setCell ⟨w.heap.size + 1, 22, none⟩ (.string ⟨#[]⟩)).setCell ⟨w.heap.size + 1, 3, none⟩ (.int .i64 0)) from (((HB.out.setCell (p := ⟨w.heap.size + 1, 21, none⟩) (by show w.heap.size ≤ w.heap.size + 1; omega) _).setCell (p := ⟨w.heap.size + 1, 22, none⟩) (by show w.heap.size ≤ w.heap.size + 1; omega) _).setCell (p := ⟨w.heap.size + 1, 3, none⟩) (by show w.heap.size ≤ w.heap.size + 1; omega) _))
  clear hq0 hq1 hq2
  have CB2 := Lib.hid (CB.out ((((W1).setCell ⟨w.heap.size + 1, 21, none⟩ (.string ⟨#[]⟩)).setCell ⟨w.heap.size + 1, 22, none⟩ (.string ⟨#[]⟩)).setCell ⟨w.heap.size + 1, 3, none⟩ (.int .i64 0)))
  go_upto_region 25 with fail
  clear cq0 fq0 cq1 fq1 cq2 fq2
  generalize (((W1).setCell ⟨w.heap.size + 1, 21, none⟩ (.string ⟨#[]⟩)).setCell ⟨w.heap.size + 1, 22, none⟩ (.string ⟨#[]⟩)).setCell ⟨w.heap.size + 1, 3, none⟩ (.int .i64 0) = W2 at HFIN HBF CB2 ⊢
  go_wp2_with (with_reducible refine wpList_load_row rfl 43 (.tmp 3) rfl (w.heap.size + 1) rfl 43 cf (0, 0) _ HFIN.out Try.underlying43 rfl HSF.out ?_)
  refine CB2.out.mono ?_
  rintro e w3 ⟨rfl, hb3⟩
  have HE := Lib.hid (HBF.out.trans (hb3.mono HBF.out.size))
  clear hb3
  go_wp2_with fail
  go_ret
  exact ⟨rfl, HE.out⟩

set_option maxHeartbeats 16000000 in
set_option maxRecDepth 100000 in
theorem fits_11 (n : NtL) (P : NtP) (w : World) (hkd : n.kd = 11) : Calls Try.prog 23 #[ntV n P] w fun e w' => e = .returned (.bool (bareB ({ n with sf := [], st := [], ep := 0 }))) ∧ Below w.heap.size w w' := by
  have CB := Lib.hid (fun w1 => isBare_any ({ n with sf := [], st := [], ep := 0 }) P w1)
  generalize bareB ({ n with sf := [], st := [], ep := 0 }) = R at CB ⊢
  unfold ntV at CB ⊢
  obtain ⟨c, hc⟩ : ∃ c, (ntList n P).toArray = c := ⟨_, rfl⟩
  obtain ⟨cf, hcf⟩ : ∃ cf, (ntList ({ n with sf := [], st := [], ep := 0 }) P).toArray = cf := ⟨_, rfl⟩
  rw [hcf] at CB
  have HEQ := Lib.hid (show (((c).setIfInBounds 21 (.string ⟨#[]⟩)).setIfInBounds 22 (.string ⟨#[]⟩)).setIfInBounds 3 (.int .i64 0) = cf from by subst hc hcf; rfl)
  have hcs : c.size = 27 := by rw [← hc]; rfl
  have HSZ := Lib.hid (show (Try.prog.info? 43).map (·.size) = some c.size by rw [hcs]; exact info_note)
  have HSF := Lib.hid (show (Try.prog.info? 43).map (·.size) = some cf.size by rw [← hcf]; exact info_note)
  have HONE := Lib.hid (show c.all (·.oneCell') = true by rw [← hc]; exact nt_one n P)
  have C0 := Lib.hid (show c[0]? = some (.int .i64 11) by rw [← hc]; exact congrArg (fun x => some (Value.int .i64 x)) hkd)
  have C3 := Lib.hid (show c[3]? = some (.int .i64 n.ep) by rw [← hc]; rfl)
  have C21 := Lib.hid (show c[21]? = some (.string (strB n.sf)) by rw [← hc]; rfl)
  have C22 := Lib.hid (show c[22]? = some (.string (strB n.st)) by rw [← hc]; rfl)
  rw [hc]
  obtain ⟨W0, hW0⟩ : ∃ W0, w.alloc (.cells c 43) = W0 := ⟨_, rfl⟩
  obtain ⟨W1, hW1⟩ : ∃ W1, W0.alloc (.cells c 43) = W1 := ⟨_, rfl⟩
  have hb0 : Below w.heap.size w W0 := hW0 ▸ (Below.refl _ _).alloc (Nat.le_refl _) _
  have hz0 : W0.heap.size = w.heap.size + 1 := by rw [← hW0]; simp
  have hz1 : W1.heap.size = w.heap.size + 2 := by rw [← hW1, World.size_alloc, hz0]
  have hb1 : Below W0.heap.size W0 W1 := hW1 ▸ (Below.refl _ _).alloc (Nat.le_refl _) _
  have hk0 : W0.heap[w.heap.size]? = some (.cells c 43 (0, 0)) := hW0 ▸ new_block w _ _
  have hk1 : W1.heap[w.heap.size]? = some (.cells c 43 (0, 0)) := by rw [hb1.block _ (by omega)]; exact hk0
  have hj1 : W1.heap[w.heap.size + 1]? = some (.cells c 43 (0, 0)) := by rw [← hz0, ← hW1]; exact new_block W0 _ _
  have HST := Lib.hid (note_store W0 c (w.heap.size + 1) hz0 hcs)
  rw [hW1] at HST
  have HB := Lib.hid (hb0.trans (hb1.mono (by omega)))
  have HW0 := Lib.hid hW0
  have HZ0 := Lib.hid hz0
  have HZ1 := Lib.hid hz1
  have HK0 := Lib.hid hk0
  have HK1 := Lib.hid hk1
  have HJ1 := Lib.hid hj1
  have t0 := (cell_at hk1 0).trans C0.out
  clear hc hcf hcs hW0 hW1 hb0 hz0 hb1 hk0 hk1 hj1 hz1 hkd
  go_enter Try.func23, Try.ntmps23
  go_upto_region 1 with fail
  rw [HW0.out]
  have hzz := HZ0.out
  go_upto_region 2 with (first | (with_reducible refine wpList_load_row rfl 43 (.tmp 1) rfl w.heap.size rfl 43 c (0, 0) _ HK0.out Try.underlying43 rfl HSZ.out ?_) | (with_reducible refine wpList_store_row rfl 43 (.tmp 3) (.tmp 4) rfl (w.heap.size + 1) c rfl rfl 43 noteZ HST.out.1 HSZ.out HST.out.2.1 HONE.out ?_))
  rw [HST.out.2.2]
  clear hzz
  have cq0 := (cell_at HJ1.out 21).trans (C21.out : _ = some (.string (strB n.sf)))
  have fq0 := frozen_at HJ1.out 21
  have hq0 := set_at HJ1.out 21 (.string ⟨#[]⟩)
  have cq1 := (cell_at hq0 22).trans (by simp [C22.out] : _ = some (.string (strB n.st)))
  have fq1 := frozen_at hq0 22
  have hq1 := set_at hq0 22 (.string ⟨#[]⟩)
  have cq2 := (cell_at hq1 3).trans (by simp [C3.out] : _ = some (.int .i64 n.ep))
  have fq2 := frozen_at hq1 3
  have hq2 := set_at hq1 3 (.int .i64 0)
  have HFIN := Lib.hid (show ((((W1).setCell ⟨w.heap.size + 1, 21, none⟩ (.string ⟨#[]⟩)).setCell ⟨w.heap.size + 1, 22, none⟩ (.string ⟨#[]⟩)).setCell ⟨w.heap.size + 1, 3, none⟩ (.int .i64 0)).heap[w.heap.size + 1]? = some (.cells cf 43 (0, 0)) by rw [← HEQ.out]; exact hq2)
  have HBF := Lib.hid (show Below w.heap.size w ((((W1).setCell ⟨w.heap.size + 1, 21, none⟩ (.string ⟨#[]⟩)).setCell ⟨w.heap.size + 1, 22, none⟩ (.string ⟨#[]⟩)).setCell ⟨w.heap.size + 1, 3, none⟩ (.int .i64 0)) from (((HB.out.setCell (p := ⟨w.heap.size + 1, 21, none⟩) (by show w.heap.size ≤ w.heap.size + 1; omega) _).setCell (p := ⟨w.heap.size + 1, 22, none⟩) (by show w.heap.size ≤ w.heap.size + 1; omega) _).setCell (p := ⟨w.heap.size + 1, 3, none⟩) (by show w.heap.size ≤ w.heap.size + 1; omega) _))
  clear hq0 hq1 hq2
  have CB2 := Lib.hid (CB.out ((((W1).setCell ⟨w.heap.size + 1, 21, none⟩ (.string ⟨#[]⟩)).setCell ⟨w.heap.size + 1, 22, none⟩ (.string ⟨#[]⟩)).setCell ⟨w.heap.size + 1, 3, none⟩ (.int .i64 0)))
  go_upto_region 25 with fail
  clear cq0 fq0 cq1 fq1 cq2 fq2
  generalize (((W1).setCell ⟨w.heap.size + 1, 21, none⟩ (.string ⟨#[]⟩)).setCell ⟨w.heap.size + 1, 22, none⟩ (.string ⟨#[]⟩)).setCell ⟨w.heap.size + 1, 3, none⟩ (.int .i64 0) = W2 at HFIN HBF CB2 ⊢
  go_wp2_with (with_reducible refine wpList_load_row rfl 43 (.tmp 3) rfl (w.heap.size + 1) rfl 43 cf (0, 0) _ HFIN.out Try.underlying43 rfl HSF.out ?_)
  refine CB2.out.mono ?_
  rintro e w3 ⟨rfl, hb3⟩
  have HE := Lib.hid (HBF.out.trans (hb3.mono HBF.out.size))
  clear hb3
  go_wp2_with fail
  go_ret
  exact ⟨rfl, HE.out⟩

set_option maxHeartbeats 16000000 in
set_option maxRecDepth 100000 in
theorem fits_12 (n : NtL) (P : NtP) (w : World) (hkd : n.kd = 12) : Calls Try.prog 23 #[ntV n P] w fun e w' => e = .returned (.bool (bareB ({ n with sf := [], st := [], ep := 0 }))) ∧ Below w.heap.size w w' := by
  have CB := Lib.hid (fun w1 => isBare_any ({ n with sf := [], st := [], ep := 0 }) P w1)
  generalize bareB ({ n with sf := [], st := [], ep := 0 }) = R at CB ⊢
  unfold ntV at CB ⊢
  obtain ⟨c, hc⟩ : ∃ c, (ntList n P).toArray = c := ⟨_, rfl⟩
  obtain ⟨cf, hcf⟩ : ∃ cf, (ntList ({ n with sf := [], st := [], ep := 0 }) P).toArray = cf := ⟨_, rfl⟩
  rw [hcf] at CB
  have HEQ := Lib.hid (show (((c).setIfInBounds 21 (.string ⟨#[]⟩)).setIfInBounds 22 (.string ⟨#[]⟩)).setIfInBounds 3 (.int .i64 0) = cf from by subst hc hcf; rfl)
  have hcs : c.size = 27 := by rw [← hc]; rfl
  have HSZ := Lib.hid (show (Try.prog.info? 43).map (·.size) = some c.size by rw [hcs]; exact info_note)
  have HSF := Lib.hid (show (Try.prog.info? 43).map (·.size) = some cf.size by rw [← hcf]; exact info_note)
  have HONE := Lib.hid (show c.all (·.oneCell') = true by rw [← hc]; exact nt_one n P)
  have C0 := Lib.hid (show c[0]? = some (.int .i64 12) by rw [← hc]; exact congrArg (fun x => some (Value.int .i64 x)) hkd)
  have C3 := Lib.hid (show c[3]? = some (.int .i64 n.ep) by rw [← hc]; rfl)
  have C21 := Lib.hid (show c[21]? = some (.string (strB n.sf)) by rw [← hc]; rfl)
  have C22 := Lib.hid (show c[22]? = some (.string (strB n.st)) by rw [← hc]; rfl)
  rw [hc]
  obtain ⟨W0, hW0⟩ : ∃ W0, w.alloc (.cells c 43) = W0 := ⟨_, rfl⟩
  obtain ⟨W1, hW1⟩ : ∃ W1, W0.alloc (.cells c 43) = W1 := ⟨_, rfl⟩
  have hb0 : Below w.heap.size w W0 := hW0 ▸ (Below.refl _ _).alloc (Nat.le_refl _) _
  have hz0 : W0.heap.size = w.heap.size + 1 := by rw [← hW0]; simp
  have hz1 : W1.heap.size = w.heap.size + 2 := by rw [← hW1, World.size_alloc, hz0]
  have hb1 : Below W0.heap.size W0 W1 := hW1 ▸ (Below.refl _ _).alloc (Nat.le_refl _) _
  have hk0 : W0.heap[w.heap.size]? = some (.cells c 43 (0, 0)) := hW0 ▸ new_block w _ _
  have hk1 : W1.heap[w.heap.size]? = some (.cells c 43 (0, 0)) := by rw [hb1.block _ (by omega)]; exact hk0
  have hj1 : W1.heap[w.heap.size + 1]? = some (.cells c 43 (0, 0)) := by rw [← hz0, ← hW1]; exact new_block W0 _ _
  have HST := Lib.hid (note_store W0 c (w.heap.size + 1) hz0 hcs)
  rw [hW1] at HST
  have HB := Lib.hid (hb0.trans (hb1.mono (by omega)))
  have HW0 := Lib.hid hW0
  have HZ0 := Lib.hid hz0
  have HZ1 := Lib.hid hz1
  have HK0 := Lib.hid hk0
  have HK1 := Lib.hid hk1
  have HJ1 := Lib.hid hj1
  have t0 := (cell_at hk1 0).trans C0.out
  clear hc hcf hcs hW0 hW1 hb0 hz0 hb1 hk0 hk1 hj1 hz1 hkd
  go_enter Try.func23, Try.ntmps23
  go_upto_region 1 with fail
  rw [HW0.out]
  have hzz := HZ0.out
  go_upto_region 2 with (first | (with_reducible refine wpList_load_row rfl 43 (.tmp 1) rfl w.heap.size rfl 43 c (0, 0) _ HK0.out Try.underlying43 rfl HSZ.out ?_) | (with_reducible refine wpList_store_row rfl 43 (.tmp 3) (.tmp 4) rfl (w.heap.size + 1) c rfl rfl 43 noteZ HST.out.1 HSZ.out HST.out.2.1 HONE.out ?_))
  rw [HST.out.2.2]
  clear hzz
  have cq0 := (cell_at HJ1.out 21).trans (C21.out : _ = some (.string (strB n.sf)))
  have fq0 := frozen_at HJ1.out 21
  have hq0 := set_at HJ1.out 21 (.string ⟨#[]⟩)
  have cq1 := (cell_at hq0 22).trans (by simp [C22.out] : _ = some (.string (strB n.st)))
  have fq1 := frozen_at hq0 22
  have hq1 := set_at hq0 22 (.string ⟨#[]⟩)
  have cq2 := (cell_at hq1 3).trans (by simp [C3.out] : _ = some (.int .i64 n.ep))
  have fq2 := frozen_at hq1 3
  have hq2 := set_at hq1 3 (.int .i64 0)
  have HFIN := Lib.hid (show ((((W1).setCell ⟨w.heap.size + 1, 21, none⟩ (.string ⟨#[]⟩)).setCell ⟨w.heap.size + 1, 22, none⟩ (.string ⟨#[]⟩)).setCell ⟨w.heap.size + 1, 3, none⟩ (.int .i64 0)).heap[w.heap.size + 1]? = some (.cells cf 43 (0, 0)) by rw [← HEQ.out]; exact hq2)
  have HBF := Lib.hid (show Below w.heap.size w ((((W1).setCell ⟨w.heap.size + 1, 21, none⟩ (.string ⟨#[]⟩)).setCell ⟨w.heap.size + 1, 22, none⟩ (.string ⟨#[]⟩)).setCell ⟨w.heap.size + 1, 3, none⟩ (.int .i64 0)) from (((HB.out.setCell (p := ⟨w.heap.size + 1, 21, none⟩) (by show w.heap.size ≤ w.heap.size + 1; omega) _).setCell (p := ⟨w.heap.size + 1, 22, none⟩) (by show w.heap.size ≤ w.heap.size + 1; omega) _).setCell (p := ⟨w.heap.size + 1, 3, none⟩) (by show w.heap.size ≤ w.heap.size + 1; omega) _))
  clear hq0 hq1 hq2
  have CB2 := Lib.hid (CB.out ((((W1).setCell ⟨w.heap.size + 1, 21, none⟩ (.string ⟨#[]⟩)).setCell ⟨w.heap.size + 1, 22, none⟩ (.string ⟨#[]⟩)).setCell ⟨w.heap.size + 1, 3, none⟩ (.int .i64 0)))
  go_upto_region 25 with fail
  clear cq0 fq0 cq1 fq1 cq2 fq2
  generalize (((W1).setCell ⟨w.heap.size + 1, 21, none⟩ (.string ⟨#[]⟩)).setCell ⟨w.heap.size + 1, 22, none⟩ (.string ⟨#[]⟩)).setCell ⟨w.heap.size + 1, 3, none⟩ (.int .i64 0) = W2 at HFIN HBF CB2 ⊢
  go_wp2_with (with_reducible refine wpList_load_row rfl 43 (.tmp 3) rfl (w.heap.size + 1) rfl 43 cf (0, 0) _ HFIN.out Try.underlying43 rfl HSF.out ?_)
  refine CB2.out.mono ?_
  rintro e w3 ⟨rfl, hb3⟩
  have HE := Lib.hid (HBF.out.trans (hb3.mono HBF.out.size))
  clear hb3
  go_wp2_with fail
  go_ret
  exact ⟨rfl, HE.out⟩

end Go.Proofs.Ytfadpiipigkocaa
