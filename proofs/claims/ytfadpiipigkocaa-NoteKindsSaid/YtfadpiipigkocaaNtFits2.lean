/-
  Layer note: fits.
-/
import Derived.Test.YtfadpiipigkocaaMg18
namespace Go.Proofs.Ytfadpiipigkocaa
open Go.RowKit Go.Gz


set_option maxHeartbeats 16000000 in
set_option maxRecDepth 100000 in
theorem fits_2 (n : NtL) (P : NtP) (w : World) (hkd : n.kd = 2) : Calls Try.prog 23 #[ntV n P] w fun e w' => e = .returned (.bool (bareB ({ n with rep := repZ }))) ∧ Below w.heap.size w w' := by
  have CB := Lib.hid (fun w1 => isBare_any ({ n with rep := repZ }) ({ P with rp := none, rk := 0 }) w1)
  generalize bareB ({ n with rep := repZ }) = R at CB ⊢
  unfold ntV at CB ⊢
  obtain ⟨c, hc⟩ : ∃ c, (ntList n P).toArray = c := ⟨_, rfl⟩
  obtain ⟨cf, hcf⟩ : ∃ cf, (ntList ({ n with rep := repZ }) ({ P with rp := none, rk := 0 })).toArray = cf := ⟨_, rfl⟩
  rw [hcf] at CB
  have HEQ := Lib.hid (show ((((((((c).setIfInBounds 13 (.int .i64 0)).setIfInBounds 14 (.int .i64 0)).setIfInBounds 15 (.int .i64 0)).setIfInBounds 16 (.bool false)).setIfInBounds 17 (.string ⟨#[]⟩)).setIfInBounds 18 (.slice none 0 0)).setIfInBounds 19 (.string ⟨#[]⟩)).setIfInBounds 20 (.bool false) = cf from by subst hc hcf; rfl)
  have hcs : c.size = 27 := by rw [← hc]; rfl
  have HSZ := Lib.hid (show (Try.prog.info? 43).map (·.size) = some c.size by rw [hcs]; exact info_note)
  have HSF := Lib.hid (show (Try.prog.info? 43).map (·.size) = some cf.size by rw [← hcf]; exact info_note)
  have HONE := Lib.hid (show c.all (·.oneCell') = true by rw [← hc]; exact nt_one n P)
  have C0 := Lib.hid (show c[0]? = some (.int .i64 2) by rw [← hc]; exact congrArg (fun x => some (Value.int .i64 x)) hkd)
  have C13 := Lib.hid (show c[13]? = some (.int .i64 n.rep.c) by rw [← hc]; rfl)
  have C14 := Lib.hid (show c[14]? = some (.int .i64 n.rep.s) by rw [← hc]; rfl)
  have C15 := Lib.hid (show c[15]? = some (.int .i64 n.rep.e) by rw [← hc]; rfl)
  have C16 := Lib.hid (show c[16]? = some (.bool n.rep.fd) by rw [← hc]; rfl)
  have C17 := Lib.hid (show c[17]? = some (.string (strB n.rep.v)) by rw [← hc]; rfl)
  have C18 := Lib.hid (show c[18]? = some (.slice P.rp n.rep.ls.length P.rk) by rw [← hc]; rfl)
  have C19 := Lib.hid (show c[19]? = some (.string (strB n.rep.nx)) by rw [← hc]; rfl)
  have C20 := Lib.hid (show c[20]? = some (.bool n.rep.mr) by rw [← hc]; rfl)
  rw [hc]
  obtain ⟨W0, hW0⟩ : ∃ W0, w.alloc (.cells c 43) = W0 := ⟨_, rfl⟩
  obtain ⟨W1, hW1⟩ : ∃ W1, W0.alloc (.cells c 43) = W1 := ⟨_, rfl⟩
  have hb0 : Below w.heap.size w W0 := hW0 ▸ (Below.refl _ _).alloc (Nat.le_refl _) _
  have hz0 : W0.heap.size = w.heap.size + 1 := by rw [← hW0]; simp
  have hz1 : W1.heap.size = w.heap.size + 2 := by rw [← hW1, World.size_alloc, hz0]
  have hb1 : Below W0.heap.size W0 W1 := hW1 ▸ (Below.refl _ _).alloc (Nat.le_refl _) _
  have hk0 : W0.heap[w.heap.size]? = some (.cells c 43 (0, 0)) := hW0 ▸ new_block w _ _
  have hk1 : W1.heap[w.heap.size]? = some (.cells c 43 (0, 0)) := by rw [hb1.block _ (by omega)]; exact hk0
  have hj1 : W1.heap[w.heap.size + 1]? = some (.cells c 43 (0, 0)) := by rw [← hz0, ← hW1]; exact new_block W0 _ _
  have HST := Lib.hid (note_store W0 c (w.heap.size + 1) hz0 hcs)
  rw [hW1] at HST
  have HB := Lib.hid (hb0.trans (hb1.mono (by omega)))
  have HW0 := Lib.hid hW0
  have HZ0 := Lib.hid hz0
  have HZ1 := Lib.hid hz1
  have HK0 := Lib.hid hk0
  have HK1 := Lib.hid hk1
  have HJ1 := Lib.hid hj1
  have t0 := (cell_at hk1 0).trans C0.out
  clear hc hcf hcs hW0 hW1 hb0 hz0 hb1 hk0 hk1 hj1 hz1 hkd
  go_enter Try.func23, Try.ntmps23
  go_upto_region 1 with fail
  rw [HW0.out]
  have hzz := HZ0.out
  go_upto_region 2 with (first | (with_reducible refine wpList_load_row rfl 43 (.tmp 1) rfl w.heap.size rfl 43 c (0, 0) _ HK0.out Try.underlying43 rfl HSZ.out ?_) | (with_reducible refine wpList_store_row rfl 43 (.tmp 3) (.tmp 4) rfl (w.heap.size + 1) c rfl rfl 43 noteZ HST.out.1 HSZ.out HST.out.2.1 HONE.out ?_))
  rw [HST.out.2.2]
  clear hzz
  have cq0 := (cell_at HJ1.out 13).trans (C13.out : _ = some (.int .i64 n.rep.c))
  have fq0 := frozen_at HJ1.out 13
  have hq0 := set_at HJ1.out 13 (.int .i64 0)
  have cq1 := (cell_at hq0 14).trans (by simp [C14.out] : _ = some (.int .i64 n.rep.s))
  have fq1 := frozen_at hq0 14
  have hq1 := set_at hq0 14 (.int .i64 0)
  have cq2 := (cell_at hq1 15).trans (by simp [C15.out] : _ = some (.int .i64 n.rep.e))
  have fq2 := frozen_at hq1 15
  have hq2 := set_at hq1 15 (.int .i64 0)
  have cq3 := (cell_at hq2 16).trans (by simp [C16.out] : _ = some (.bool n.rep.fd))
  have fq3 := frozen_at hq2 16
  have hq3 := set_at hq2 16 (.bool false)
  have cq4 := (cell_at hq3 17).trans (by simp [C17.out] : _ = some (.string (strB n.rep.v)))
  have fq4 := frozen_at hq3 17
  have hq4 := set_at hq3 17 (.string ⟨#[]⟩)
  have cq5 := (cell_at hq4 18).trans (by simp [C18.out] : _ = some (.slice P.rp n.rep.ls.length P.rk))
  have fq5 := frozen_at hq4 18
  have hq5 := set_at hq4 18 (.slice none 0 0)
  have cq6 := (cell_at hq5 19).trans (by simp [C19.out] : _ = some (.string (strB n.rep.nx)))
  have fq6 := frozen_at hq5 19
  have hq6 := set_at hq5 19 (.string ⟨#[]⟩)
  have cq7 := (cell_at hq6 20).trans (by simp [C20.out] : _ = some (.bool n.rep.mr))
  have fq7 := frozen_at hq6 20
  have hq7 := set_at hq6 20 (.bool false)
  have HFIN := Lib.hid (show (((((((((W1).setCell ⟨w.heap.size + 1, 13, none⟩ (.int .i64 0)).setCell ⟨w.heap.size + 1, 14, none⟩ (.int .i64 0)).setCell ⟨w.heap.size + 1, 15, none⟩ (.int .i64 0)).setCell ⟨w.heap.size + 1, 16, none⟩ (.bool false)).setCell ⟨w.heap.size + 1, 17, none⟩ (.string ⟨#[]⟩)).setCell ⟨w.heap.size + 1, 18, none⟩ (.slice none 0 0)).setCell ⟨w.heap.size + 1, 19, none⟩ (.string ⟨#[]⟩)).setCell ⟨w.heap.size + 1, 20, none⟩ (.bool false)).heap[w.heap.size + 1]? = some (.cells cf 43 (0, 0)) by rw [← HEQ.out]; exact hq7)
  have HBF := Lib.hid (show Below w.heap.size w (((((((((W1).setCell ⟨w.heap.size + 1, 13, none⟩ (.int .i64 0)).setCell ⟨w.heap.size + 1, 14, none⟩ (.int .i64 0)).setCell ⟨w.heap.size + 1, 15, none⟩ (.int .i64 0)).setCell ⟨w.heap.size + 1, 16, none⟩ (.bool false)).setCell ⟨w.heap.size + 1, 17, none⟩ (.string ⟨#[]⟩)).setCell ⟨w.heap.size + 1, 18, none⟩ (.slice none 0 0)).setCell ⟨w.heap.size + 1, 19, none⟩ (.string ⟨#[]⟩)).setCell ⟨w.heap.size + 1, 20, none⟩ (.bool false)) from ((((((((HB.out.setCell (p := ⟨w.heap.size + 1, 13, none⟩) (by show w.heap.size ≤ w.heap.size + 1; omega) _).setCell (p := ⟨w.heap.size + 1, 14, none⟩) (by show w.heap.size ≤ w.heap.size + 1; omega) _).setCell (p := ⟨w.heap.size + 1, 15, none⟩) (by show w.heap.size ≤ w.heap.size + 1; omega) _).setCell (p := ⟨w.heap.size + 1, 16, none⟩) (by show w.heap.size ≤ w.heap.size + 1; omega) _).setCell (p := ⟨w.heap.size + 1, 17, none⟩) (by show w.heap.size ≤ w.heap.size + 1; omega) _).setCell (p := ⟨w.heap.size + 1, 18, none⟩) (by show w.heap.size ≤ w.heap.size + 1; omega) _).setCell (p := ⟨w.heap.size + 1, 19, none⟩) (by show w.heap.size ≤ w.heap.size + 1; omega) _).setCell (p := ⟨w.heap.size + 1, 20, none⟩) (by show w.heap.size ≤ w.heap.size + 1; omega) _))
  clear hq0 hq1 hq2 hq3 hq4 hq5 hq6 hq7
  have CB2 := Lib.hid (CB.out (((((((((W1).setCell ⟨w.heap.size + 1, 13, none⟩ (.int .i64 0)).setCell ⟨w.heap.size + 1, 14, none⟩ (.int .i64 0)).setCell ⟨w.heap.size + 1, 15, none⟩ (.int .i64 0)).setCell ⟨w.heap.size + 1, 16, none⟩ (.bool false)).setCell ⟨w.heap.size + 1, 17, none⟩ (.string ⟨#[]⟩)).setCell ⟨w.heap.size + 1, 18, none⟩ (.slice none 0 0)).setCell ⟨w.heap.size + 1, 19, none⟩ (.string ⟨#[]⟩)).setCell ⟨w.heap.size + 1, 20, none⟩ (.bool false)))
  go_upto_region 25 with fail
  clear cq0 fq0 cq1 fq1 cq2 fq2 cq3 fq3 cq4 fq4 cq5 fq5 cq6 fq6 cq7 fq7
  generalize ((((((((W1).setCell ⟨w.heap.size + 1, 13, none⟩ (.int .i64 0)).setCell ⟨w.heap.size + 1, 14, none⟩ (.int .i64 0)).setCell ⟨w.heap.size + 1, 15, none⟩ (.int .i64 0)).setCell ⟨w.heap.size + 1, 16, none⟩ (.bool false)).setCell ⟨w.heap.size + 1, 17, none⟩ (.string ⟨#[]⟩)).setCell ⟨w.heap.size + 1, 18, none⟩ (.slice none 0 0)).setCell ⟨w.heap.size + 1, 19, none⟩ (.string ⟨#[]⟩)).setCell ⟨w.heap.size + 1, 20, none⟩ (.bool false) = W2 at HFIN HBF CB2 ⊢
  go_wp2_with (with_reducible refine wpList_load_row rfl 43 (.tmp 3) rfl (w.heap.size + 1) rfl 43 cf (0, 0) _ HFIN.out Try.underlying43 rfl HSF.out ?_)
  refine CB2.out.mono ?_
  rintro e w3 ⟨rfl, hb3⟩
  have HE := Lib.hid (HBF.out.trans (hb3.mono HBF.out.size))
  clear hb3
  go_wp2_with fail
  go_ret
  exact ⟨rfl, HE.out⟩

end Go.Proofs.Ytfadpiipigkocaa
