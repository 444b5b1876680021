/-
  Layer once: Merge.
-/
import Derived.Test.YtjlkfoaccllflaaOnCat
import Derived.Test.YtjlkfoaccllflaaOnSet
namespace Go.Proofs.Ytjlkfoaccllflaa
open Go.RowKit Go.Gz Go.Maps

theorem mem_merge {L : List Ent} {x e : Ent} (h : e ∈ mergeE L x) : e = x ∨ e ∈ L := by
  unfold mergeE at h
  split at h
  · exact mem_putK h
  · exact Or.inr h
theorem mem_merges : ∀ (X L : List Ent) (e : Ent), e ∈ X.foldl mergeE L → e ∈ X ∨ e ∈ L
  | [], _, _, h => Or.inr h
  | x :: t, L, e, h => by
    rcases mem_merges t _ e h with h | h
    · exact Or.inl (by simp [h])
    · rcases mem_merge h with rfl | h
      · exact Or.inl (by simp)
      · exact Or.inr h
theorem merges_len : ∀ (X L : List Ent), (X.foldl mergeE L).length ≤ L.length + X.length
  | [], _ => by simp
  | x :: t, L => by
    have h1 := merges_len t (mergeE L x)
    have h2 := length_merge (L := L) (x := x)
    rw [List.foldl_cons, List.length_cons]
    omega
theorem merges_snoc (X : List Ent) (k : Nat) (h : k < X.length) : (X.take (k + 1)).foldl mergeE [] = mergeE ((X.take k).foldl mergeE []) (X.getD k default) := by
  rw [List.take_succ_eq_append_getElem h, List.foldl_append]
  simp [List.getD, h]
structure MgI (W : World) (b : Nat) (X : List Ent) (k : Nat) (wr : World) : Prop where
  map : IM wr b ((X.take k).foldl mergeE [])
  kept : Kept (fun i => i = b) W wr
/-- a store into the map. -/
theorem merge_store {W w3 : World} {b : Nat} {X : List Ent} {k : Nat} {e : Ent} (hk : k < X.length) (he : X.getD k default = e) (hX : X.length ≤ 10000) (him : IM w3 b ((X.take k).foldl mergeE [])) (hkp : Kept (fun i => i = b) W w3) (hwf : (Lit.int .i64 (ck e)).wf = true) (hg : grtB ((X.take k).foldl mergeE []) e = true) :
    ∃ w4, (Instr.mapUpdate 56 (.map (some b)) (.int .i64 (ck e)) e.val).run Try.prog w3 = .ok () w4 ∧ MgI W b X (k + 1) w4 := by
  obtain ⟨w4, hup, him4, hg4⟩ := him.store Try.underlying3 Try.underlying56 (by have := merges_len (X.take k) []; rw [List.length_take] at this; simp only [List.length_nil] at this; unfold maxLen; omega) e hwf
  refine ⟨w4, hup, ⟨?_, hkp.trans (Kept.grown (F := fun i => i = b) hg4 fun g e => by injection e with e; exact e.symm) fun _ _ e => e⟩⟩
  rw [merges_snoc X k hk, he, show mergeE ((X.take k).foldl mergeE []) e = putK ck e ((X.take k).foldl mergeE []) from if_pos hg]
  exact him4
theorem merge_skip {W w3 : World} {b : Nat} {X : List Ent} {k : Nat} {e : Ent} (hk : k < X.length) (he : X.getD k default = e) (him : IM w3 b ((X.take k).foldl mergeE [])) (hkp : Kept (fun i => i = b) W w3) (hg : grtB ((X.take k).foldl mergeE []) e = false) : MgI W b X (k + 1) w3 := by
  refine ⟨?_, hkp⟩
  rw [merges_snoc X k hk, he, show mergeE ((X.take k).foldl mergeE []) e = (X.take k).foldl mergeE [] from if_neg (by rw [hg]; decide)]
  exact him

set_option maxHeartbeats 8000000 in
set_option maxRecDepth 100000 in
theorem merge_any (w : World) (A B : List Ent) (p q : Option Addr) (ca cb : Nat) (hp : RowE w p A) (hq : RowE w q B) (hpc : p = none → ca = 0) (hqc : q = none → cb = 0) (hA : EntsIn w A) (hB : EntsIn w B) (hA1 : A.length ≤ 1000) (hB1 : B.length ≤ 1000) :
    Calls Try.prog 10 #[.slice p A.length ca, .slice q B.length cb] w (RetE 51 w ((semL A ++ semL B).foldl mergeS [])) := by
  obtain ⟨W1, hW1⟩ : ∃ W1, (w.alloc (.map #[] 0)).alloc (.cells #[.slice p A.length ca, .slice q B.length cb] 35) = W1 := ⟨_, rfl⟩
  have hb0 : Below w.heap.size w (w.alloc (.map #[] 0)) := (Below.refl _ _).alloc (Nat.le_refl _) _
  have hb1 : Below w.heap.size w W1 := hW1 ▸ hb0.alloc hb0.size _
  have hz : W1.heap.size = w.heap.size + 2 := by rw [← hW1]; simp
  have hx : W1.heap[w.heap.size + 1]? = some (.cells #[.slice p A.length ca, .slice q B.length cb] 35 (0, 0)) := by
    have := new_block (w.alloc (.map #[] 0)) #[.slice p A.length ca, .slice q B.length cb] 35
    rw [hW1] at this
    simpa using this
  have him : IM W1 w.heap.size [] := by
    refine (IMap.made w).block ?_
    rw [← hW1]
    exact ((Below.refl (w.alloc (.map #[] 0)).heap.size _).alloc (Nat.le_refl _) _).block w.heap.size (by simp)
  have CC := Lib.hid (econcat_any A B (by omega) (by omega) p q ca cb (w.heap.size + 1) 2 W1 (hp.below hb1) (hq.below hb1) hpc hqc (cell_at hx 0) (cell_at hx 1))
  have HX := Lib.hid (show EntsIn W1 (A ++ B) from fun e he => by
    rcases List.mem_append.1 he with he | he
    · exact (hA e he).below hb1
    · exact (hB e he).below hb1)
  have HXL := Lib.hid (show (A ++ B).length ≤ 2000 by rw [List.length_append]; omega)
  have HF := Lib.hid (show ∀ v M w', OwnE w' w.heap.size 51 v M → semL M = semL ((A ++ B).foldl mergeE []) → EntsIn w' M → OrdK ck M → Below w.heap.size w w' → RetE 51 w ((semL A ++ semL B).foldl mergeS []) (.returned v) w' from fun v M w' h1 h2 h3 h4 h5 => ⟨v, M, rfl, h1, by
    rw [h2, sem_merges]
    unfold semL
    rw [List.map_append]
    rfl, h3, h4, h5⟩)
  have HB1 := Lib.hid hb1
  have HZ := Lib.hid hz
  have HIM := Lib.hid him
  have HW1 := Lib.hid hW1
  obtain ⟨X, hX⟩ : ∃ X, A ++ B = X := ⟨_, rfl⟩
  rw [hX] at CC HX HXL HF
  obtain ⟨na, hna⟩ : ∃ n, A.length = n := ⟨_, rfl⟩
  obtain ⟨nb, hnb⟩ : ∃ n, B.length = n := ⟨_, rfl⟩
  rw [hna, hnb] at HW1 ⊢
  have hmk : ∀ w, (Instr.makeMap 56 none).run Try.prog w = .ok (.map (some w.heap.size)) (w.alloc (.map #[] 0)) := fun w => rfl
  clear hp hq hpc hqc hA hB hA1 hB1 hb0 hb1 hz hx him hW1 hX hna hnb
  go_enter Try.func10, Try.ntmps10
  go_wp2_with (go_at_call 20; rw [HW1.out]; refine CC.out.mono ?_; rintro e w2 ⟨xv, rfl, hov, hbv⟩; obtain ⟨xp, xc, rfl, hxc, -, hrw, -⟩ := hov.row; have HRW := Lib.hid hrw; have HBV := Lib.hid hbv; clear hov hbv hrw hxc)
  have HM2 := Lib.hid (show MgI w2 w.heap.size X 0 w2 from ⟨HIM.out.block (HBV.out.block w.heap.size (by have := HZ.out; omega)), Kept.refl _ _⟩)
  obtain ⟨n, hN⟩ : ∃ n, X.length = n := ⟨_, rfl⟩
  have HN := Lib.hid hN
  have hnb : (n : Int) ≤ 2000 := by have := HXL.out; omega
  have HX2 := Lib.hid (HX.out.below HBV.out)
  have HNT := Lib.hid (show NoText w2 w.heap.size ∧ ∀ o k x, w2.cell? ⟨w.heap.size, o, none⟩ ≠ some (.int k x) from by
    obtain ⟨es, clock, he⟩ := HM2.out.map.obj
    exact ⟨fun o s h => by simp [World.cell?, he] at h, fun o k x h => by simp [World.cell?, he] at h⟩)
  have HB2 := Lib.hid (HB1.out.trans (HBV.out.mono (by have := HZ.out; omega)))
  rw [hN]
  clear hN hmk
  go_loopw [16] (fun i wr => ∃ k : Nat, i = .int .i64 k ∧ k ≤ n ∧ Hid (MgI w2 w.heap.size X k wr)) (fun i _ => n - (RowKit.intOf i).toNat)
  case atStart => exact ⟨0, rfl, Nat.zero_le _, HM2⟩
  case round =>
    obtain ⟨k, rfl, hkn, HI⟩ := hrel
    rcases Nat.lt_or_ge k n with hk | hk
    · have hkz : (k : Int) < (n : Int) := by omega
      have hklt : k < X.length := by rw [HN.out]; exact hk
      obtain ⟨e, he⟩ : ∃ e, X.getD k default = e := ⟨_, rfl⟩
      have hmem : e ∈ X := by rw [← he]; simp [List.getD, hklt]
      have hwf := (HX2.out e hmem).wf
      have hrw : RowE wr xp X := HRW.out.keptInt HI.out.kept (fun i hi => hi ▸ HNT.out.2)
      obtain ⟨pb, po, rfl, -, hcell⟩ := ent_cells hrw (Below.refl _ _) hklt
      rw [he] at hcell
      have HEE := Lib.hid (And.intro hklt (And.intro he (And.intro hwf HXL.out)))
      obtain ⟨E, hE⟩ : ∃ E, e = E := ⟨_, rfl⟩
      rw [hE] at HEE
      have hce : ck E = e.r.c := by rw [← hE]; rfl
      have hes : E.s = e.s := by rw [← hE]
      have hval : E.val = .agg #[.int .i64 e.s, .int .i64 e.r.c, .int .i64 e.r.s, .int .i64 e.r.e, .bool e.r.fd, .string (strB e.r.v), .slice e.p e.r.ls.length e.k, .string (strB e.r.nx), .bool e.r.mr] := by rw [← hE]; rfl
      obtain ⟨es, er, ep, ek⟩ := e
      have z0 := hcell 0 (by decide)
      have z1 := hcell 1 (by decide)
      have z2 := hcell 2 (by decide)
      have z3 := hcell 3 (by decide)
      have z4 := hcell 4 (by decide)
      have z5 := hcell 5 (by decide)
      have z6 := hcell 6 (by decide)
      have z7 := hcell 7 (by decide)
      have z8 := hcell 8 (by decide)
      simp only [Ent.list, Nat.add_zero] at z0 z1 z2 z3 z4 z5 z6 z7 z8
      clear hcell hE he hmem hrw
      obtain ⟨yc, yrs, ye, yf, yv, yls, yn, ym⟩ := er
      simp only at z0 z1 z2 z3 z4 z5 z6 z7 z8 hval hce hes hwf
      generalize strB yv = v at z5 hval
      generalize strB yn = nx at z7 hval
      generalize yls.length = m at z6 hval
      have hwc : (Lit.int .i64 yc).wf = true := by rw [← hce]; exact HEE.out.2.2.1
      obtain ⟨w3, hw3⟩ : ∃ w3, wr.alloc (.cells #[.int .i64 es, .int .i64 yc, .int .i64 yrs, .int .i64 ye, .bool yf, .string v, .slice ep m ek, .string nx, .bool ym] 51) = w3 := ⟨_, rfl⟩
      have hb3 : Below wr.heap.size wr w3 := hw3 ▸ (Below.refl _ _).alloc (Nat.le_refl _) _
      have hx3 : w3.heap[wr.heap.size]? = some (.cells #[.int .i64 es, .int .i64 yc, .int .i64 yrs, .int .i64 ye, .bool yf, .string v, .slice ep m ek, .string nx, .bool ym] 51 (0, 0)) := hw3 ▸ new_block _ _ _
      have hz3 : w3.heap.size = wr.heap.size + 1 := by rw [← hw3]; simp
      have him3 : IM w3 w.heap.size ((X.take k).foldl mergeE []) := HI.out.map.block (hb3.block _ HI.out.map.lt)
      have hkp3 : Kept (fun i => i = w.heap.size) w2 w3 := HI.out.kept.trans (Kept.of_below hb3 (F := fun _ => False)) fun _ _ e => e.elim
      have hlk := (show MapAt w3 (some w.heap.size) ((X.take k).foldl mergeE []) from Or.inr ⟨_, rfl, him3⟩).look_ok yc hwc
      have HW3 := Lib.hid hw3
      have HX3 := Lib.hid hx3
      have HZ3 := Lib.hid hz3
      have HV := Lib.hid (And.intro hval (And.intro hce hes))
      have HS3 := Lib.hid (And.intro him3 hkp3)
      unfold lookV at hlk
      clear hw3 hx3 hz3 hval hce hes hwf hwc him3 hkp3 hb3 HI
      go_upto_region 5 with fail
      rw [HW3.out]
      clear z0 z1 z2 z3 z4 z5 z6 z7 z8 HW3
      have x0 := cell_at HX3.out 0
      have x1 := cell_at HX3.out 1
      cases hf : findK ck yc ((X.take k).foldl mergeE []) with
      | none =>
        have hg : grtB ((X.take k).foldl mergeE []) E = true := by
          unfold grtB
          rw [show E.r.c = yc from HV.out.2.1, hf]
        rw [hf] at hlk
        simp only [Option.isSome_none, Option.map_none, Option.getD_none, zeroLast] at hlk
        clear hf
        obtain ⟨w4, hw4⟩ : ∃ w4, w3.alloc (.cells #[.int .i64 0, .int .i64 0, .int .i64 0, .int .i64 0, .bool false, .string ⟨#[]⟩, .slice none 0 0, .string ⟨#[]⟩, .bool false] 51) = w4 := ⟨_, rfl⟩
        have hb4 : Below w3.heap.size w3 w4 := hw4 ▸ (Below.refl _ _).alloc (Nat.le_refl _) _
        obtain ⟨w5, hup, hm5⟩ := merge_store HEE.out.1 HEE.out.2.1 (by have := HXL.out; omega) (HS3.out.1.block (hb4.block _ HS3.out.1.lt)) (HS3.out.2.trans (Kept.of_below hb4 (F := fun _ => False)) fun _ _ e => e.elim) HEE.out.2.2.1 hg
        rw [show ck E = yc from HV.out.2.1, HV.out.1] at hup
        have hx4 := (hb4.block wr.heap.size (by have := HZ3.out; omega)).trans HX3.out
        have HX4 := Lib.hid hx4
        have HW4 := Lib.hid hw4
        have HM5 := Lib.hid hm5
        clear hw4 hb4 hx4 hm5 hg
        go_upto_region 6 with fail
        rw [HW4.out]
        have y0 := cell_at HX4.out 0
        have y1 := cell_at HX4.out 1
        have y2 := cell_at HX4.out 2
        have y3 := cell_at HX4.out 3
        have y4 := cell_at HX4.out 4
        have y5 := cell_at HX4.out 5
        have y6 := cell_at HX4.out 6
        have y7 := cell_at HX4.out 7
        have y8 := cell_at HX4.out 8
        clear hlk x0 x1 HW4
        go_wp2_with fail
        exact ⟨⟨k + 1, by go_num, hk, HM5⟩, by simp [RowKit.intOf]; omega⟩
      | some t =>
        rw [hf] at hlk
        simp only [Option.isSome_some, Option.map_some, Option.getD_some, Ent.val] at hlk
        obtain ⟨w4, hw4⟩ : ∃ w4, w3.alloc (.cells #[.int .i64 t.s, .int .i64 t.r.c, .int .i64 t.r.s, .int .i64 t.r.e, .bool t.r.fd, .string (strB t.r.v), .slice t.p t.r.ls.length t.k, .string (strB t.r.nx), .bool t.r.mr] 51) = w4 := ⟨_, rfl⟩
        obtain ⟨ts, tr, tp, tk⟩ := t
        simp only at hlk hw4 hf
        have hb4 : Below w3.heap.size w3 w4 := hw4 ▸ (Below.refl _ _).alloc (Nat.le_refl _) _
        have hy4 : w4.heap[w3.heap.size]? = some (.cells #[.int .i64 ts, .int .i64 tr.c, .int .i64 tr.s, .int .i64 tr.e, .bool tr.fd, .string (strB tr.v), .slice tp tr.ls.length tk, .string (strB tr.nx), .bool tr.mr] 51 (0, 0)) := hw4 ▸ new_block _ _ _
        have hx4 := (hb4.block wr.heap.size (by have := HZ3.out; omega)).trans HX3.out
        have him4 := HS3.out.1.block (hb4.block _ HS3.out.1.lt)
        have hkp4 : Kept (fun i => i = w.heap.size) w2 w4 := HS3.out.2.trans (Kept.of_below hb4 (F := fun _ => False)) fun _ _ e => e.elim
        have HX4 := Lib.hid hx4
        have HY4 := Lib.hid hy4
        have HW4 := Lib.hid hw4
        have HG := Lib.hid (show grtB ((X.take k).foldl mergeE []) E = decide (ts < es) from by
          unfold grtB
          rw [show E.r.c = yc from HV.out.2.1, hf, HV.out.2.2])
        have HS4 := Lib.hid (And.intro him4 hkp4)
        clear hw4 hb4 hx4 hy4 him4 hkp4 hf
        go_upto_region 6 with fail
        rw [HW4.out]
        have u0 := cell_at HY4.out 0
        have y0 := cell_at HX4.out 0
        by_cases hlt : ts < es
        · obtain ⟨w5, hup, hm5⟩ := merge_store HEE.out.1 HEE.out.2.1 (by have := HXL.out; omega) HS4.out.1 HS4.out.2 HEE.out.2.2.1 (by rw [HG.out]; exact decide_eq_true hlt)
          rw [show ck E = yc from HV.out.2.1, HV.out.1] at hup
          have HM5 := Lib.hid hm5
          have hgt : es > ts := hlt
          clear hm5
          have y1 := cell_at HX4.out 1
          have y2 := cell_at HX4.out 2
          have y3 := cell_at HX4.out 3
          have y4 := cell_at HX4.out 4
          have y5 := cell_at HX4.out 5
          have y6 := cell_at HX4.out 6
          have y7 := cell_at HX4.out 7
          have y8 := cell_at HX4.out 8
          clear hlk x0 x1 HW4
          go_wp2_with fail
          exact ⟨⟨k + 1, by go_num, hk, HM5⟩, by simp [RowKit.intOf]; omega⟩
        · have HM5 := Lib.hid (merge_skip HEE.out.1 HEE.out.2.1 HS4.out.1 HS4.out.2 (by rw [HG.out]; exact decide_eq_false hlt))
          clear hlk x0 x1 HW4
          go_wp2_with fail
          exact ⟨⟨k + 1, by go_num, hk, HM5⟩, by simp [RowKit.intOf]; omega⟩
    · have hkz : ¬ (k : Int) < (n : Int) := by omega
      have hke : k = n := by omega
      have HB := Lib.hid (by_any wr (some w.heap.size) (X.foldl mergeE []) (Or.inr ⟨_, rfl, by
        have := HI.out.map
        rw [hke, List.take_of_length_le (by rw [HN.out]; omega)] at this
        exact this⟩) (fun e he => by
        rcases mem_merges X [] e he with h | h
        · exact (HX2.out e h).kept HI.out.kept fun i hi => hi ▸ HNT.out.1
        · cases h) (by have h := merges_len X []; have := HXL.out; simp only [List.length_nil] at h; omega))
      have HBR := Lib.hid (show Below w.heap.size w wr from HB2.out.trans (HI.out.kept.below (fun k hk => by omega) HB2.out.size))
      clear hke HI
      go_wp2_with (go_at_call 21; refine HB.out.mono ?_; rintro e w9 ⟨v9, M9, rfl, h1, h2, h3, h4, h5⟩; have HQ := Lib.hid (HF.out v9 M9 w9 (h1.mono HBR.out.size) h2 h3 h4 (HBR.out.trans (h5.mono HBR.out.size))); clear h1 h2 h3 h4 h5)
      go_ret
      exact HQ.out
end Go.Proofs.Ytjlkfoaccllflaa
