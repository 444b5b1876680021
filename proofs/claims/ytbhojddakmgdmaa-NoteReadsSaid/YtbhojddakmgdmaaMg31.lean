/-
  Several texts in one: RegRow, NtMd, NtApart.
-/
import Derived.Test.YtbhojddakmgdmaaMg21
import Derived.Deep.WholeRow
import Derived.Laws.Tables
import Derived.Test.YtbhojddakmgdmaaNtMade
import Derived.Test.YtbhojddakmgdmaaMg23
import Derived.Test.YtbhojddakmgdmaaMg24
import Derived.Test.YtbhojddakmgdmaaMg27
import Derived.Test.YtbhojddakmgdmaaNtSm
import Derived.Test.YtbhojddakmgdmaaMg10
import Derived.Deep.CutRange
namespace Go.Gz
open Go.RowKit Go.Proofs

theorem layCells_with (g : Nat) : ∀ (vs : List Value) (o : Nat) (w : World), layCells w g o vs = { w with heap := (layCells w g o vs).heap }
  | [], _, _ => rfl
  | v :: t, o, w => by
    have h := layCells_with g t (o + 1) (w.setCell ⟨g, o, none⟩ v)
    show layCells (w.setCell ⟨g, o, none⟩ v) g (o + 1) t = _
    rw [h]; rfl
theorem setRow_lay {w : World} {g : Nat} {t : TypeId} {fz : Nat × Nat} {old cs : Array Value} (h : w.heap[g]? = some (.cells old t fz)) (hl : cs.size = old.size) : w.setRow g cs = layCells w g 0 cs.toList := by
  rw [layCells_with]
  unfold World.setRow
  congr 1
  apply Array.ext_getElem?
  intro i
  rw [Array.getElem?_modify]
  by_cases hi : g = i
  · subst hi
    rw [if_pos rfl, h, layCells_all (cs := old.toList) cs.toList (by simpa using h) (by simpa using hl)]
    simp
  · rw [if_neg hi, layCells_other g cs.toList 0 w i (Ne.symm hi)]
end Go.Gz
namespace Go.Proofs.Ytbhojddakmgdmaa
open Go.RowKit Go.Gz

theorem sizeU_two (a b : List UInt8) : sizeU [a, b] ≤ 536870920 := by
  have h1 := tlU_lt a
  have h2 := tlU_lt b
  show 4 + tlU a + (4 + tlU b + 0) ≤ _
  omega
theorem sumZ_leM {α : Type} (sz : α → Nat) (c m : Nat) (h : ∀ x, sz x ≤ c) (xs : List α) (hm : xs.length ≤ m) : sumZ sz xs ≤ c * m := Nat.le_trans (sumZ_le sz c h xs) (Nat.mul_le_mul_left c hm)
/-- where there is little, it can be laid. -/
theorem few_sm {n : NtL} (h : NtFew n) : NtSm n := by
  have h1 := sumZ_leM szR 536870920 100 (fun x => sizeU_two _ _) n.ls h.ll
  have h2 := sumZ_leM szE 40000 21 (fun x => by have := repS_len x.r; unfold szE; omega) n.la h.al
  have h3 := sumZ_leM szH 536870928 60 (fun x => by have := sizeU_two x.sp.f.data.toList x.sp.t.data.toList; unfold szH; omega) n.sh h.hl
  have h4 := sizeU_two n.sf n.st
  refine ⟨?_, Nat.le_trans h.rl (by decide), Nat.le_trans h.ll (by decide), Nat.le_trans h.al (by decide), fun e he => Nat.le_trans (h.ael e he) (by decide), Nat.le_trans h.hl (by decide)⟩
  unfold sizeN
  omega
/-- the entries of a note that was made are as they should be. -/
theorem made_ents {w w' : World} {n : NtL} {P : NtP} (h : NtAg w n P) (hf : NtFew n) (hb : Below w.heap.size w w') : EntsIn w' n.la := fun e he =>
  ⟨(h.les e he).rs.below hb, hf.ael e he, (h.les e he).pc, (h.les e he).wf⟩
/-- a note that was made, as a value. -/
def vpN (n : NtL) (P : NtP) : VP := ⟨fun v w => ∃ P', v = ntV n P' ∧ (P'.rp = P.rp ∧ P'.lp = P.lp) ∧ (RowE w P'.ap n.la ∧ TyP w P'.ap 93) ∧ (RowK KS w P'.hp n.sh ∧ TyP w P'.hp 68),
  fun _ _ _ ⟨P', h1, h2, h3, h4⟩ hb => ⟨P', h1, h2, ⟨h3.1.below hb, h3.2.below hb⟩, ⟨h4.1.below hb, h4.2.below hb⟩⟩⟩
theorem vpN_lay {n : NtL} {P : NtP} {v : Value} {w : World} {b : Nat} {cs : Array Value} {fz : Nat × Nat} (h : (vpN n P).f v w) (hb : w.heap[b]? = some (.cells cs 44 fz)) (vs : List Value) : (vpN n P).f v (layCells w b 0 vs) := by
  obtain ⟨P', h1, h2, h3, h4⟩ := h
  exact ⟨P', h1, h2, ⟨rowE_iff.1 ((rowE_iff.2 h3.1).layCells (h3.2.ne hb (by decide)) 0 vs), h3.2.layCells hb (by decide) 0 vs⟩, ⟨h4.1.layCells (h4.2.ne hb (by decide)) 0 vs, h4.2.layCells hb (by decide) 0 vs⟩⟩
theorem vpN_in {n : NtL} {P : NtP} {w w' : World} (h : NtAg w n P) (hb : Below w.heap.size w w') {P' : NtP} (h2 : P'.rp = P.rp ∧ P'.lp = P.lp) (h3 : RowE w' P'.ap n.la) (h4 : RowK KS w' P'.hp n.sh) : NtIn w' n P' :=
  ⟨by rw [h2.1]; exact h.rs.below hb, by rw [h2.2]; exact h.ls.below hb, h3, fun e he => (h.les e he).rs.below hb, h4⟩
end Go.Proofs.Ytbhojddakmgdmaa
namespace Go.Proofs.Ytbhojddakmgdmaa
open Go.RowKit Go.Gz

set_option maxHeartbeats 16000000 in
set_option maxRecDepth 100000 in
theorem apart_n (n m : NtL) (P Q : NtP) (w : World) (ha : NtAg w n P) (hb : NtAg w m Q) : Calls Try.prog 5 #[ntV n P, ntV m Q] w fun e w' => e = .returned (.bool true) ∧ Below w.heap.size w w' := by
  have HA := Lib.hid ha
  have HB := Lib.hid hb
  have CSA := Lib.hid (fun w1 h => smallN_any n P w1 h)
  have CSB := Lib.hid (fun w1 h => smallN_any m Q w1 h)
  have CMA := Lib.hid (fun w1 h h1 h2 => noteMade_any n P w1 h h1 h2)
  have CMB := Lib.hid (fun w1 h h1 h2 => noteMade_any m Q w1 h h1 h2)
  unfold ntV at CSA CSB CMA CMB ⊢
  obtain ⟨c, hc⟩ : ∃ c, (ntList n P).toArray = c := ⟨_, rfl⟩
  obtain ⟨d, hd⟩ : ∃ d, (ntList m Q).toArray = d := ⟨_, rfl⟩
  rw [hc] at CSA CMA ⊢
  rw [hd] at CSB CMB ⊢
  have hcs : c.size = 27 := by rw [← hc]; rfl
  have hds : d.size = 27 := by rw [← hd]; rfl
  have HIC := Lib.hid (show (Try.prog.info? 36).map (·.size) = some c.size by rw [hcs]; kernel_rfl)
  have HID := Lib.hid (show (Try.prog.info? 36).map (·.size) = some d.size by rw [hds]; kernel_rfl)
  obtain ⟨W, hW⟩ : ∃ W, (w.alloc (.cells c 36)).alloc (.cells d 36) = W := ⟨_, rfl⟩
  have hb1 : Below w.heap.size w (w.alloc (.cells c 36)) := (Below.refl _ _).alloc (Nat.le_refl _) _
  have hb2 : Below (w.alloc (.cells c 36)).heap.size (w.alloc (.cells c 36)) W := hW ▸ (Below.refl _ _).alloc (Nat.le_refl _) _
  have hz1 : (w.alloc (.cells c 36)).heap.size = w.heap.size + 1 := by simp
  have HZ := Lib.hid (show W.heap.size = w.heap.size + 2 by rw [← hW]; simp)
  have HBW := Lib.hid (hb1.trans (hb2.mono hb1.size))
  have HXA := Lib.hid (show ∀ w1, Below W.heap.size W w1 → w1.heap[w.heap.size]? = some (.cells c 36 (0, 0)) from fun w1 h => by
    rw [h.block _ (by have := HZ.out; omega), hb2.block _ (by omega)]; exact new_block _ _ _)
  have HXB := Lib.hid (show ∀ w1, Below W.heap.size W w1 → w1.heap[w.heap.size + 1]? = some (.cells d 36 (0, 0)) from fun w1 h => by
    rw [h.block _ (by have := HZ.out; omega), ← hW, ← hz1]; exact new_block _ _ _)
  have HW := Lib.hid hW
  have C0 := Lib.hid (awake_n W)
  clear hc hd hcs hds hW hb1 hb2 hz1 ha hb
  go_enter Try.func5, Try.ntmps5
  go_upto_region 1 with fail
  rw [HW.out]
  go_wp2_with fail
  refine C0.out.mono ?_
  rintro e w1 ⟨rfl, hb1⟩
  have HB1 := Lib.hid hb1
  have HA1 := Lib.hid (HXA.out w1 hb1)
  have C1 := Lib.hid (CSA.out w1 (HA.out.below (HBW.out.trans (hb1.mono HBW.out.size))))
  clear hb1
  go_wp2_with (with_reducible refine wpList_load_row rfl 36 (.tmp 2) rfl w.heap.size rfl 36 c (0, 0) _ HA1.out Try.underlying36 rfl HIC.out ?_)
  refine C1.out.mono ?_
  rintro e w2 ⟨b2, rfl, hf2, hb2⟩
  have HB2 := Lib.hid (HB1.out.trans (hb2.mono HB1.out.size))
  have HF2 := Lib.hid hf2
  have HA2 := Lib.hid (HXB.out w2 HB2.out)
  have C2 := Lib.hid (CSB.out w2 (HB.out.below (HBW.out.trans (HB2.out.mono HBW.out.size))))
  clear hb2 hf2
  cases b2 with
  | false =>
    go_wp2_with fail
    go_ret
    exact ⟨rfl, HBW.out.trans (HB2.out.mono HBW.out.size)⟩
  | true =>
  have HFA := Lib.hid (HF2.out rfl)
  go_wp2_with (refine wpList_load_rowW (by simp [Region.wanted, yielded, Act.put]) 36 (.tmp 3) rfl (w.heap.size + 1) rfl 36 d (0, 0) _ HA2.out Try.underlying36 rfl HID.out ?_)
  refine C2.out.mono ?_
  rintro e w3 ⟨b3, rfl, hf3, hb3⟩
  have HB3 := Lib.hid (HB2.out.trans (hb3.mono HB2.out.size))
  have HF3 := Lib.hid hf3
  clear hb3 hf3
  cases b3 with
  | false =>
    go_wp2_with fail
    go_ret
    exact ⟨rfl, HBW.out.trans (HB3.out.mono HBW.out.size)⟩
  | true =>
  have HFB := Lib.hid (HF3.out rfl)
  clear HF2 HF3 C0 C1 C2 CSA CSB HA1 HA2
  have HW3 := Lib.hid (HBW.out.trans (HB3.out.mono HBW.out.size))
  have HAG := Lib.hid (fun w' (h : Below w3.heap.size w3 w') => HA.out.below (HW3.out.trans (h.mono HW3.out.size)))
  have HBG := Lib.hid (fun w' (h : Below w3.heap.size w3 w') => HB.out.below (HW3.out.trans (h.mono HW3.out.size)))
  have HLA := Lib.hid (fun w' (h : Below w3.heap.size w3 w') => HXA.out w' (HB3.out.trans (h.mono HB3.out.size)))
  have HLB := Lib.hid (fun w' (h : Below w3.heap.size w3 w') => HXB.out w' (HB3.out.trans (h.mono HB3.out.size)))
  have HCA := Lib.hid (fun w' (h : Below w3.heap.size w3 w') => CMA.out w' (HAG.out w' h) (Nat.le_trans HFA.out.al (by decide)) (Nat.le_trans HFA.out.hl (by decide)))
  have HCB := Lib.hid (fun w' (h : Below w3.heap.size w3 w') => CMB.out w' (HBG.out w' h) (Nat.le_trans HFB.out.al (by decide)) (Nat.le_trans HFB.out.hl (by decide)))
  clear CMA CMB
  go_upto_region 5 with fail
  refine wp_region_lay mixedAt (by kernel_rfl) [VP.eq (.agg c), vpN n P, VP.eq (.agg d), vpN m Q, VP.any, VP.any, VP.any, VP.any]
    [⟨4, 6, 1, 44, noteZ.toList, fun v => v.cells.toList⟩, ⟨5, 7, 3, 44, noteZ.toList, fun v => v.cells.toList⟩] (by kernel_rfl) ?_ ?_ ?_ ?_ ?_
  · intro kk y hy v w' b cs cs' hv hb _
    have hy : y.t = 44 := by
      simp only [List.mem_cons, List.not_mem_nil, or_false] at hy
      rcases hy with rfl | rfl <;> rfl
    rw [hy] at hb
    match kk, hv with
    | 0, hv => exact hv
    | 1, hv => exact vpN_lay (n := n) (P := P) hv hb cs'
    | 2, hv => exact hv
    | 3, hv => exact vpN_lay (n := m) (P := Q) hv hb cs'
    | 4, _ => trivial
    | 5, _ => trivial
    | 6, _ => trivial
    | 7, _ => trivial
    | _ + 8, _ => trivial
  · intro i opr Ls vals w' hi hL' hdep hC hB hV hn
    have hlt : i < 8 := by have := (List.getElem?_eq_some_iff.1 hi).1; simpa using this
    have hnn : (i ≠ 4 ∧ i ≠ 6) ∧ (i ≠ 5 ∧ i ≠ 7) := by
      have h1 := hn _ (List.mem_cons_self ..)
      have h2 := hn _ (List.mem_cons_of_mem _ (List.mem_cons_self ..))
      exact ⟨⟨fun e => h1.1 e.symm, fun e => h1.2 e.symm⟩, ⟨fun e => h2.1 e.symm, fun e => h2.2 e.symm⟩⟩
    have hVk : ∀ j, Ls j = true → j < 4 → _ := fun j h1 h2 => hV j h1 (fun y hy => by
      simp only [List.mem_cons, List.not_mem_nil, or_false] at hy
      rcases hy with rfl | rfl
      · exact ⟨by show 4 ≠ j; omega, by show 6 ≠ j; omega⟩
      · exact ⟨by show 5 ≠ j; omega, by show 7 ≠ j; omega⟩)
    clear hV hn
    generalize hA : frA _ _ Ls vals = a'
    have hT2 : a'.tmps.getD 2 undef = .pointer (some ⟨w.heap.size, 0, none⟩) := by rw [← hA, frA_base (by kernel_rfl)]; rfl
    have hT3 : a'.tmps.getD 3 undef = .pointer (some ⟨w.heap.size + 1, 0, none⟩) := by rw [← hA, frA_base (by kernel_rfl)]; rfl
    have hD := Lib.hid (fun k t (hk : Ls k = true) (ht : dstOf _ k = some t) => hA ▸ frA_done (by kernel_rfl) (vals := vals) hk ht)
    clear hA
    obtain rfl | rfl | rfl | rfl : i = 0 ∨ i = 1 ∨ i = 2 ∨ i = 3 := by omega
    all_goals
      injection hi with hi
      subst hi
      try simp [Region.binds] at hdep
    · exact step_run rfl (v := .agg c) (w' := w') (run_load_row 36 (.tmp 2) rfl w.heap.size hT2 36 c (0, 0) _ (HLA.out w' hB) Try.underlying36 rfl HIC.out) ⟨rfl, Below.refl _ _⟩
    · have d21 := hD.out 0 21 (by simp [hdep]) rfl
      rw [show vals 0 = .agg c from hVk 0 (by simp [hdep]) (by decide)] at d21
      exact step_enter rfl (f := 12) (args := #[.agg c]) (w' := w') (by go_simp) ((HCA.out w' hB).mono fun e w'' ⟨P', he, hb, hin, hp, ht1, ht2⟩ => ⟨_, he, ⟨P', rfl, hp, ⟨hin.la, ht1⟩, ⟨hin.sh, ht2⟩⟩, hb⟩)
    · exact step_run rfl (v := .agg d) (w' := w') (run_load_row 36 (.tmp 3) rfl (w.heap.size + 1) hT3 36 d (0, 0) _ (HLB.out w' hB) Try.underlying36 rfl HID.out) ⟨rfl, Below.refl _ _⟩
    · have d23 := hD.out 2 23 (by simp [hdep]) rfl
      rw [show vals 2 = .agg d from hVk 2 (by simp [hdep]) (by decide)] at d23
      exact step_enter rfl (f := 12) (args := #[.agg d]) (w' := w') (by go_simp) ((HCB.out w' hB).mono fun e w'' ⟨P', he, hb, hin, hp, ht1, ht2⟩ => ⟨_, he, ⟨P', rfl, hp, ⟨hin.la, ht1⟩, ⟨hin.sh, ht2⟩⟩, hb⟩)
  · intro y hy o L' vals w' hi
    simp only [List.mem_cons, List.not_mem_nil, or_false] at hy
    rcases hy with rfl | rfl
    all_goals
      injection hi with hi
      subst hi
      exact step_run rfl (v := Lay.ptr w'.heap.size) (w' := w'.alloc (.cells noteZ 44)) (by unfold Lay.ptr; go_simp) ⟨rfl, rfl⟩
  · intro y hy o Ls vals w' q hi hLa hLr hJ hV hp hh
    simp only [List.mem_cons, List.not_mem_nil, or_false] at hy
    generalize hA : frA _ _ Ls vals = a'
    have hD := Lib.hid (fun k t (hk : Ls k = true) (ht : dstOf _ k = some t) => hA ▸ frA_done (by kernel_rfl) (vals := vals) hk ht)
    clear hA
    rcases hy with rfl | rfl
    · injection hi with hi
      subst hi
      simp only at hLa hLr hp hh
      have da := hD.out 4 5 hLa rfl
      have dr := hD.out 1 22 hLr rfl
      obtain ⟨P1, ev, hp1, hla1, hsh1⟩ : (vpN n P).f (vals 1) w' := hV 1 hLr (fun y hy => by
        simp only [List.mem_cons, List.not_mem_nil, or_false] at hy
        rcases hy with rfl | rfl <;> exact ⟨by decide, by decide⟩)
      rw [ev] at dr
      rw [hp] at da
      unfold Lay.ptr at da
      have hlen : (ntList n P1).length = noteZ.toList.length := rfl
      have hlay := setRow_lay (cs := (ntList n P1).toArray) (old := noteZ) hh rfl
      refine stepI_skip rfl (w' := layCells w' q 0 (ntList n P1).toArray.toList) ?_ ?_
      · rw [← hlay]
        exact run_store_row 44 (.tmp 5) (.tmp 22) rfl q (ntList n P1).toArray da dr 44 noteZ hh info_note rfl (nt_one n P1)
      simp only
      rw [ev]
      exact ⟨rfl, rfl⟩
    · injection hi with hi
      subst hi
      simp only at hLa hLr hp hh
      have da := hD.out 5 6 hLa rfl
      have dr := hD.out 3 24 hLr rfl
      obtain ⟨P1, ev, hp1, hla1, hsh1⟩ : (vpN m Q).f (vals 3) w' := hV 3 hLr (fun y hy => by
        simp only [List.mem_cons, List.not_mem_nil, or_false] at hy
        rcases hy with rfl | rfl <;> exact ⟨by decide, by decide⟩)
      rw [ev] at dr
      rw [hp] at da
      unfold Lay.ptr at da
      have hlen : (ntList m P1).length = noteZ.toList.length := rfl
      have hlay := setRow_lay (cs := (ntList m P1).toArray) (old := noteZ) hh rfl
      refine stepI_skip rfl (w' := layCells w' q 0 (ntList m P1).toArray.toList) ?_ ?_
      · rw [← hlay]
        exact run_store_row 44 (.tmp 6) (.tmp 24) rfl q (ntList m P1).toArray da dr 44 noteZ hh info_note rfl (nt_one m P1)
      simp only
      rw [ev]
      exact ⟨rfl, rfl⟩
  · intro vals w6 hB hV hlay hne
    have hVk : ∀ j, j < 4 → _ := fun j h2 => hV j (by show j < 8; omega) (fun y hy => by
      simp only [List.mem_cons, List.not_mem_nil, or_false] at hy
      rcases hy with rfl | rfl
      · exact ⟨by show 4 ≠ j; omega, by show 6 ≠ j; omega⟩
      · exact ⟨by show 5 ≠ j; omega, by show 7 ≠ j; omega⟩)
    have e0 : vals 0 = .agg c := hVk 0 (by decide)
    have e2 : vals 2 = .agg d := hVk 2 (by decide)
    obtain ⟨P1, e1, hp1, hla1, hsh1⟩ : (vpN n P).f (vals 1) w6 := hVk 1 (by decide)
    obtain ⟨Q1, e3, hp3, hla3, hsh3⟩ : (vpN m Q).f (vals 3) w6 := hVk 3 (by decide)
    obtain ⟨b1, e4, hl1, ho1⟩ := hlay _ (List.mem_cons_self ..)
    obtain ⟨b2, e5, hl2, ho2⟩ := hlay _ (List.mem_cons_of_mem _ (List.mem_cons_self ..))
    simp only at e4 e5 ho1 ho2
    rw [e1] at ho1
    rw [e3] at ho2
    have HB6 := Lib.hid (HB3.out.trans (hB.mono HB3.out.size))
    have HW6 := Lib.hid (HW3.out.trans (hB.mono HW3.out.size))
    have HN1 := Lib.hid (vpN_in HA.out HW6.out hp1 hla1.1 hsh1.1)
    have HN2 := Lib.hid (vpN_in HB.out HW6.out hp3 hla3.1 hsh3.1)
    have HE1 := Lib.hid (made_ents HA.out HFA.out HW6.out)
    have HE2 := Lib.hid (made_ents HB.out HFB.out HW6.out)
    have HR1 := Lib.hid (show w6.heap[b1]? = some (.cells (ntList n P1).toArray 44 (0, 0)) from ho1)
    have HR2 := Lib.hid (show w6.heap[b2]? = some (.cells (ntList m Q1).toArray 44 (0, 0)) from ho2)
    have CPA := Lib.hid (fun w' h => pack_n n P1 w' h (few_sm HFA.out))
    have CPB := Lib.hid (fun w' h => pack_n m Q1 w' h (few_sm HFB.out))
    have CSM := Lib.hid (fun w' B hB h1 h2 h3 h4 => same_n n m P1 Q1 w' B hB h1 h2 h3 h4 HFA.out.rl HFB.out.rl (Nat.le_trans HFA.out.ll (by decide)) (Nat.le_trans HFB.out.ll (by decide)) (Nat.le_trans HFA.out.al (by decide)) (Nat.le_trans HFB.out.al (by decide)) (Nat.le_trans HFA.out.hl (by decide)) (Nat.le_trans HFB.out.hl (by decide)))
    unfold ntV at CPA CPB CSM e1 e3
    obtain ⟨c1, hc1⟩ : ∃ c, (ntList n P1).toArray = c := ⟨_, rfl⟩
    obtain ⟨d1, hd1⟩ : ∃ c, (ntList m Q1).toArray = c := ⟨_, rfl⟩
    rw [hc1] at CPA CSM HR1 e1
    rw [hd1] at CPB CSM HR2 e3
    have hcs : c1.size = 27 := by rw [← hc1]; rfl
    have hds : d1.size = 27 := by rw [← hd1]; rfl
    have HI1 := Lib.hid (show (Try.prog.info? 44).map (·.size) = some c1.size by rw [hcs]; exact info_note)
    have HI2 := Lib.hid (show (Try.prog.info? 44).map (·.size) = some d1.size by rw [hds]; exact info_note)
    unfold Lay.ptr at e4 e5
    simp only [putsL, Act.put, List.setIfInBounds_toArray, List.set_cons_zero, List.set_cons_succ, e0, e1, e2, e3, e4, e5]
    clear e0 e1 e2 e3 e4 e5 hB hV hlay hne hVk ho1 ho2 hc1 hd1 hcs hds hp1 hla1 hsh1 hp3 hla3 hsh3 hl1 hl2
    have CP1 := Lib.hid (CPA.out w6 HN1.out)
    go_wp2_with (with_reducible refine wpList_load_row rfl 44 (.tmp 5) rfl b1 rfl 44 c1 (0, 0) _ HR1.out Try.underlying44 rfl HI1.out ?_)
    refine CP1.out.mono ?_
    rintro e w7 ⟨v7, rfl, ho7, hb7⟩
    obtain ⟨q7, d7, rfl, -, -, -⟩ := own_row ho7
    rw [nums_length] at ho7 ⊢
    have HB7 := Lib.hid (HW6.out.trans (hb7.mono HW6.out.size))
    have HO7 := Lib.hid (own_in ho7)
    have HR17 := Lib.hid (show w7.heap[b1]? = some (.cells c1 44 (0, 0)) by rw [hb7.block _ (Array.getElem?_eq_some_iff.1 HR1.out).1]; exact HR1.out)
    have HR27 := Lib.hid (show w7.heap[b2]? = some (.cells d1 44 (0, 0)) by rw [hb7.block _ (Array.getElem?_eq_some_iff.1 HR2.out).1]; exact HR2.out)
    have HN17 := Lib.hid (HN1.out.below hb7)
    have HN27 := Lib.hid (HN2.out.below hb7)
    have HE17 := Lib.hid (HE1.out.below hb7)
    have HE27 := Lib.hid (HE2.out.below hb7)
    have CP2 := Lib.hid (CPB.out w7 HN27.out)
    clear hb7 ho7
    obtain ⟨SA, hSA⟩ : ∃ S, packN n = S := ⟨_, rfl⟩
    obtain ⟨SB, hSB⟩ : ∃ S, packN m = S := ⟨_, rfl⟩
    rw [hSA] at HO7 ⊢
    rw [hSB] at CP2
    have HSA := Lib.hid hSA
    have HSB := Lib.hid hSB
    obtain ⟨N7, hN7⟩ : ∃ N, (SA.getD []).length = N := ⟨_, rfl⟩
    obtain ⟨E7, hE7⟩ : ∃ E, errP SA = E := ⟨_, rfl⟩
    rw [hN7]
    rw [hE7]
    have HN7 := Lib.hid hN7
    have HE7 := Lib.hid hE7
    clear hSA hSB hN7 hE7
    go_wp2_with (with_reducible refine wpList_load_row rfl 44 (.tmp 6) rfl b2 rfl 44 d1 (0, 0) _ HR27.out Try.underlying44 rfl HI2.out ?_)
    refine CP2.out.mono ?_
    rintro e w8 ⟨v8, rfl, ho8, hb8⟩
    obtain ⟨q8, d8, rfl, -, -, -⟩ := own_row ho8
    rw [nums_length] at ho8 ⊢
    have HB8 := Lib.hid (HB7.out.trans (hb8.mono HB7.out.size))
    have HO8 := Lib.hid (own_in ho8)
    have HO78 := Lib.hid (HO7.out.below hb8)
    have HR18 := Lib.hid (show w8.heap[b1]? = some (.cells c1 44 (0, 0)) by rw [hb8.block _ (Array.getElem?_eq_some_iff.1 HR17.out).1]; exact HR17.out)
    have HR28 := Lib.hid (show w8.heap[b2]? = some (.cells d1 44 (0, 0)) by rw [hb8.block _ (Array.getElem?_eq_some_iff.1 HR27.out).1]; exact HR27.out)
    have HN18 := Lib.hid (HN17.out.below hb8)
    have HN28 := Lib.hid (HN27.out.below hb8)
    have HE18 := Lib.hid (HE17.out.below hb8)
    have HE28 := Lib.hid (HE27.out.below hb8)
    clear hb8 ho8
    obtain ⟨N8, hN8⟩ : ∃ N, (SB.getD []).length = N := ⟨_, rfl⟩
    obtain ⟨E8, hE8⟩ : ∃ E, errP SB = E := ⟨_, rfl⟩
    rw [hN8]
    rw [hE8]
    have HN8 := Lib.hid hN8
    have HE8 := Lib.hid hE8
    clear hN8 hE8
    obtain ⟨t7, ht7⟩ : ∃ s, strB (SA.getD []) = s := ⟨_, rfl⟩
    obtain ⟨t8, ht8⟩ : ∃ s, strB (SB.getD []) = s := ⟨_, rfl⟩
    have HX7 := Lib.hid (show ∀ w', Below w8.heap.size w8 w' → (convert 22 9 (.slice q7 N7 d7)).run Try.prog w' = .ok (.string t7) w' from fun w' h => by
      have h := run_string w' (SA.getD []) q7 d7 (HO78.out.below h)
      rw [HN7.out] at h
      rw [← ht7]
      exact h)
    have HX8 := Lib.hid (show ∀ w', Below w8.heap.size w8 w' → (convert 22 9 (.slice q8 N8 d8)).run Try.prog w' = .ok (.string t8) w' from fun w' h => by
      have h := run_string w' (SB.getD []) q8 d8 (HO8.out.below h)
      rw [HN8.out] at h
      rw [← ht8]
      exact h)
    have HT7 := Lib.hid ht7
    have HT8 := Lib.hid ht8
    clear ht7 ht8
    obtain ⟨L, hL⟩ : ∃ q : Bool, decide (t7.toList = t8.toList) = q := ⟨_, rfl⟩
    have HLS := Lib.hid hL
    clear hL
    rcases Option.eq_none_or_eq_some SA with rfl | ⟨ya, rfl⟩
    · obtain rfl : E7 = 1 := HE7.out.symm
      go_upto_region 8 with fail
      refine wp_region_mono mixedAt (by kernel_rfl) [VP.eq (.int .i64 1), VP.eq (.bool true), VP.eq (.bool true), VP.any, VP.any, VP.eq (.bool true), VP.eq (.bool true), VP.any, VP.any, VP.any, VP.any, VP.any, VP.any, VP.any, VP.any, VP.any, VP.eq (.bool true), VP.eq (.bool true)] ?_ ?_
      · intro i opr Ls vals w' hi hL' hdep hC hB hV
        have hlt : i < 18 := by have := (List.getElem?_eq_some_iff.1 hi).1; simpa using this
        generalize hA : frA _ _ Ls vals = a'
        have hT8 : a'.tmps.getD 8 undef = .int .i64 1 := by rw [← hA, frA_base (by kernel_rfl)]; rfl
        have hD := Lib.hid (fun k t (hk : Ls k = true) (ht : dstOf _ k = some t) => hA ▸ frA_done (by kernel_rfl) (vals := vals) hk ht)
        clear hA
        obtain rfl | rfl | rfl | rfl | rfl | rfl | rfl | rfl | rfl | rfl | rfl | rfl | rfl | rfl | rfl | rfl | rfl | rfl : i = 0 ∨ i = 1 ∨ i = 2 ∨ i = 3 ∨ i = 4 ∨ i = 5 ∨ i = 6 ∨ i = 7 ∨ i = 8 ∨ i = 9 ∨ i = 10 ∨ i = 11 ∨ i = 12 ∨ i = 13 ∨ i = 14 ∨ i = 15 ∨ i = 16 ∨ i = 17 := by omega
        all_goals
          injection hi with hi
          subst hi
          try simp [Region.binds] at hdep
        · skip
          exact step_run rfl (v := .int .i64 1) (w' := w') (by go_simp) ⟨rfl, Below.refl _ _⟩
        · skip
          have d35 := hD.out 0 35 (by simp [hdep]) rfl
          rw [show vals 0 = _ from hV 0 (by simp [hdep])] at d35
          exact step_run rfl (v := .bool true) (w' := w') (by go_simp) ⟨rfl, Below.refl _ _⟩
        · skip
          have d36 := hD.out 1 36 (by simp [hdep]) rfl
          rw [show vals 1 = _ from hV 1 (by simp [hdep])] at d36
          exact step_run rfl (v := .bool true) (w' := w') (by go_simp) ⟨rfl, Below.refl _ _⟩
        · skip
          have d37 := hD.out 2 37 (by simp [hdep]) rfl
          rw [show vals 2 = _ from hV 2 (by simp [hdep])] at d37
          exact step_shut (wanted_shut rfl rfl d37 (by decide)) ⟨trivial, Below.refl _ _⟩
        · skip
          have d37 := hD.out 2 37 (by simp [hdep]) rfl
          rw [show vals 2 = _ from hV 2 (by simp [hdep])] at d37
          exact step_shut (wanted_shut rfl rfl d37 (by decide)) ⟨trivial, Below.refl _ _⟩
        · skip
          have d37 := hD.out 2 37 (by simp [hdep]) rfl
          rw [show vals 2 = _ from hV 2 (by simp [hdep])] at d37
          exact step_run rfl (v := .bool true) (w' := w') (by go_simp) ⟨rfl, Below.refl _ _⟩
        · skip
          have d40 := hD.out 5 40 (by simp [hdep]) rfl
          rw [show vals 5 = _ from hV 5 (by simp [hdep])] at d40
          exact step_run rfl (v := .bool true) (w' := w') (by go_simp) ⟨rfl, Below.refl _ _⟩
        · skip
          have d41 := hD.out 6 41 (by simp [hdep]) rfl
          rw [show vals 6 = _ from hV 6 (by simp [hdep])] at d41
          exact step_shut (wanted_shut rfl rfl d41 (by decide)) ⟨trivial, Below.refl _ _⟩
        · skip
          have d41 := hD.out 6 41 (by simp [hdep]) rfl
          rw [show vals 6 = _ from hV 6 (by simp [hdep])] at d41
          exact step_shut (wanted_shut rfl rfl d41 (by decide)) ⟨trivial, Below.refl _ _⟩
        · skip
          have d41 := hD.out 6 41 (by simp [hdep]) rfl
          rw [show vals 6 = _ from hV 6 (by simp [hdep])] at d41
          exact step_shut (wanted_shut rfl rfl d41 (by decide)) ⟨trivial, Below.refl _ _⟩
        · skip
          have d41 := hD.out 6 41 (by simp [hdep]) rfl
          rw [show vals 6 = _ from hV 6 (by simp [hdep])] at d41
          exact step_shut (wanted_shut rfl rfl d41 (by decide)) ⟨trivial, Below.refl _ _⟩
        · skip
          have d41 := hD.out 6 41 (by simp [hdep]) rfl
          rw [show vals 6 = _ from hV 6 (by simp [hdep])] at d41
          exact step_shut (wanted_shut rfl rfl d41 (by decide)) ⟨trivial, Below.refl _ _⟩
        · skip
          have d41 := hD.out 6 41 (by simp [hdep]) rfl
          rw [show vals 6 = _ from hV 6 (by simp [hdep])] at d41
          exact step_shut (wanted_shut rfl rfl d41 (by decide)) ⟨trivial, Below.refl _ _⟩
        · skip
          have d41 := hD.out 6 41 (by simp [hdep]) rfl
          rw [show vals 6 = _ from hV 6 (by simp [hdep])] at d41
          exact step_shut (wanted_shut rfl rfl d41 (by decide)) ⟨trivial, Below.refl _ _⟩
        · skip
          have d41 := hD.out 6 41 (by simp [hdep]) rfl
          rw [show vals 6 = _ from hV 6 (by simp [hdep])] at d41
          exact step_shut (wanted_shut rfl rfl d41 (by decide)) ⟨trivial, Below.refl _ _⟩
        · skip
          have d41 := hD.out 6 41 (by simp [hdep]) rfl
          rw [show vals 6 = _ from hV 6 (by simp [hdep])] at d41
          exact step_shut (wanted_shut rfl rfl d41 (by decide)) ⟨trivial, Below.refl _ _⟩
        · skip
          have d41 := hD.out 6 41 (by simp [hdep]) rfl
          rw [show vals 6 = _ from hV 6 (by simp [hdep])] at d41
          exact step_run rfl (v := .bool true) (w' := w') (by go_simp) ⟨rfl, Below.refl _ _⟩
        · skip
          have d51 := hD.out 16 51 (by simp [hdep]) rfl
          rw [show vals 16 = _ from hV 16 (by simp [hdep])] at d51
          exact step_run rfl (v := .bool true) (w' := w') (by go_simp) ⟨rfl, Below.refl _ _⟩
      · intro vals w9 hB hV
        have e0 : vals 0 = .int .i64 1 := hV 0 (by decide)
        have e1 : vals 1 = .bool true := hV 1 (by decide)
        have e2 : vals 2 = .bool true := hV 2 (by decide)
        have e5 : vals 5 = .bool true := hV 5 (by decide)
        have e6 : vals 6 = .bool true := hV 6 (by decide)
        have e16 : vals 16 = .bool true := hV 16 (by decide)
        have e17 : vals 17 = .bool true := hV 17 (by decide)
        have HB9 := Lib.hid (HB8.out.trans (hB.mono HB8.out.size))
        simp only [putsL, Act.put, List.setIfInBounds_toArray, List.set_cons_zero, List.set_cons_succ, e0, e1, e2, e5, e6, e16, e17]
        clear e0 e1 e2 e5 e6 e16 e17 hB hV
        go_wp2_with fail
        go_ret
        exact ⟨rfl, HB9.out⟩
    rcases Option.eq_none_or_eq_some SB with rfl | ⟨yb, rfl⟩
    · obtain rfl : E7 = 0 := HE7.out.symm
      obtain rfl : E8 = 1 := HE8.out.symm
      go_upto_region 8 with fail
      refine wp_region_mono mixedAt (by kernel_rfl) [VP.eq (.int .i64 0), VP.eq (.bool false), VP.eq (.bool false), VP.eq (.int .i64 1), VP.eq (.bool true), VP.eq (.bool true), VP.eq (.bool true), VP.any, VP.any, VP.any, VP.any, VP.any, VP.any, VP.any, VP.any, VP.any, VP.eq (.bool true), VP.eq (.bool true)] ?_ ?_
      · intro i opr Ls vals w' hi hL' hdep hC hB hV
        have hlt : i < 18 := by have := (List.getElem?_eq_some_iff.1 hi).1; simpa using this
        generalize hA : frA _ _ Ls vals = a'
        have hT8 : a'.tmps.getD 8 undef = .int .i64 0 := by rw [← hA, frA_base (by kernel_rfl)]; rfl
        have hT10 : a'.tmps.getD 10 undef = .int .i64 1 := by rw [← hA, frA_base (by kernel_rfl)]; rfl
        have hD := Lib.hid (fun k t (hk : Ls k = true) (ht : dstOf _ k = some t) => hA ▸ frA_done (by kernel_rfl) (vals := vals) hk ht)
        clear hA
        obtain rfl | rfl | rfl | rfl | rfl | rfl | rfl | rfl | rfl | rfl | rfl | rfl | rfl | rfl | rfl | rfl | rfl | rfl : i = 0 ∨ i = 1 ∨ i = 2 ∨ i = 3 ∨ i = 4 ∨ i = 5 ∨ i = 6 ∨ i = 7 ∨ i = 8 ∨ i = 9 ∨ i = 10 ∨ i = 11 ∨ i = 12 ∨ i = 13 ∨ i = 14 ∨ i = 15 ∨ i = 16 ∨ i = 17 := by omega
        all_goals
          injection hi with hi
          subst hi
          try simp [Region.binds] at hdep
        · skip
          exact step_run rfl (v := .int .i64 0) (w' := w') (by go_simp) ⟨rfl, Below.refl _ _⟩
        · skip
          have d35 := hD.out 0 35 (by simp [hdep]) rfl
          rw [show vals 0 = _ from hV 0 (by simp [hdep])] at d35
          exact step_run rfl (v := .bool false) (w' := w') (by go_simp) ⟨rfl, Below.refl _ _⟩
        · skip
          have d36 := hD.out 1 36 (by simp [hdep]) rfl
          rw [show vals 1 = _ from hV 1 (by simp [hdep])] at d36
          exact step_run rfl (v := .bool false) (w' := w') (by go_simp) ⟨rfl, Below.refl _ _⟩
        · skip
          have d37 := hD.out 2 37 (by simp [hdep]) rfl
          rw [show vals 2 = _ from hV 2 (by simp [hdep])] at d37
          exact step_run' (wanted_open rfl rfl d37) (v := .int .i64 1) (w' := w') (by go_simp) ⟨rfl, Below.refl _ _⟩
        · skip
          have d37 := hD.out 2 37 (by simp [hdep]) rfl
          rw [show vals 2 = _ from hV 2 (by simp [hdep])] at d37
          have d38 := hD.out 3 38 (by simp [hdep]) rfl
          rw [show vals 3 = _ from hV 3 (by simp [hdep])] at d38
          exact step_run' (wanted_open rfl rfl d37) (v := .bool true) (w' := w') (by go_simp) ⟨rfl, Below.refl _ _⟩
        · skip
          have d37 := hD.out 2 37 (by simp [hdep]) rfl
          rw [show vals 2 = _ from hV 2 (by simp [hdep])] at d37
          have d39 := hD.out 4 39 (by simp [hdep]) rfl
          rw [show vals 4 = _ from hV 4 (by simp [hdep])] at d39
          exact step_run rfl (v := .bool true) (w' := w') (by go_simp) ⟨rfl, Below.refl _ _⟩
        · skip
          have d40 := hD.out 5 40 (by simp [hdep]) rfl
          rw [show vals 5 = _ from hV 5 (by simp [hdep])] at d40
          exact step_run rfl (v := .bool true) (w' := w') (by go_simp) ⟨rfl, Below.refl _ _⟩
        · skip
          have d41 := hD.out 6 41 (by simp [hdep]) rfl
          rw [show vals 6 = _ from hV 6 (by simp [hdep])] at d41
          exact step_shut (wanted_shut rfl rfl d41 (by decide)) ⟨trivial, Below.refl _ _⟩
        · skip
          have d41 := hD.out 6 41 (by simp [hdep]) rfl
          rw [show vals 6 = _ from hV 6 (by simp [hdep])] at d41
          exact step_shut (wanted_shut rfl rfl d41 (by decide)) ⟨trivial, Below.refl _ _⟩
        · skip
          have d41 := hD.out 6 41 (by simp [hdep]) rfl
          rw [show vals 6 = _ from hV 6 (by simp [hdep])] at d41
          exact step_shut (wanted_shut rfl rfl d41 (by decide)) ⟨trivial, Below.refl _ _⟩
        · skip
          have d41 := hD.out 6 41 (by simp [hdep]) rfl
          rw [show vals 6 = _ from hV 6 (by simp [hdep])] at d41
          exact step_shut (wanted_shut rfl rfl d41 (by decide)) ⟨trivial, Below.refl _ _⟩
        · skip
          have d41 := hD.out 6 41 (by simp [hdep]) rfl
          rw [show vals 6 = _ from hV 6 (by simp [hdep])] at d41
          exact step_shut (wanted_shut rfl rfl d41 (by decide)) ⟨trivial, Below.refl _ _⟩
        · skip
          have d41 := hD.out 6 41 (by simp [hdep]) rfl
          rw [show vals 6 = _ from hV 6 (by simp [hdep])] at d41
          exact step_shut (wanted_shut rfl rfl d41 (by decide)) ⟨trivial, Below.refl _ _⟩
        · skip
          have d41 := hD.out 6 41 (by simp [hdep]) rfl
          rw [show vals 6 = _ from hV 6 (by simp [hdep])] at d41
          exact step_shut (wanted_shut rfl rfl d41 (by decide)) ⟨trivial, Below.refl _ _⟩
        · skip
          have d41 := hD.out 6 41 (by simp [hdep]) rfl
          rw [show vals 6 = _ from hV 6 (by simp [hdep])] at d41
          exact step_shut (wanted_shut rfl rfl d41 (by decide)) ⟨trivial, Below.refl _ _⟩
        · skip
          have d41 := hD.out 6 41 (by simp [hdep]) rfl
          rw [show vals 6 = _ from hV 6 (by simp [hdep])] at d41
          exact step_shut (wanted_shut rfl rfl d41 (by decide)) ⟨trivial, Below.refl _ _⟩
        · skip
          have d41 := hD.out 6 41 (by simp [hdep]) rfl
          rw [show vals 6 = _ from hV 6 (by simp [hdep])] at d41
          exact step_run rfl (v := .bool true) (w' := w') (by go_simp) ⟨rfl, Below.refl _ _⟩
        · skip
          have d51 := hD.out 16 51 (by simp [hdep]) rfl
          rw [show vals 16 = _ from hV 16 (by simp [hdep])] at d51
          exact step_run rfl (v := .bool true) (w' := w') (by go_simp) ⟨rfl, Below.refl _ _⟩
      · intro vals w9 hB hV
        have e0 : vals 0 = .int .i64 0 := hV 0 (by decide)
        have e1 : vals 1 = .bool false := hV 1 (by decide)
        have e2 : vals 2 = .bool false := hV 2 (by decide)
        have e3 : vals 3 = .int .i64 1 := hV 3 (by decide)
        have e4 : vals 4 = .bool true := hV 4 (by decide)
        have e5 : vals 5 = .bool true := hV 5 (by decide)
        have e6 : vals 6 = .bool true := hV 6 (by decide)
        have e16 : vals 16 = .bool true := hV 16 (by decide)
        have e17 : vals 17 = .bool true := hV 17 (by decide)
        have HB9 := Lib.hid (HB8.out.trans (hB.mono HB8.out.size))
        simp only [putsL, Act.put, List.setIfInBounds_toArray, List.set_cons_zero, List.set_cons_succ, e0, e1, e2, e3, e4, e5, e6, e16, e17]
        clear e0 e1 e2 e3 e4 e5 e6 e16 e17 hB hV
        go_wp2_with fail
        go_ret
        exact ⟨rfl, HB9.out⟩
    · obtain rfl : E7 = 0 := HE7.out.symm
      obtain rfl : E8 = 0 := HE8.out.symm
      have HLL := Lib.hid (show L = true ↔ NtSame n m from by
        rw [← pack_same (pack_lay HSA.out) (pack_lay HSB.out), ← HLS.out, ← HT7.out, ← HT8.out, toList_strB, toList_strB]
        simp only [Option.getD_some, decide_eq_true_eq])
      have CS9 := Lib.hid (fun w' (h : Below w8.heap.size w8 w') => CSM.out w' L HLL.out (HN18.out.below h) (HN28.out.below h) (HE18.out.below h) (HE28.out.below h))
      have hLd : (t7.toList == t8.toList) = L := by rw [← HLS.out, Bool.eq_iff_iff]; simp
      have hLL : (L == L) = true := by cases L <;> rfl
      go_upto_region 8 with fail
      refine wp_region_mono mixedAt (by kernel_rfl) [VP.eq (.int .i64 0), VP.eq (.bool false), VP.eq (.bool false), VP.eq (.int .i64 0), VP.eq (.bool false), VP.eq (.bool false), VP.eq (.bool false), VP.eq (.slice q7 N7 d7), VP.eq (.string t7), VP.eq (.slice q8 N8 d8), VP.eq (.string t8), VP.eq (.bool L), VP.eq (.agg c1), VP.eq (.agg d1), VP.eq (.bool L), VP.eq (.bool true), VP.eq (.bool true), VP.eq (.bool true)] ?_ ?_
      · intro i opr Ls vals w' hi hL' hdep hC hB hV
        have hlt : i < 18 := by have := (List.getElem?_eq_some_iff.1 hi).1; simpa using this
        generalize hA : frA _ _ Ls vals = a'
        have hT8 : a'.tmps.getD 8 undef = .int .i64 0 := by rw [← hA, frA_base (by kernel_rfl)]; rfl
        have hT10 : a'.tmps.getD 10 undef = .int .i64 0 := by rw [← hA, frA_base (by kernel_rfl)]; rfl
        have hT7 : a'.tmps.getD 7 undef = .slice q7 N7 d7 := by rw [← hA, frA_base (by kernel_rfl)]; rfl
        have hT9 : a'.tmps.getD 9 undef = .slice q8 N8 d8 := by rw [← hA, frA_base (by kernel_rfl)]; rfl
        have hT5 : a'.tmps.getD 5 undef = .pointer (some ⟨b1, 0, none⟩) := by rw [← hA, frA_base (by kernel_rfl)]; rfl
        have hT6 : a'.tmps.getD 6 undef = .pointer (some ⟨b2, 0, none⟩) := by rw [← hA, frA_base (by kernel_rfl)]; rfl
        have hD := Lib.hid (fun k t (hk : Ls k = true) (ht : dstOf _ k = some t) => hA ▸ frA_done (by kernel_rfl) (vals := vals) hk ht)
        clear hA
        have x7 := HX7.out w' hB
        have x8 := HX8.out w' hB
        have hr1 : w'.heap[b1]? = some (.cells c1 44 (0, 0)) := by rw [hB.block _ (Array.getElem?_eq_some_iff.1 HR18.out).1]; exact HR18.out
        have hr2 : w'.heap[b2]? = some (.cells d1 44 (0, 0)) := by rw [hB.block _ (Array.getElem?_eq_some_iff.1 HR28.out).1]; exact HR28.out
        obtain rfl | rfl | rfl | rfl | rfl | rfl | rfl | rfl | rfl | rfl | rfl | rfl | rfl | rfl | rfl | rfl | rfl | rfl : i = 0 ∨ i = 1 ∨ i = 2 ∨ i = 3 ∨ i = 4 ∨ i = 5 ∨ i = 6 ∨ i = 7 ∨ i = 8 ∨ i = 9 ∨ i = 10 ∨ i = 11 ∨ i = 12 ∨ i = 13 ∨ i = 14 ∨ i = 15 ∨ i = 16 ∨ i = 17 := by omega
        all_goals
          injection hi with hi
          subst hi
          try simp [Region.binds] at hdep
        · skip
          exact step_run rfl (v := .int .i64 0) (w' := w') (by go_simp) ⟨rfl, Below.refl _ _⟩
        · skip
          have d35 := hD.out 0 35 (by simp [hdep]) rfl
          rw [show vals 0 = _ from hV 0 (by simp [hdep])] at d35
          exact step_run rfl (v := .bool false) (w' := w') (by go_simp) ⟨rfl, Below.refl _ _⟩
        · skip
          have d36 := hD.out 1 36 (by simp [hdep]) rfl
          rw [show vals 1 = _ from hV 1 (by simp [hdep])] at d36
          exact step_run rfl (v := .bool false) (w' := w') (by go_simp) ⟨rfl, Below.refl _ _⟩
        · skip
          have d37 := hD.out 2 37 (by simp [hdep]) rfl
          rw [show vals 2 = _ from hV 2 (by simp [hdep])] at d37
          exact step_run' (wanted_open rfl rfl d37) (v := .int .i64 0) (w' := w') (by go_simp) ⟨rfl, Below.refl _ _⟩
        · skip
          have d37 := hD.out 2 37 (by simp [hdep]) rfl
          rw [show vals 2 = _ from hV 2 (by simp [hdep])] at d37
          have d38 := hD.out 3 38 (by simp [hdep]) rfl
          rw [show vals 3 = _ from hV 3 (by simp [hdep])] at d38
          exact step_run' (wanted_open rfl rfl d37) (v := .bool false) (w' := w') (by go_simp) ⟨rfl, Below.refl _ _⟩
        · skip
          have d37 := hD.out 2 37 (by simp [hdep]) rfl
          rw [show vals 2 = _ from hV 2 (by simp [hdep])] at d37
          have d39 := hD.out 4 39 (by simp [hdep]) rfl
          rw [show vals 4 = _ from hV 4 (by simp [hdep])] at d39
          exact step_run rfl (v := .bool false) (w' := w') (by go_simp) ⟨rfl, Below.refl _ _⟩
        · skip
          have d40 := hD.out 5 40 (by simp [hdep]) rfl
          rw [show vals 5 = _ from hV 5 (by simp [hdep])] at d40
          exact step_run rfl (v := .bool false) (w' := w') (by go_simp) ⟨rfl, Below.refl _ _⟩
        · skip
          have d41 := hD.out 6 41 (by simp [hdep]) rfl
          rw [show vals 6 = _ from hV 6 (by simp [hdep])] at d41
          exact step_run' (wanted_open rfl rfl d41) (v := .slice q7 N7 d7) (w' := w') (by go_simp) ⟨rfl, Below.refl _ _⟩
        · skip
          have d41 := hD.out 6 41 (by simp [hdep]) rfl
          rw [show vals 6 = _ from hV 6 (by simp [hdep])] at d41
          have d42 := hD.out 7 42 (by simp [hdep]) rfl
          rw [show vals 7 = _ from hV 7 (by simp [hdep])] at d42
          exact step_run' (wanted_open rfl rfl d41) (v := .string t7) (w' := w') (by go_simp) ⟨rfl, Below.refl _ _⟩
        · skip
          have d41 := hD.out 6 41 (by simp [hdep]) rfl
          rw [show vals 6 = _ from hV 6 (by simp [hdep])] at d41
          exact step_run' (wanted_open rfl rfl d41) (v := .slice q8 N8 d8) (w' := w') (by go_simp) ⟨rfl, Below.refl _ _⟩
        · skip
          have d41 := hD.out 6 41 (by simp [hdep]) rfl
          rw [show vals 6 = _ from hV 6 (by simp [hdep])] at d41
          have d44 := hD.out 9 44 (by simp [hdep]) rfl
          rw [show vals 9 = _ from hV 9 (by simp [hdep])] at d44
          exact step_run' (wanted_open rfl rfl d41) (v := .string t8) (w' := w') (by go_simp) ⟨rfl, Below.refl _ _⟩
        · skip
          have d41 := hD.out 6 41 (by simp [hdep]) rfl
          rw [show vals 6 = _ from hV 6 (by simp [hdep])] at d41
          have d43 := hD.out 8 43 (by simp [hdep]) rfl
          rw [show vals 8 = _ from hV 8 (by simp [hdep])] at d43
          have d45 := hD.out 10 45 (by simp [hdep]) rfl
          rw [show vals 10 = _ from hV 10 (by simp [hdep])] at d45
          exact step_run' (wanted_open rfl rfl d41) (v := .bool L) (w' := w') (by go_simp) ⟨rfl, Below.refl _ _⟩
        · skip
          have d41 := hD.out 6 41 (by simp [hdep]) rfl
          rw [show vals 6 = _ from hV 6 (by simp [hdep])] at d41
          exact step_run' (wanted_open rfl rfl d41) (v := .agg c1) (w' := w') (run_load_row 44 (.tmp 5) rfl b1 hT5 44 c1 (0, 0) _ hr1 Try.underlying44 rfl HI1.out) ⟨rfl, Below.refl _ _⟩
        · skip
          have d41 := hD.out 6 41 (by simp [hdep]) rfl
          rw [show vals 6 = _ from hV 6 (by simp [hdep])] at d41
          exact step_run' (wanted_open rfl rfl d41) (v := .agg d1) (w' := w') (run_load_row 44 (.tmp 6) rfl b2 hT6 44 d1 (0, 0) _ hr2 Try.underlying44 rfl HI2.out) ⟨rfl, Below.refl _ _⟩
        · skip
          have d41 := hD.out 6 41 (by simp [hdep]) rfl
          rw [show vals 6 = _ from hV 6 (by simp [hdep])] at d41
          have d47 := hD.out 12 47 (by simp [hdep]) rfl
          rw [show vals 12 = _ from hV 12 (by simp [hdep])] at d47
          have d48 := hD.out 13 48 (by simp [hdep]) rfl
          rw [show vals 13 = _ from hV 13 (by simp [hdep])] at d48
          exact step_enter' (wanted_open rfl rfl d41) (f := 14) (args := #[.agg c1, .agg d1]) (w' := w') (by go_simp) ((CS9.out w' hB).mono fun e w'' ⟨he, hb⟩ => ⟨.bool L, he, rfl, hb⟩)
        · skip
          have d41 := hD.out 6 41 (by simp [hdep]) rfl
          rw [show vals 6 = _ from hV 6 (by simp [hdep])] at d41
          have d46 := hD.out 11 46 (by simp [hdep]) rfl
          rw [show vals 11 = _ from hV 11 (by simp [hdep])] at d46
          have d49 := hD.out 14 49 (by simp [hdep]) rfl
          rw [show vals 14 = _ from hV 14 (by simp [hdep])] at d49
          exact step_run' (wanted_open rfl rfl d41) (v := .bool true) (w' := w') (by go_simp) ⟨rfl, Below.refl _ _⟩
        · skip
          have d41 := hD.out 6 41 (by simp [hdep]) rfl
          rw [show vals 6 = _ from hV 6 (by simp [hdep])] at d41
          have d50 := hD.out 15 50 (by simp [hdep]) rfl
          rw [show vals 15 = _ from hV 15 (by simp [hdep])] at d50
          exact step_run rfl (v := .bool true) (w' := w') (by go_simp) ⟨rfl, Below.refl _ _⟩
        · skip
          have d51 := hD.out 16 51 (by simp [hdep]) rfl
          rw [show vals 16 = _ from hV 16 (by simp [hdep])] at d51
          exact step_run rfl (v := .bool true) (w' := w') (by go_simp) ⟨rfl, Below.refl _ _⟩
      · intro vals w9 hB hV
        have e0 : vals 0 = .int .i64 0 := hV 0 (by decide)
        have e1 : vals 1 = .bool false := hV 1 (by decide)
        have e2 : vals 2 = .bool false := hV 2 (by decide)
        have e3 : vals 3 = .int .i64 0 := hV 3 (by decide)
        have e4 : vals 4 = .bool false := hV 4 (by decide)
        have e5 : vals 5 = .bool false := hV 5 (by decide)
        have e6 : vals 6 = .bool false := hV 6 (by decide)
        have e7 : vals 7 = .slice q7 N7 d7 := hV 7 (by decide)
        have e8 : vals 8 = .string t7 := hV 8 (by decide)
        have e9 : vals 9 = .slice q8 N8 d8 := hV 9 (by decide)
        have e10 : vals 10 = .string t8 := hV 10 (by decide)
        have e11 : vals 11 = .bool L := hV 11 (by decide)
        have e12 : vals 12 = .agg c1 := hV 12 (by decide)
        have e13 : vals 13 = .agg d1 := hV 13 (by decide)
        have e14 : vals 14 = .bool L := hV 14 (by decide)
        have e15 : vals 15 = .bool true := hV 15 (by decide)
        have e16 : vals 16 = .bool true := hV 16 (by decide)
        have e17 : vals 17 = .bool true := hV 17 (by decide)
        have HB9 := Lib.hid (HB8.out.trans (hB.mono HB8.out.size))
        simp only [putsL, Act.put, List.setIfInBounds_toArray, List.set_cons_zero, List.set_cons_succ, e0, e1, e2, e3, e4, e5, e6, e7, e8, e9, e10, e11, e12, e13, e14, e15, e16, e17]
        clear e0 e1 e2 e3 e4 e5 e6 e7 e8 e9 e10 e11 e12 e13 e14 e15 e16 e17 hB hV
        go_wp2_with fail
        go_ret
        exact ⟨rfl, HB9.out⟩
end Go.Proofs.Ytbhojddakmgdmaa
