/-
  Several texts in one: AtMade, RegPut, AtSpec.
-/
import Derived.Test.YtbhojddakmgdmaaMg13
import Derived.Test.YtbhojddakmgdmaaMg20
import Derived.Deep.RegionLaw
import Derived.LoopTactic
import Derived.Deep.CutRange
import Derived.Test.YtbhojddakmgdmaaMg09
import Derived.Test.YtbhojddakmgdmaaMg19
namespace Go.Proofs.Ytbhojddakmgdmaa
open Go.RowKit Go.Gz

set_option maxHeartbeats 8000000 in
set_option maxRecDepth 100000 in
theorem atmade_any (w : World) (ep : Int) (L : List Sd) (p : Option Addr) (ca : Nat) (hp : RowK KS w p L) (hL : L.length ≤ 1000000) :
    Calls Try.prog 23 #[.agg #[.int .i64 ep, .slice p L.length ca]] w (RetA w 68 ep L) := by
  obtain ⟨n, hN⟩ : ∃ n, L.length = n := ⟨_, rfl⟩
  have HN := Lib.hid hN
  rw [hN] at hL ⊢
  obtain ⟨w0, hw0⟩ : ∃ w0, ((w.alloc (.cells #[.int .i64 ep, .slice p n ca] 34)).alloc (.cells #[.int .i64 0, .slice none 0 0] 42)).alloc (.cells #[.int .i64 ep, .slice none 0 0] 42) = w0 := ⟨_, rfl⟩
  have HB0 := Lib.hid (show Below w.heap.size w w0 from hw0 ▸ (((Below.refl _ _).alloc (Nat.le_refl _) _).alloc (by simp) _).alloc (by simp; omega) _)
  have hz0 : w0.heap.size = w.heap.size + 3 := by rw [← hw0]; simp
  have HZ := Lib.hid hz0
  have HBX := Lib.hid (show BoxA w0 w.heap.size ep (.slice p n ca) from hw0 ▸ ((BoxA.new w _ _ _).below (below_alloc _ _)).below (below_alloc _ _))
  have HR := Lib.hid (hp.below HB0.out)
  have HPB := Lib.hid (show ∀ a, p = some a → a.block < w.heap.size ∨ L = [] from fun a ha => by
    rcases hp with h | ⟨b, off, hp, hlt, _⟩
    · exact Or.inr h
    · rw [ha] at hp; injection hp with hp; exact Or.inl (by rw [hp]; exact hlt))
  have hnb : w0.heap[w.heap.size + 1 + 1]? = some (.cells #[.int .i64 ep, .slice none 0 0] 42 (0, 0)) := by
    have := alloc_at ((w.alloc (.cells #[.int .i64 ep, .slice p n ca] 34)).alloc (.cells #[.int .i64 0, .slice none 0 0] 42)) (.cells #[.int .i64 ep, .slice none 0 0] 42)
    rw [hw0] at this
    simpa using this
  have HRS := Lib.hid (show w0.cell? ⟨w.heap.size + 1, 0, none⟩ = some (.int .i64 0) ∧ w0.cell? ⟨w.heap.size + 1, 1, none⟩ = some (.slice none 0 0) ∧ w0.frozen? ⟨w.heap.size + 1, 0, none⟩ = false ∧ w0.frozen? ⟨w.heap.size + 1, 1, none⟩ = false ∧ w0.heap[w.heap.size + 1]? = some (.cells #[.int .i64 0, .slice none 0 0] 42 (0, 0)) by
    rw [← hw0]
    exact ⟨by simp [go_sem], by simp [go_sem], by simp [go_sem], by simp [go_sem], by rw [Below.heap_alloc _ _ _ (by simp)]; have := alloc_at (w.alloc (.cells #[.int .i64 ep, .slice p n ca] 34)) (.cells #[.int .i64 0, .slice none 0 0] 42); simpa using this⟩)
  have HST := Lib.hid (show MdI w0 68 ep (w.heap.size + 1 + 1) L 0 w0 from ⟨KeptF.refl _ _, _, hnb, OwnK.nil KS _ _ _⟩)
  have HW0 := Lib.hid hw0
  clear hnb hN hp hz0 hw0
  go_enter Try.func23, Try.ntmps23
  go_wp2_with fail
  rw [HW0.out]
  go_loopw [4] (fun i wr => ∃ k : Nat, i = .int .i64 k ∧ k ≤ n ∧ Hid (MdI w0 68 ep (w.heap.size + 1 + 1) L k wr)) (fun i _ => n - (RowKit.intOf i).toNat)
  case atStart => exact ⟨0, rfl, Nat.zero_le _, HST⟩
  case round =>
    obtain ⟨k, rfl, hkn, HI⟩ := hrel
    obtain ⟨hkb, kx0, kx1⟩ := HBX.out
    have x0 := (HI.out.kept.cell (p := ⟨w.heap.size, 0, none⟩) hkb (by show ¬ w.heap.size = _; omega)).trans kx0
    have x1 := (HI.out.kept.cell (p := ⟨w.heap.size, 1, none⟩) hkb (by show ¬ w.heap.size = _; omega)).trans kx1
    clear kx0 kx1
    rcases Nat.lt_or_ge k n with hk | hk
    · have hkz : (k : Int) < (n : Int) := by omega
      have hklt : k < L.length := by rw [HN.out]; exact hk
      obtain ⟨e, he⟩ : ∃ e, L.getD k default = e := ⟨_, rfl⟩
      have hRr : RowK KS wr p L := HR.out.kept HI.out.kept (fun a ha => by
        rcases HPB.out a ha with h1 | h1
        · show ¬ a.block = _
          omega
        · rw [h1] at hklt; simp at hklt)
      obtain ⟨pb, po, rfl, hpb, hcell⟩ := hRr.cells (Below.refl _ _) hklt
      rw [he] at hcell
      have HTK := Lib.hid (show L.take (k + 1) = L.take k ++ [e] by
        rw [List.take_succ_eq_append_getElem hklt, ← he]
        simp [List.getD, hklt])
      have HLK := Lib.hid (show (L.take k).length = k by rw [List.length_take]; omega)
      obtain ⟨v, hv, hown⟩ := HI.out.row
      have HOW := Lib.hid hown
      have HV := Lib.hid hv
      have o1 : wr.cell? ⟨w.heap.size + 1 + 1, 1, none⟩ = some v := by simp [World.cell?, hv]
      have hzr := HI.out.kept.size
      have HON := Lib.hid (show ∀ w3 : World, RowK KS (w3.alloc (.cells #[.string e.sp.f, .string e.sp.t, .int .i64 e.n, .int .i64 e.e] 68)) (some ⟨w3.heap.size, 0, none⟩) [e] from fun w3 => RowK.block KS (L := [e]) (alloc_at w3 _))
      obtain ⟨⟨ef, et⟩, en, ee⟩ := e
      have z0 := hcell 0 (by decide)
      have z1 := hcell 1 (by decide)
      have z2 := hcell 2 (by decide)
      have z3 := hcell 3 (by decide)
      simp only [KS, Nat.add_zero] at z0 z1 z2 z3
      clear hcell he hv hown hRr
      have hpos : (0 : Int) ≤ (k : Int) := by omega
      go_upto_region 5 with fail
      obtain ⟨q, c, rfl, _⟩ := HOW.out.row
      have HNO := Lib.hid (show ∀ g, (Value.slice q (L.take k).length c).ownBlock = some g → w0.heap.size ≤ g from fun g hg => (HOW.out.ltB g hg).1)
      have HX := Lib.hid x1
      have HZ4 := Lib.hid (And.intro z0 (And.intro z1 (And.intro z2 z3)))
      have HKN := Lib.hid hkz
      have HF1 := Lib.hid (show w.heap.size < wr.heap.size ∧ ¬ (w.heap.size = w.heap.size + 1 + 1 ∨ (Value.slice q (L.take k).length c).ownBlock = some w.heap.size) from ⟨by have := HZ.out; omega, fun h => by
        rcases h with h | h
        · omega
        · have := HNO.out _ h; have := HZ.out; omega⟩)
      have HF2 := Lib.hid (show pb < wr.heap.size ∧ ¬ (pb = w.heap.size + 1 + 1 ∨ (Value.slice q (L.take k).length c).ownBlock = some pb) from ⟨hpb, fun h => by
        rcases HPB.out _ rfl with h1 | h1
        · have h1 : pb < w.heap.size := h1
          rcases h with h | h
          · omega
          · have := HNO.out _ h; have := HZ.out; omega
        · rw [h1] at hklt; simp at hklt⟩)
      clear x0 x1 z0 z1 z2 z3 o1
      refine wp_region_app mixedAt (by kernel_rfl) (K := KS) (t := 68) (B := w0.heap.size) (v0 := (.slice q (L.take k).length c)) (X := (L.take k)) (M := [⟨⟨ef, et⟩, en, ee⟩])
        [some (.pointer (some ⟨w.heap.size + 1 + 1, 1, none⟩)), some (.slice q (L.take k).length c), some (.pointer (some ⟨w.heap.size, 1, none⟩)), some (.slice (some ⟨pb, po, none⟩) n ca), some (.int .i64 k), some (.pointer (some ⟨pb, po + k * 4, none⟩)), some (.pointer (some ⟨pb, po + k * 4, none⟩)), some (.agg #[.string ef, .string et]), some (.pointer (some ⟨w.heap.size, 1, none⟩)), some (.slice (some ⟨pb, po, none⟩) n ca), some (.int .i64 k), some (.pointer (some ⟨pb, po + k * 4, none⟩)), some (.pointer (some ⟨pb, po + k * 4 + 2, none⟩)), some (.int .i64 en), some (.pointer (some ⟨w.heap.size, 1, none⟩)), some (.slice (some ⟨pb, po, none⟩) n ca), some (.int .i64 k), some (.pointer (some ⟨pb, po + k * 4, none⟩)), some (.pointer (some ⟨pb, po + k * 4 + 3, none⟩)), some (.int .i64 ee), some (.agg #[.string ef, .string et, .int .i64 en, .int .i64 ee]), none, none, some (.pointer (some ⟨w.heap.size + 1 + 1, 1, none⟩)), none]
        21 22 24 (by kernel_rfl) (by kernel_rfl) (by decide) (by decide) ⟨rfl, rfl, rfl⟩ (w.heap.size + 1 + 1) 1 #[.int .i64 ep, .slice q (L.take k).length c] 42 (0, 0) HV.out (fun e => by have := HNO.out _ e; have := HZ.out; omega) HOW.out HI.out.kept.size ?_ ?_ ?_ ?_ ?_
      · intro i opr Ls vals w' hi hL hdep hC hK hob hV n1 n2 n3
        have hlt : i < 25 := by have := (List.getElem?_eq_some_iff.1 hi).1; simpa using this
        generalize hA : frA _ _ Ls vals = a'
        have hT1 : a'.tmps.getD 1 undef = .pointer (some ⟨w.heap.size, 0, none⟩) := by rw [← hA, frA_base (by kernel_rfl)]; rfl
        have hT3 : a'.tmps.getD 3 undef = .pointer (some ⟨w.heap.size + 1 + 1, 0, none⟩) := by rw [← hA, frA_base (by kernel_rfl)]; rfl
        have hT4 : a'.tmps.getD 4 undef = .int .i64 k := by rw [← hA, frA_base (by kernel_rfl)]; rfl
        have hD := Lib.hid (fun k t (hk : Ls k = true) (ht : dstOf _ k = some t) => hA ▸ frA_done (by kernel_rfl) (vals := vals) hk ht)
        clear hA
        have x1' := (hK.cell (p := ⟨w.heap.size, 1, none⟩) HF1.out.1 HF1.out.2).trans HX.out
        have z0' := (hK.cell (p := ⟨pb, po + k * 4, none⟩) HF2.out.1 HF2.out.2).trans HZ4.out.1
        have z1' := (hK.cell (p := ⟨pb, po + k * 4 + 1, none⟩) HF2.out.1 HF2.out.2).trans HZ4.out.2.1
        have z2' := (hK.cell (p := ⟨pb, po + k * 4 + 2, none⟩) HF2.out.1 HF2.out.2).trans HZ4.out.2.2.1
        have z3' := (hK.cell (p := ⟨pb, po + k * 4 + 3, none⟩) HF2.out.1 HF2.out.2).trans HZ4.out.2.2.2
        have hkn' : (k : Int) < (n : Int) := HKN.out
        obtain rfl | rfl | rfl | rfl | rfl | rfl | rfl | rfl | rfl | rfl | rfl | rfl | rfl | rfl | rfl | rfl | rfl | rfl | rfl | rfl | rfl | rfl : i = 0 ∨ i = 1 ∨ i = 2 ∨ i = 3 ∨ i = 4 ∨ i = 5 ∨ i = 6 ∨ i = 7 ∨ i = 8 ∨ i = 9 ∨ i = 10 ∨ i = 11 ∨ i = 12 ∨ i = 13 ∨ i = 14 ∨ i = 15 ∨ i = 16 ∨ i = 17 ∨ i = 18 ∨ i = 19 ∨ i = 20 ∨ i = 23 := by omega
        all_goals
          injection hi with hi
          subst hi
          try simp [Region.binds] at hdep
        · exact step_run rfl (v := .pointer (some ⟨w.heap.size + 1 + 1, 1, none⟩)) (w' := w') (by go_simp) ⟨EqV.self rfl, rfl⟩
        · have d15 := hD.out 0 15 (by simp [hdep]) rfl
          rw [show vals 0 = _ from (hV 0 (by simp [hdep])).of rfl] at d15
          have hno : Ls 24 = false := by
            cases h : Ls 24 with
            | false => rfl
            | true => have := hC.path [24, 22, 1] (by kernel_rfl) 24 rfl h 1 rfl; rw [hL] at this; cases this
          have ob1 := hob hno
          have ob2 : w'.cell? ⟨w.heap.size + 1 + 1, 1, none⟩ = some (.slice q (L.take k).length c) := by simp [World.cell?, ob1]
          clear ob1
          exact step_run rfl (v := .slice q (L.take k).length c) (w' := w') (by go_simp) ⟨EqV.self rfl, rfl⟩
        · exact step_run rfl (v := .pointer (some ⟨w.heap.size, 1, none⟩)) (w' := w') (by go_simp) ⟨EqV.self rfl, rfl⟩
        · have d17 := hD.out 2 17 (by simp [hdep]) rfl
          rw [show vals 2 = _ from (hV 2 (by simp [hdep])).of rfl] at d17
          exact step_run rfl (v := .slice (some ⟨pb, po, none⟩) n ca) (w' := w') (by go_simp) ⟨EqV.self rfl, rfl⟩
        · exact step_run rfl (v := .int .i64 k) (w' := w') (by go_simp) ⟨EqV.self rfl, rfl⟩
        · have d18 := hD.out 3 18 (by simp [hdep]) rfl
          rw [show vals 3 = _ from (hV 3 (by simp [hdep])).of rfl] at d18
          have d19 := hD.out 4 19 (by simp [hdep]) rfl
          rw [show vals 4 = _ from (hV 4 (by simp [hdep])).of rfl] at d19
          exact step_run rfl (v := .pointer (some ⟨pb, po + k * 4, none⟩)) (w' := w') (by go_simp) ⟨EqV.self rfl, rfl⟩
        · have d20 := hD.out 5 20 (by simp [hdep]) rfl
          rw [show vals 5 = _ from (hV 5 (by simp [hdep])).of rfl] at d20
          exact step_run rfl (v := .pointer (some ⟨pb, po + k * 4, none⟩)) (w' := w') (by go_simp) ⟨EqV.self rfl, rfl⟩
        · have d21 := hD.out 6 21 (by simp [hdep]) rfl
          rw [show vals 6 = _ from (hV 6 (by simp [hdep])).of rfl] at d21
          exact step_run rfl (v := .agg #[.string ef, .string et]) (w' := w') (by go_simp) ⟨EqV.self rfl, rfl⟩
        · exact step_run rfl (v := .pointer (some ⟨w.heap.size, 1, none⟩)) (w' := w') (by go_simp) ⟨EqV.self rfl, rfl⟩
        · have d23 := hD.out 8 23 (by simp [hdep]) rfl
          rw [show vals 8 = _ from (hV 8 (by simp [hdep])).of rfl] at d23
          exact step_run rfl (v := .slice (some ⟨pb, po, none⟩) n ca) (w' := w') (by go_simp) ⟨EqV.self rfl, rfl⟩
        · exact step_run rfl (v := .int .i64 k) (w' := w') (by go_simp) ⟨EqV.self rfl, rfl⟩
        · have d24 := hD.out 9 24 (by simp [hdep]) rfl
          rw [show vals 9 = _ from (hV 9 (by simp [hdep])).of rfl] at d24
          have d25 := hD.out 10 25 (by simp [hdep]) rfl
          rw [show vals 10 = _ from (hV 10 (by simp [hdep])).of rfl] at d25
          exact step_run rfl (v := .pointer (some ⟨pb, po + k * 4, none⟩)) (w' := w') (by go_simp) ⟨EqV.self rfl, rfl⟩
        · have d26 := hD.out 11 26 (by simp [hdep]) rfl
          rw [show vals 11 = _ from (hV 11 (by simp [hdep])).of rfl] at d26
          exact step_run rfl (v := .pointer (some ⟨pb, po + k * 4 + 2, none⟩)) (w' := w') (by go_simp) ⟨EqV.self rfl, rfl⟩
        · have d27 := hD.out 12 27 (by simp [hdep]) rfl
          rw [show vals 12 = _ from (hV 12 (by simp [hdep])).of rfl] at d27
          exact step_run rfl (v := .int .i64 en) (w' := w') (by go_simp) ⟨EqV.self rfl, rfl⟩
        · exact step_run rfl (v := .pointer (some ⟨w.heap.size, 1, none⟩)) (w' := w') (by go_simp) ⟨EqV.self rfl, rfl⟩
        · have d29 := hD.out 14 29 (by simp [hdep]) rfl
          rw [show vals 14 = _ from (hV 14 (by simp [hdep])).of rfl] at d29
          exact step_run rfl (v := .slice (some ⟨pb, po, none⟩) n ca) (w' := w') (by go_simp) ⟨EqV.self rfl, rfl⟩
        · exact step_run rfl (v := .int .i64 k) (w' := w') (by go_simp) ⟨EqV.self rfl, rfl⟩
        · have d30 := hD.out 15 30 (by simp [hdep]) rfl
          rw [show vals 15 = _ from (hV 15 (by simp [hdep])).of rfl] at d30
          have d31 := hD.out 16 31 (by simp [hdep]) rfl
          rw [show vals 16 = _ from (hV 16 (by simp [hdep])).of rfl] at d31
          exact step_run rfl (v := .pointer (some ⟨pb, po + k * 4, none⟩)) (w' := w') (by go_simp) ⟨EqV.self rfl, rfl⟩
        · have d32 := hD.out 17 32 (by simp [hdep]) rfl
          rw [show vals 17 = _ from (hV 17 (by simp [hdep])).of rfl] at d32
          exact step_run rfl (v := .pointer (some ⟨pb, po + k * 4 + 3, none⟩)) (w' := w') (by go_simp) ⟨EqV.self rfl, rfl⟩
        · have d33 := hD.out 18 33 (by simp [hdep]) rfl
          rw [show vals 18 = _ from (hV 18 (by simp [hdep])).of rfl] at d33
          exact step_run rfl (v := .int .i64 ee) (w' := w') (by go_simp) ⟨EqV.self rfl, rfl⟩
        · have d22 := hD.out 7 22 (by simp [hdep]) rfl
          rw [show vals 7 = _ from (hV 7 (by simp [hdep])).of rfl] at d22
          have d28 := hD.out 13 28 (by simp [hdep]) rfl
          rw [show vals 13 = _ from (hV 13 (by simp [hdep])).of rfl] at d28
          have d34 := hD.out 19 34 (by simp [hdep]) rfl
          rw [show vals 19 = _ from (hV 19 (by simp [hdep])).of rfl] at d34
          rw [Array.getD_eq_getD_getElem?] at d22 d28 d34
          exact step_run rfl (v := .agg #[.string ef, .string et, .int .i64 en, .int .i64 ee]) (w' := w') (by go_simp) ⟨EqV.self rfl, rfl⟩
        · exact step_run rfl (v := .pointer (some ⟨w.heap.size + 1 + 1, 1, none⟩)) (w' := w') (by go_simp) ⟨EqV.self rfl, rfl⟩
      · intro opr Ls vals w' hi hdep hC hV
        generalize hA : frA _ _ Ls vals = a'
        have hT1 : a'.tmps.getD 1 undef = .pointer (some ⟨w.heap.size, 0, none⟩) := by rw [← hA, frA_base (by kernel_rfl)]; rfl
        have hT3 : a'.tmps.getD 3 undef = .pointer (some ⟨w.heap.size + 1 + 1, 0, none⟩) := by rw [← hA, frA_base (by kernel_rfl)]; rfl
        have hT4 : a'.tmps.getD 4 undef = .int .i64 k := by rw [← hA, frA_base (by kernel_rfl)]; rfl
        have hD := Lib.hid (fun k t (hk : Ls k = true) (ht : dstOf _ k = some t) => hA ▸ frA_done (by kernel_rfl) (vals := vals) hk ht)
        clear hA
        injection hi with hi
        subst hi
        simp [Region.binds] at hdep
        have d35 := hD.out 20 35 (by simp [hdep]) rfl
        rw [show vals 20 = _ from (hV 20 (by simp [hdep])).of rfl] at d35
        rw [Array.getD_eq_getD_getElem?] at d35
        exact step_run rfl (v := .slice (some ⟨w'.heap.size, 0, none⟩) 1 1) (w' := w'.alloc (.cells #[.string ef, .string et, .int .i64 en, .int .i64 ee] 68)) (by go_simp) ⟨rfl, rfl⟩
      · intro opr Ls vals w' b hi hdep hC hLb hV hb hrow hown hBw
        generalize hA : frA _ _ Ls vals = a'
        have hT1 : a'.tmps.getD 1 undef = .pointer (some ⟨w.heap.size, 0, none⟩) := by rw [← hA, frA_base (by kernel_rfl)]; rfl
        have hT3 : a'.tmps.getD 3 undef = .pointer (some ⟨w.heap.size + 1 + 1, 0, none⟩) := by rw [← hA, frA_base (by kernel_rfl)]; rfl
        have hT4 : a'.tmps.getD 4 undef = .int .i64 k := by rw [← hA, frA_base (by kernel_rfl)]; rfl
        have hD := Lib.hid (fun k t (hk : Ls k = true) (ht : dstOf _ k = some t) => hA ▸ frA_done (by kernel_rfl) (vals := vals) hk ht)
        clear hA
        injection hi with hi
        subst hi
        simp [Region.binds] at hdep
        have d16 := hD.out 1 16 (by simp [hdep]) rfl
        rw [show vals 1 = _ from (hV 1 (by simp [hdep])).of rfl] at d16
        have d36 := hD.out 21 36 (by simp [hdep]) rfl
        rw [hb] at d36
        exact stepI_app_k skt_atlas rfl _ _ rfl d16 hown _ _ _ d36 hrow (fun h => by cases h) (by have := HLK.out; simp only [List.length_cons, List.length_nil]; omega) hBw fun v' w'' h1 h2 h3 => ⟨h1, h2, h3⟩
      · intro opr Ls vals w' q5 c5 hi hdep hC hLa hV hv hob
        generalize hA : frA _ _ Ls vals = a'
        have hT1 : a'.tmps.getD 1 undef = .pointer (some ⟨w.heap.size, 0, none⟩) := by rw [← hA, frA_base (by kernel_rfl)]; rfl
        have hT3 : a'.tmps.getD 3 undef = .pointer (some ⟨w.heap.size + 1 + 1, 0, none⟩) := by rw [← hA, frA_base (by kernel_rfl)]; rfl
        have hT4 : a'.tmps.getD 4 undef = .int .i64 k := by rw [← hA, frA_base (by kernel_rfl)]; rfl
        have hD := Lib.hid (fun k t (hk : Ls k = true) (ht : dstOf _ k = some t) => hA ▸ frA_done (by kernel_rfl) (vals := vals) hk ht)
        clear hA
        injection hi with hi
        subst hi
        simp [Region.binds] at hdep
        have d38 := hD.out 23 38 (by simp [hdep]) rfl
        rw [show vals 23 = _ from (hV 23 (by simp [hdep])).of rfl] at d38
        have d37 := hD.out 22 37 (by simp [hdep]) rfl
        rw [hv] at d37
        have c1 : w'.cell? ⟨w.heap.size + 1 + 1, 1, none⟩ = some (.slice q (L.take k).length c) := by simp [World.cell?, hob]
        have f1 : w'.frozen? ⟨w.heap.size + 1 + 1, 1, none⟩ = false := by simp [World.frozen?, hob]
        clear hob
        exact stepI_skip rfl (w' := w'.setCell ⟨w.heap.size + 1 + 1, 1, none⟩ (.slice q5 ((L.take k) ++ ([⟨⟨ef, et⟩, en, ee⟩] : List Sd)).length c5)) (by go_simp) rfl
      · intro vals w4 hK hob hown hV
        have e0 : vals 0 = .pointer (some ⟨w.heap.size + 1 + 1, 1, none⟩) := (hV 0 (by decide)).of rfl
        have e1 : vals 1 = .slice q (L.take k).length c := (hV 1 (by decide)).of rfl
        have e2 : vals 2 = .pointer (some ⟨w.heap.size, 1, none⟩) := (hV 2 (by decide)).of rfl
        have e3 : vals 3 = .slice (some ⟨pb, po, none⟩) n ca := (hV 3 (by decide)).of rfl
        have e4 : vals 4 = .int .i64 k := (hV 4 (by decide)).of rfl
        have e5 : vals 5 = .pointer (some ⟨pb, po + k * 4, none⟩) := (hV 5 (by decide)).of rfl
        have e6 : vals 6 = .pointer (some ⟨pb, po + k * 4, none⟩) := (hV 6 (by decide)).of rfl
        have e7 : vals 7 = .agg #[.string ef, .string et] := (hV 7 (by decide)).of rfl
        have e8 : vals 8 = .pointer (some ⟨w.heap.size, 1, none⟩) := (hV 8 (by decide)).of rfl
        have e9 : vals 9 = .slice (some ⟨pb, po, none⟩) n ca := (hV 9 (by decide)).of rfl
        have e10 : vals 10 = .int .i64 k := (hV 10 (by decide)).of rfl
        have e11 : vals 11 = .pointer (some ⟨pb, po + k * 4, none⟩) := (hV 11 (by decide)).of rfl
        have e12 : vals 12 = .pointer (some ⟨pb, po + k * 4 + 2, none⟩) := (hV 12 (by decide)).of rfl
        have e13 : vals 13 = .int .i64 en := (hV 13 (by decide)).of rfl
        have e14 : vals 14 = .pointer (some ⟨w.heap.size, 1, none⟩) := (hV 14 (by decide)).of rfl
        have e15 : vals 15 = .slice (some ⟨pb, po, none⟩) n ca := (hV 15 (by decide)).of rfl
        have e16 : vals 16 = .int .i64 k := (hV 16 (by decide)).of rfl
        have e17 : vals 17 = .pointer (some ⟨pb, po + k * 4, none⟩) := (hV 17 (by decide)).of rfl
        have e18 : vals 18 = .pointer (some ⟨pb, po + k * 4 + 3, none⟩) := (hV 18 (by decide)).of rfl
        have e19 : vals 19 = .int .i64 ee := (hV 19 (by decide)).of rfl
        have e20 : vals 20 = .agg #[.string ef, .string et, .int .i64 en, .int .i64 ee] := (hV 20 (by decide)).of rfl
        have e23 : vals 23 = .pointer (some ⟨w.heap.size + 1 + 1, 1, none⟩) := (hV 23 (by decide)).of rfl
        have e_b : True := trivial
        have HQ := Lib.hid (show MdI w0 68 ep (w.heap.size + 1 + 1) L (k + 1) w4 from ⟨HI.out.kept.trans hK (fun i hi h => h.elim id fun h => by have := HNO.out _ h; omega), vals 22, hob, by rw [HTK.out]; exact hown⟩)
        simp only [putsL, Act.put, List.setIfInBounds_toArray, List.set_cons_zero, List.set_cons_succ, e0, e1, e2, e3, e4, e5, e6, e7, e8, e9, e10, e11, e12, e13, e14, e15, e16, e17, e18, e19, e20, e23]
        clear e_b e0 e1 e2 e3 e4 e5 e6 e7 e8 e9 e10 e11 e12 e13 e14 e15 e16 e17 e18 e19 e20 e23
        clear hK hob hown hV
        go_wp2_with fail
        exact ⟨⟨k + 1, by go_num, hk, HQ⟩, by simp [RowKit.intOf]; omega⟩
    · have hkz : ¬ (k : Int) < (n : Int) := by omega
      have hke : k = n := by omega
      obtain ⟨v, hv, hown⟩ := HI.out.row
      have HOW := Lib.hid hown
      have HKP := Lib.hid HI.out.kept
      have o0 : wr.cell? ⟨w.heap.size + 1 + 1, 0, none⟩ = some (.int .i64 ep) := by simp [World.cell?, hv]
      have o1 : wr.cell? ⟨w.heap.size + 1 + 1, 1, none⟩ = some v := by simp [World.cell?, hv]
      have hrb := (HKP.out.block (w.heap.size + 1) (by have := HZ.out; omega) (by show ¬ w.heap.size + 1 = _; omega)).trans HRS.out.2.2.2.2
      have r0 : wr.cell? ⟨w.heap.size + 1, 0, none⟩ = some (.int .i64 0) := by simp [World.cell?, hrb]
      have r1 : wr.cell? ⟨w.heap.size + 1, 1, none⟩ = some (.slice none 0 0) := by simp [World.cell?, hrb]
      have f0 : wr.frozen? ⟨w.heap.size + 1, 0, none⟩ = false := by simp [World.frozen?, hrb]
      have f1 : wr.frozen? ⟨w.heap.size + 1, 1, none⟩ = false := by simp [World.frozen?, hrb]
      have HKE := Lib.hid hke
      clear hv hown hrb hke HI
      obtain ⟨q, c, rfl, _⟩ := HOW.out.row
      go_wp2_with fail
      refine bodyPost_ret (v := .agg #[.int .i64 ep, .slice q (L.take k).length c]) (by simp [results, Try.results23, go_sem, r0, r1]) rfl ⟨_, rfl, ?_, ?_⟩
      · have h1 : OwnK KS wr w0.heap.size 68 (.slice q (L.take k).length c) L := by
          have e : L.take k = L := List.take_of_length_le (by rw [HN.out, HKE.out]; exact Nat.le_refl _)
          have := HOW.out
          rw [e] at this ⊢
          exact this
        have hno : ∀ g, (Value.slice q (L.take k).length c).ownBlock = some g → w0.heap.size ≤ g := fun g hg => (HOW.out.ltB g hg).1
        have hz := HZ.out
        exact ((h1.setCell (fun e => by have h : w0.heap.size ≤ w.heap.size + 1 := hno _ e; omega) _).setCell (fun e => by have h : w0.heap.size ≤ w.heap.size + 1 := hno _ e; omega) _).mono (by omega)
      · have h1 : Below w.heap.size w wr := HB0.out.trans (HKP.out.below (B := w.heap.size) (fun j h => by have : j = _ := h; omega) (by have := HZ.out; omega))
        exact (h1.setCell (by show w.heap.size ≤ w.heap.size + 1; omega) _).setCell (by show w.heap.size ≤ w.heap.size + 1; omega) _
end Go.Proofs.Ytbhojddakmgdmaa
namespace Go.Gz
open Go.RowKit

/-- the block that p points into is of the type t. -/
def TyP (w : World) (p : Option Addr) (t : TypeId) : Prop := ∀ a, p = some a → ∃ cs fz, w.heap[a.block]? = some (.cells cs t fz)
theorem TyP.none (w : World) (t : TypeId) : TyP w none t := fun a h => by cases h
theorem TyP.below {w w' : World} {p : Option Addr} {t : TypeId} (h : TyP w p t) (hb : Below w.heap.size w w') : TyP w' p t := fun a ha => by
  obtain ⟨cs, fz, e⟩ := h a ha
  exact ⟨cs, fz, by rw [hb.block _ (Array.getElem?_eq_some_iff.1 e).1]; exact e⟩
theorem TyP.kept {F : Nat → Prop} {w w' : World} {p : Option Addr} {t : TypeId} (h : TyP w p t) (hk : KeptF F w w') (hF : ∀ a, p = some a → ¬ F a.block) : TyP w' p t := fun a ha => by
  obtain ⟨cs, fz, e⟩ := h a ha
  exact ⟨cs, fz, by rw [hk.block _ (Array.getElem?_eq_some_iff.1 e).1 (hF a ha)]; exact e⟩
theorem TyP.ne {w : World} {p : Option Addr} {t t' : TypeId} (h : TyP w p t) {b : Nat} {cs : Array Value} {fz : Nat × Nat} (hb : w.heap[b]? = some (.cells cs t' fz)) (hn : t ≠ t') : ∀ a, p = some a → a.block ≠ b := fun a ha e => by
  obtain ⟨cs', fz', h1⟩ := h a ha
  rw [e, hb] at h1
  injection h1 with h1
  injection h1 with _ h1 _
  exact hn h1.symm
theorem TyP.layCells {w : World} {p : Option Addr} {t t' : TypeId} (h : TyP w p t) {b : Nat} {cs : Array Value} {fz : Nat × Nat} (hb : w.heap[b]? = some (.cells cs t' fz)) (hn : t ≠ t') (o : Nat) (vs : List Value) : TyP (layCells w b o vs) p t := fun a ha => by
  obtain ⟨cs', fz', h1⟩ := h a ha
  exact ⟨cs', fz', by rw [layCells_other b vs o w _ (h.ne hb hn a ha)]; exact h1⟩
theorem KeptF.layCells {F : Nat → Prop} {a : World} {b : Nat} (hF : F b) : ∀ (vs : List Value) (o : Nat) (w : World), KeptF F a w → KeptF F a (layCells w b o vs)
  | [], _, _, h => h
  | v :: vs, o, _, h => KeptF.layCells hF vs (o + 1) _ (h.set (p := ⟨b, o, none⟩) hF v)
theorem RowK.layCells {α : Type} [Inhabited α] {K : SK α} {w : World} {p : Option Addr} {L : List α} (h : RowK K w p L) {b : Nat} (hn : ∀ a, p = some a → a.block ≠ b) (o : Nat) (vs : List Value) : RowK K (layCells w b o vs) p L :=
  h.kept (F := fun k => k = b) (KeptF.layCells (F := fun k => k = b) rfl vs o w (KeptF.refl _ _)) hn

structure PutI (w0 : World) (vs : List VP) (si ri o : Nat) (cs : List Value) (t : TypeId) (fz : Nat × Nat) (g : Value → List Value) (L : Nat → Bool) (vals : Nat → Value) (w : World) : Prop where
  kept : KeptF (fun j => j = o) w0 w
  val : ∀ k, L k = true → k ≠ si → (VP.at vs k).f (vals k) w
  wait : L si = true → L ri = true
  obj : w.heap[o]? = some (.cells (if L si then g (vals ri) else cs).toArray t fz)

theorem wp_region_put {P : Program} {id : Nat} {a : Act} {w : World} {l : List Oper} {Q : Exit → Act → World → Prop} (hm : P.follows .mixedOrders = true) (hB : invB l.toArray a.tmps.size = true)
    (vs : List VP) (si ri : Nat) (hw : waitsB l si ri = true) (hlt : si < l.length ∧ ri < l.length ∧ ri ≠ si) (o : Nat) (cs : List Value) (t : TypeId) (fz : Nat × Nat) (g : Value → List Value) (ho : w.heap[o]? = some (.cells cs.toArray t fz))
    (hsta : ∀ k v w' cs' cs'', (VP.at vs k).f v w' → w'.heap[o]? = some (.cells cs' t fz) → (VP.at vs k).f v (layCells w' o 0 cs''))
    (hval : ∀ i opr L vals w', l[i]? = some opr → L i = false → (∀ e ∈ opr.after, Region.binds .any e = true → L e.on = true) → Closed l L → KeptF (fun j => j = o) w w' → (L si = false → w'.heap[o]? = some (.cells cs.toArray t fz)) → (∀ k, L k = true → k ≠ si → (VP.at vs k).f (vals k) w') → i ≠ si →
      StepI P l.toArray Q i opr (frA a l.toArray L vals) w' fun v w'' => (VP.at vs i).f v w'' ∧ Below w'.heap.size w' w'')
    (hstore : ∀ opr L vals w', l[si]? = some opr → L ri = true → (∀ e ∈ opr.after, Region.binds .any e = true → L e.on = true) → Closed l L → KeptF (fun j => j = o) w w' → w'.heap[o]? = some (.cells cs.toArray t fz) → (∀ k, L k = true → k ≠ si → (VP.at vs k).f (vals k) w') →
      StepI P l.toArray Q si opr (frA a l.toArray L vals) w' fun _ w'' => w'' = layCells w' o 0 (g (vals ri)) ∧ (g (vals ri)).length = cs.length)
    (hend : ∀ vals w', KeptF (fun j => j = o) w w' → (∀ k, k < l.length → k ≠ si → (VP.at vs k).f (vals k) w') → w'.heap[o]? = some (.cells (g (vals ri)).toArray t fz) → Q .normal (putsL vals l 0 a) w') : (Code.region id l.toArray true).wp P Q a w := by
  have hol : o < w.heap.size := (Array.getElem?_eq_some_iff.1 ho).1
  refine wp_region_invC hm hB (PutI w vs si ri o cs t fz g) (fun vals => ⟨(KeptF.refl _ _).drew, fun k h => (by cases h), fun h => (by cases h), ?_⟩) ?_ ?_
  · rw [if_neg (by simp)]; exact ho
  · intro i opr L vals w' hi hL hdep hC hI J hJ
    have keepV : ∀ v k, L k = true → updV vals i v k = vals k := fun v k hk => by
      unfold updV
      rw [if_neg (fun e => by subst e; rw [hL] at hk; cases hk)]
    have keepL : ∀ k, k ≠ i → updL L i k = L k := fun k hk => by unfold updL; rw [if_neg hk]
    have doneL : ∀ k, L k = true → updL L i k = true := fun k hk => by unfold updL; split <;> simp [hk]
    have selfL : updL L i i = true := by unfold updL; rw [if_pos rfl]
    have selfV : ∀ v, updV vals i v i = v := fun v => by unfold updV; rw [if_pos rfl]
    by_cases hs : i = si
    · subst hs
      have hri := waits_of hw hi hdep
      have hob := hI.obj
      rw [hL, if_neg (by simp)] at hob
      refine hstore opr L vals w' hi hri hdep hC hI.kept hob hI.val J fun v w'' ⟨hw', hlen⟩ => hJ v w'' ?_
      subst hw'
      refine ⟨KeptF.layCells (F := fun j => j = o) rfl _ _ _ hI.kept, fun k hk hn => ?_, fun _ => doneL _ hri, ?_⟩
      · rw [keepL _ hn] at hk
        rw [keepV _ _ hk]
        exact hsta k _ w' _ _ (hI.val k hk hn) hob
      · rw [selfL, if_pos rfl, keepV _ _ hri]
        exact layCells_all _ hob hlen
    · refine hval i opr L vals w' hi hL hdep hC hI.kept (fun h => by have := hI.obj; rw [h, if_neg (by simp)] at this; exact this) hI.val hs J fun v w'' ⟨hv, hb⟩ => hJ v w'' ?_
      have hok : o < w'.heap.size := Nat.lt_of_lt_of_le hol hI.kept.size
      refine ⟨hI.kept.trans (KeptF.of_below (F := fun j => j = o) hb) fun i _ h => h, fun k hk hn => ?_, fun h => ?_, ?_⟩
      · by_cases e : k = i
        · subst e; rw [selfV]; exact hv
        · rw [keepL k e] at hk
          rw [keepV _ k hk]
          exact (VP.at vs k).hf _ _ _ (hI.val k hk hn) hb
      · rw [keepL _ (Ne.symm hs)] at h
        exact doneL _ (hI.wait h)
      · rw [keepL _ (Ne.symm hs), hb.block o hok, hI.obj]
        by_cases h : L si = true
        · rw [if_pos h, if_pos h, keepV _ _ (hI.wait h)]
        · rw [if_neg h, if_neg h]
  · intro vals w' hI
    have hob := hI.obj
    rw [if_pos (by simpa using hlt.1)] at hob
    exact hend vals w' hI.kept (fun k hk hn => hI.val k (by simpa using hk) hn) hob
end Go.Gz
namespace Go.Proofs.Ytbhojddakmgdmaa
open Go.RowKit Go.Gz

/-- what a change answers: the epoch, the shards, the places that are taken away, the error. -/
structure OutA where
  ep : Int
  L : List Sd
  gone : List Int
  err : Int
def errA (e : Int) : OutA := ⟨0, [], [], e⟩
noncomputable def freshB (nodes ep : Int) (L : List Sd) : Bool := mayAB nodes ep L && decide (ep < 268435455)
def splitM (ep : Int) (L : List Sd) (k : ByteArray) (i : Nat) : List Sd := withL L [⟨⟨(L.getD i default).sp.f, k⟩, (L.getD i default).n, ep + 1⟩, ⟨⟨k, (L.getD i default).sp.t⟩, (L.getD i default).n, ep + 1⟩] i 1
def mergeM (ep : Int) (L : List Sd) (i : Nat) : List Sd := withL L [⟨⟨(L.getD i default).sp.f, (L.getD (i + 1) default).sp.t⟩, (L.getD i default).n, ep + 1⟩] i 2
def moveM (ep : Int) (L : List Sd) (i : Nat) (m : Int) : List Sd := withL L [⟨(L.getD i default).sp, m, ep + 1⟩] i 1
def placeA (L : List Sd) (k : ByteArray) : Option Nat := L.findIdx? fun x => hasB x.sp k
noncomputable def splitA (ep : Int) (L : List Sd) (k : ByteArray) : OutA :=
  if freshB 5 ep L = true then
    match placeA L k with
    | none => errA 1
    | some i => if k = (L.getD i default).sp.f then errA 1 else if 12 ≤ L.length then errA 8 else ⟨ep + 1, splitM ep L k i, [(i : Int)], 0⟩
  else errA 1
open Classical in
noncomputable def mergeA (ep : Int) (L : List Sd) (i : Int) : OutA :=
  if freshB 5 ep L = true ∧ 0 ≤ i ∧ i + 1 < L.length then ⟨ep + 1, mergeM ep L i.toNat, [i, i + 1], 0⟩ else errA 1
open Classical in
noncomputable def moveA (ep : Int) (L : List Sd) (i m nodes : Int) : OutA :=
  if freshB nodes ep L = true ∧ 0 ≤ i ∧ i < L.length ∧ 1 ≤ m ∧ m ≤ nodes ∧ m ≠ (L.getD i.toNat default).n then ⟨ep + 1, moveM ep L i.toNat m, [i], 0⟩ else errA 1
def RetO (w : World) (o : OutA) (e : Ending) (w' : World) : Prop :=
  ∃ p c q d, e = .returned (.tuple #[.agg #[.int .i64 o.ep, .slice p o.L.length c], .slice q o.gone.length d, .int .i64 o.err]) ∧ RowK KS w' p o.L ∧ Row w' .i64 q o.gone ∧ (TyP w' p 68 ∧ TyP w' q 3) ∧ Below w.heap.size w w'
def zeroS : Sd := ⟨⟨ByteArray.empty, ByteArray.empty⟩, 0, 0⟩
def ownerA (L : List Sd) (k : ByteArray) : Sd × Bool := match placeA L k with | some i => (L.getD i default, true) | none => (zeroS, false)

theorem place_some {L : List Sd} {k : ByteArray} {i : Nat} (hi : i < L.length) (h1 : hasB (L.getD i default).sp k = true) (h2 : ∀ j, j < i → hasB (L.getD j default).sp k = false) : placeA L k = some i := by
  unfold placeA
  rw [List.findIdx?_eq_some_iff_getElem]
  refine ⟨hi, ?_, fun j hj => ?_⟩
  · have := h1
    rw [List.getD, List.getElem?_eq_getElem hi] at this
    exact this
  · have := h2 j hj
    rw [List.getD, List.getElem?_eq_getElem (by omega)] at this
    simpa using this
theorem place_of {L : List Sd} {k : ByteArray} {i : Nat} (h : placeA L k = some i) : i < L.length ∧ hasB (L.getD i default).sp k = true ∧ ∀ j, j < i → hasB (L.getD j default).sp k = false := by
  unfold placeA at h
  rw [List.findIdx?_eq_some_iff_getElem] at h
  obtain ⟨hi, h1, h2⟩ := h
  refine ⟨hi, by rw [List.getD, List.getElem?_eq_getElem hi]; exact h1, fun j hj => ?_⟩
  rw [List.getD, List.getElem?_eq_getElem (by omega)]
  simpa using h2 j hj
theorem place_none {L : List Sd} {k : ByteArray} (h : placeA L k = none) : ∀ j, j < L.length → hasB (L.getD j default).sp k = false := fun j hj => by
  unfold placeA at h
  rw [List.findIdx?_eq_none_iff] at h
  rw [List.getD, List.getElem?_eq_getElem hj]
  simpa using h _ (List.getElem_mem hj)
theorem fresh_iff (nodes ep : Int) (L : List Sd) : freshB nodes ep L = true ↔ MayA nodes ep L ∧ ep < 268435455 := by
  unfold freshB
  rw [Bool.and_eq_true, mayAB_iff, decide_eq_true_eq]
/-- what a change makes, where it makes any, of an atlas that may be. -/
structure DoneA (ep : Int) (L : List Sd) (nodes : Int) (o : OutA) : Prop where
  may : MayA nodes (ep + 1) o.L
  epo : o.ep = ep + 1
  bnd : ep < 268435455
  gone : 1 ≤ o.gone.length
  new : ∀ x ∈ o.L, x ∈ L ∨ x.e = ep + 1
theorem split_done {ep : Int} {L : List Sd} {k : ByteArray} {nodes : Int} (hm : MayA nodes ep L) (h : (splitA ep L k).err = 0) : DoneA ep L nodes (splitA ep L k) := by
  unfold splitA at h ⊢
  by_cases hf : freshB 5 ep L = true
  · rw [if_pos hf] at h ⊢
    cases hp : placeA L k with
    | none => rw [hp] at h; cases h
    | some i =>
      obtain ⟨h1, h2, -⟩ := place_of hp
      rw [hp] at h
      simp only at h ⊢
      by_cases hk : k = (L.getD i default).sp.f
      · rw [if_pos hk] at h; cases h
      · rw [if_neg hk] at h ⊢
        by_cases hl : 12 ≤ L.length
        · rw [if_pos hl] at h; cases h
        · rw [if_neg hl] at h ⊢
          refine ⟨hm.split h1 (by omega) h2 hk, rfl, ((fresh_iff _ _ _).1 hf).2, by simp, fun x hx => ?_⟩
          rcases withL_mem hx with hx | hx
          · exact Or.inl hx
          · simp only [List.mem_cons, List.not_mem_nil, or_false] at hx
            rcases hx with rfl | rfl <;> exact Or.inr rfl
  · rw [if_neg hf] at h; cases h
theorem merge_done {ep : Int} {L : List Sd} {i : Int} {nodes : Int} (hm : MayA nodes ep L) (h : (mergeA ep L i).err = 0) : DoneA ep L nodes (mergeA ep L i) := by
  unfold mergeA at h ⊢
  by_cases hc : freshB 5 ep L = true ∧ 0 ≤ i ∧ i + 1 < L.length
  · rw [if_pos hc] at h ⊢
    refine ⟨hm.merge (by omega), rfl, ((fresh_iff _ _ _).1 hc.1).2, by simp, fun x hx => ?_⟩
    rcases withL_mem hx with hx | hx
    · exact Or.inl hx
    · simp only [List.mem_cons, List.not_mem_nil, or_false] at hx
      subst hx
      exact Or.inr rfl
  · rw [if_neg hc] at h; cases h
theorem move_done {ep : Int} {L : List Sd} {i m nodes : Int} (hm : MayA nodes ep L) (h : (moveA ep L i m nodes).err = 0) : DoneA ep L nodes (moveA ep L i m nodes) := by
  unfold moveA at h ⊢
  by_cases hc : freshB nodes ep L = true ∧ 0 ≤ i ∧ i < L.length ∧ 1 ≤ m ∧ m ≤ nodes ∧ m ≠ (L.getD i.toNat default).n
  · rw [if_pos hc] at h ⊢
    refine ⟨hm.move (by omega) ⟨hc.2.2.2.1, hc.2.2.2.2.1⟩, rfl, ((fresh_iff _ _ _).1 hc.1).2, by simp, fun x hx => ?_⟩
    rcases withL_mem hx with hx | hx
    · exact Or.inl hx
    · simp only [List.mem_cons, List.not_mem_nil, or_false] at hx
      subst hx
      exact Or.inr rfl
  · rw [if_neg hc] at h; cases h
end Go.Proofs.Ytbhojddakmgdmaa
