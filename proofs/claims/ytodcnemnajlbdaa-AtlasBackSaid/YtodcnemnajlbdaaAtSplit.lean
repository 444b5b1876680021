/-
  Layer atlas: Split.
-/
import Derived.Test.YtodcnemnajlbdaaAtPr0
namespace Go.Proofs.Ytodcnemnajlbdaa
open Go.RowKit Go.Gz

set_option maxHeartbeats 8000000 in
set_option maxRecDepth 100000 in
theorem split_any (ep : Int) (L : List Sd) (p : Option Addr) (c : Nat) (k : ByteArray) (w : World) (hp : RowK KS w p L) (hL : L.length ≤ 1000000) :
    Calls Try.prog 9 #[.agg #[.int .i64 ep, .slice p L.length c], .string k] w (RetO w (splitA ep L k)) := by
  obtain ⟨w0, hw0⟩ : ∃ w0, (w.alloc (.cells #[.int .i64 ep, .slice p L.length c] 26)).alloc (.cells #[.int .i64 0, .slice none 0 0] 26) = w0 := ⟨_, rfl⟩
  have hb0 : Below w.heap.size w w0 := hw0 ▸ ((Below.refl _ _).alloc (Nat.le_refl _) _).alloc (by simp) _
  have HB0 := Lib.hid hb0
  have HZ := Lib.hid (show w0.heap.size = w.heap.size + 2 by rw [← hw0]; simp)
  have HBX := Lib.hid (show BoxA w0 w.heap.size ep (.slice p L.length c) from hw0 ▸ (BoxA.new w _ _ _).below (below_alloc _ _))
  have HRS := Lib.hid (show w0.heap[w.heap.size + 1]? = some (.cells #[.int .i64 0, .slice none 0 0] 26 (0, 0)) by
    have := alloc_at (w.alloc (.cells #[.int .i64 ep, .slice p L.length c] 26)) (.cells #[.int .i64 0, .slice none 0 0] 26)
    rw [hw0] at this
    simpa using this)
  have HR := Lib.hid (hp.below hb0)
  have CG := Lib.hid (goesOn_any ep L p c 5 w0 HR.out hL)
  have CR := Lib.hid refuse_any
  by_cases hf : freshB 5 ep L = true
  · rw [hf] at CG
    obtain ⟨hmay, hep⟩ := (fresh_iff 5 ep L).1 hf
    obtain ⟨i, hil, hi1, hi2⟩ := hmay.owner k
    have hpl := place_some hil hi1 hi2
    have hl12 := hmay.ln.2
    have hep1 := hmay.ep1
    have CP := Lib.hid (show ∀ w1, Below w0.heap.size w0 w1 → Calls Try.prog 21 #[.agg #[.int .i64 ep, .slice p L.length c], .string k] w1 fun e w' => e = .returned (.int .i64 (i : Int)) ∧ Below w1.heap.size w1 w' from fun w1 h => by
      have := place_any ep L p c k w1 (HR.out.below h) hL
      unfold placeZ at this
      rw [hpl] at this
      exact this)
    have hsp : splitA ep L k = if k = (L.getD i default).sp.f then errA 1 else if 12 ≤ L.length then errA 8 else ⟨ep + 1, splitM ep L k i, [(i : Int)], 0⟩ := by
      unfold splitA
      rw [if_pos hf, hpl]
    obtain ⟨out, hout⟩ : ∃ out, splitA ep L k = out := ⟨_, rfl⟩
    rw [hout]
    rw [hsp] at hout
    obtain ⟨e, he⟩ : ∃ e, L.getD i default = e := ⟨_, rfl⟩
    have HCE := Lib.hid (show ∀ w1, Below w0.heap.size w0 w1 → ∃ b o, p = some ⟨b, o, none⟩ ∧ b < w0.heap.size ∧ ∀ q, q < KS.n → w1.cell? ⟨b, o + i * KS.n + q, none⟩ = (KS.cf e)[q]? from fun w1 h1 => he ▸ HR.out.cells h1 hil)
    have CX := Lib.hid (show ∀ w1 b, Below w0.heap.size w0 w1 → RowK KP w1 (some ⟨b, 0, none⟩) [⟨e.sp.f, k⟩, ⟨k, e.sp.t⟩] → Calls Try.prog 22 #[.agg #[.int .i64 ep, .slice p L.length c], .int .i64 (i : Int), .int .i64 1, .int .i64 e.n, .slice (some ⟨b, 0, none⟩) 2 2] w1 (RetO w1 ⟨ep + 1, splitM ep L k i, [(i : Int)], 0⟩) from fun w1 b h1 h2 => by
      have := change_any w1 ep L p c i 1 e.n [⟨e.sp.f, k⟩, ⟨k, e.sp.t⟩] (some ⟨b, 0, none⟩) 2 (HR.out.below h1) h2 (by omega) (by simp) (by decide) (by omega) (by omega)
      have e2 : goneI i 1 = [(i : Int)] := by simp [goneI]
      have e3 : splitM ep L k i = withL L ([⟨e.sp.f, k⟩, ⟨k, e.sp.t⟩].map (shOf e.n (ep + 1))) i 1 := by unfold splitM; rw [he]; rfl
      rw [e2, ← e3] at this
      exact this)
    rw [he] at hout
    obtain ⟨⟨ef, et⟩, en, ee⟩ := e
    simp only at CX hout
    obtain ⟨n, hN⟩ : ∃ n, L.length = n := ⟨_, rfl⟩
    rw [hN] at hw0 CG CP CX hil hL HBX hl12 hout ⊢
    have HOUT := Lib.hid hout
    have hiz : (i : Int) < (n : Int) := by omega
    have hi0 : (0 : Int) ≤ (i : Int) := by omega
    have HW0 := Lib.hid hw0
    obtain ⟨_, x0, x1⟩ := HBX.out
    clear hw0 hp hb0 hf hmay hi1 hi2 hpl hsp he hN hout
    go_enter Try.func9, Try.ntmps9
    go_wp2_with fail
    rw [HW0.out]
    refine CG.out.mono ?_
    rintro e w1 ⟨rfl, hb1⟩
    have HB1 := Lib.hid hb1
    clear x0 x1
    obtain ⟨_, x0, x1⟩ := HBX.out.below hb1
    clear hb1
    go_wp2_with fail
    refine (CP.out w1 HB1.out).mono ?_
    rintro e w2 ⟨rfl, hb2⟩
    have HB2 := Lib.hid (HB1.out.trans (hb2.mono HB1.out.size))
    clear x0 x1 hb2
    obtain ⟨_, x0, x1⟩ := HBX.out.below HB2.out
    obtain ⟨pb, po, rfl, hpb, hcell⟩ := HCE.out w2 HB2.out
    have z0 := hcell 0 (by decide)
    have z1 := hcell 1 (by decide)
    have z2 := hcell 2 (by decide)
    have z3 := hcell 3 (by decide)
    simp only [KS, Nat.add_zero] at z0 z1 z2 z3
    clear hcell HCE
    obtain ⟨w3, hw3⟩ : ∃ w3, w2.alloc (.cells #[.string ef, .string et, .int .i64 en, .int .i64 ee] 40) = w3 := ⟨_, rfl⟩
    have HB3 := Lib.hid (HB2.out.trans ((show Below w2.heap.size w2 w3 from hw3 ▸ below_alloc _ _).mono HB2.out.size))
    have HV3 := Lib.hid (show w3.heap[w2.heap.size]? = some (.cells #[.string ef, .string et, .int .i64 en, .int .i64 ee] 40 (0, 0)) from hw3 ▸ alloc_at w2 _)
    have HS3 := Lib.hid (show w3.heap.size = w2.heap.size + 1 by rw [← hw3]; simp)
    have HW3 := Lib.hid hw3
    clear hw3
    -- what is done with an answer
    have HEND := Lib.hid (show ∀ w4, Below w0.heap.size w0 w4 → w4.heap[w.heap.size + 1]? = some (.cells #[.int .i64 0, .slice none 0 0] 26 (0, 0)) ∧ Below w.heap.size w w4 from fun w4 h4 => ⟨(h4.block _ (by have := HZ.out; omega)).trans HRS.out, HB0.out.trans (h4.mono HB0.out.size)⟩)
    by_cases hk : k = ef
    · have HO1 := Lib.hid (show out = errA 1 by rw [← HOUT.out, if_pos hk])
      have hkt : k.toList = ef.toList := by rw [hk]
      have hkb : (k.toList == ef.toList) = true := by rw [hkt]; simp
      clear hk
      go_wp2_with fail
      rw [HW3.out]
      refine (CR.out 1 w3).mono ?_
      rintro e w4 ⟨p4, c4, q4, d4, rfl, h1, h2, h3, hb4⟩
      obtain ⟨hrs, hbl⟩ := HEND.out w4 (HB3.out.trans (hb4.mono HB3.out.size))
      have HQ := Lib.hid (ret_store (c := c4) (d := d4) (b1 := w.heap.size + 1) h1 h2 h3 hrs hbl (by omega) rfl rfl rfl rfl)
      have r0 : w4.cell? ⟨w.heap.size + 1, 0, none⟩ = some (.int .i64 0) := by simp [World.cell?, hrs]
      have r1 : w4.cell? ⟨w.heap.size + 1, 1, none⟩ = some (.slice none 0 0) := by simp [World.cell?, hrs]
      have f0 : w4.frozen? ⟨w.heap.size + 1, 0, none⟩ = false := by simp [World.frozen?, hrs]
      have f1 : w4.frozen? ⟨w.heap.size + 1, 1, none⟩ = false := by simp [World.frozen?, hrs]
      clear h1 h2 h3 hb4 hrs hbl x0 x1 z0 z1 z2 z3
      simp only [errA, List.length_nil] at HQ ⊢
      go_wp2_with fail
      refine bodyPost_ret (v := .tuple #[.agg #[.int .i64 0, .slice p4 0 c4], .slice q4 0 d4, .int .i64 1]) (by simp [results, Try.results9, go_sem, r0, r1]) rfl ?_
      rw [HO1.out]
      exact HQ.out
    · have HO1 := Lib.hid (show out = if 12 ≤ n then errA 8 else ⟨ep + 1, splitM ep L k i, [(i : Int)], 0⟩ by rw [← HOUT.out, if_neg hk])
      have hkt : ¬ k.toList = ef.toList := fun h => hk (data_inj (by rw [← Lib.toList_data, ← Lib.toList_data]; exact h))
      have hkb : (k.toList == ef.toList) = false := by simpa using hkt
      clear hk
      by_cases h12 : n = 12
      · have HO2 := Lib.hid (show out = errA 8 by rw [HO1.out, if_pos (by omega)])
        have hz : (n : Int) = 12 := by omega
        have hzb : ((n : Int) == 12) = true := by rw [hz]; rfl
        clear h12
        go_wp2_with fail
        rw [HW3.out]
        refine (CR.out 8 w3).mono ?_
        rintro e w4 ⟨p4, c4, q4, d4, rfl, h1, h2, h3, hb4⟩
        obtain ⟨hrs, hbl⟩ := HEND.out w4 (HB3.out.trans (hb4.mono HB3.out.size))
        have HQ := Lib.hid (ret_store (c := c4) (d := d4) (b1 := w.heap.size + 1) h1 h2 h3 hrs hbl (by omega) rfl rfl rfl rfl)
        have r0 : w4.cell? ⟨w.heap.size + 1, 0, none⟩ = some (.int .i64 0) := by simp [World.cell?, hrs]
        have r1 : w4.cell? ⟨w.heap.size + 1, 1, none⟩ = some (.slice none 0 0) := by simp [World.cell?, hrs]
        have f0 : w4.frozen? ⟨w.heap.size + 1, 0, none⟩ = false := by simp [World.frozen?, hrs]
        have f1 : w4.frozen? ⟨w.heap.size + 1, 1, none⟩ = false := by simp [World.frozen?, hrs]
        clear h1 h2 h3 hb4 hrs hbl x0 x1 z0 z1 z2 z3
        simp only [errA, List.length_nil] at HQ ⊢
        go_wp2_with fail
        refine bodyPost_ret (v := .tuple #[.agg #[.int .i64 0, .slice p4 0 c4], .slice q4 0 d4, .int .i64 8]) (by simp [results, Try.results9, go_sem, r0, r1]) rfl ?_
        rw [HO2.out]
        exact HQ.out
      · have HO2 := Lib.hid (show out = ⟨ep + 1, splitM ep L k i, [(i : Int)], 0⟩ by rw [HO1.out, if_neg (by omega)])
        have hz : ¬ (n : Int) = 12 := by omega
        have hzb : ((n : Int) == 12) = false := by simpa using hz
        have CXw := Lib.hid (CX.out (w3.alloc (.cells #[.string ef, .string k, .string k, .string et] 38)) w3.heap.size (HB3.out.alloc HB3.out.size _) (RowK.block KP (L := [⟨ef, k⟩, ⟨k, et⟩]) (alloc_at w3 (.cells #[.string ef, .string k, .string k, .string et] 38))))
        rw [HS3.out] at CXw
        rw [← HO2.out] at CXw
        clear h12
        go_wp2_with fail
        rw [HW3.out]
        refine CXw.out.mono ?_
        rintro e w4 ⟨p4, c4, q4, d4, rfl, h1, h2, h3, hb4⟩
        obtain ⟨hrs, hbl⟩ := HEND.out w4 ((HB3.out.alloc HB3.out.size (.cells #[.string ef, .string k, .string k, .string et] 38)).trans (hb4.mono (by have := HB3.out.size; simp; omega)))
        have HQ := Lib.hid (ret_store (c := c4) (d := d4) (b1 := w.heap.size + 1) h1 h2 h3 hrs hbl (by omega) rfl rfl rfl rfl)
        have r0 : w4.cell? ⟨w.heap.size + 1, 0, none⟩ = some (.int .i64 0) := by simp [World.cell?, hrs]
        have r1 : w4.cell? ⟨w.heap.size + 1, 1, none⟩ = some (.slice none 0 0) := by simp [World.cell?, hrs]
        have f0 : w4.frozen? ⟨w.heap.size + 1, 0, none⟩ = false := by simp [World.frozen?, hrs]
        have f1 : w4.frozen? ⟨w.heap.size + 1, 1, none⟩ = false := by simp [World.frozen?, hrs]
        clear h1 h2 h3 hb4 hrs hbl x0 x1 z0 z1 z2 z3
        generalize out.ep = oe at HQ ⊢
        generalize out.L.length = ol at HQ ⊢
        generalize out.gone.length = og at HQ ⊢
        generalize out.err = oer at HQ ⊢
        go_wp2_with fail
        refine bodyPost_ret (v := .tuple #[.agg #[.int .i64 oe, .slice p4 ol c4], .slice q4 og d4, .int .i64 oer]) (by simp [results, Try.results9, go_sem, r0, r1]) rfl ?_
        exact HQ.out
  · have hsp : splitA ep L k = errA 1 := by unfold splitA; rw [if_neg hf]
    have hf : freshB 5 ep L = false := by simpa using hf
    rw [hf] at CG
    rw [hsp]
    obtain ⟨out, hout⟩ : ∃ out, errA 1 = out := ⟨_, rfl⟩
    rw [hout]
    have HO1 := Lib.hid hout.symm
    obtain ⟨n, hN⟩ : ∃ n, L.length = n := ⟨_, rfl⟩
    rw [hN] at hw0 CG HBX ⊢
    have HEND := Lib.hid (show ∀ w4, Below w0.heap.size w0 w4 → w4.heap[w.heap.size + 1]? = some (.cells #[.int .i64 0, .slice none 0 0] 26 (0, 0)) ∧ Below w.heap.size w w4 from fun w4 h4 => ⟨(h4.block _ (by have := HZ.out; omega)).trans HRS.out, HB0.out.trans (h4.mono HB0.out.size)⟩)
    have HW0 := Lib.hid hw0
    obtain ⟨_, x0, x1⟩ := HBX.out
    clear hw0 hp hb0 hf hN hout hsp
    go_enter Try.func9, Try.ntmps9
    go_wp2_with fail
    rw [HW0.out]
    refine CG.out.mono ?_
    rintro e w1 ⟨rfl, hb1⟩
    have HB1 := Lib.hid hb1
    clear hb1 x0 x1
    go_wp2_with fail
    refine (CR.out 1 w1).mono ?_
    rintro e w4 ⟨p4, c4, q4, d4, rfl, h1, h2, h3, hb4⟩
    obtain ⟨hrs, hbl⟩ := HEND.out w4 (HB1.out.trans (hb4.mono HB1.out.size))
    have HQ := Lib.hid (ret_store (c := c4) (d := d4) (b1 := w.heap.size + 1) h1 h2 h3 hrs hbl (by omega) rfl rfl rfl rfl)
    have r0 : w4.cell? ⟨w.heap.size + 1, 0, none⟩ = some (.int .i64 0) := by simp [World.cell?, hrs]
    have r1 : w4.cell? ⟨w.heap.size + 1, 1, none⟩ = some (.slice none 0 0) := by simp [World.cell?, hrs]
    have f0 : w4.frozen? ⟨w.heap.size + 1, 0, none⟩ = false := by simp [World.frozen?, hrs]
    have f1 : w4.frozen? ⟨w.heap.size + 1, 1, none⟩ = false := by simp [World.frozen?, hrs]
    clear h1 h2 h3 hb4 hrs hbl
    simp only [errA, List.length_nil] at HQ ⊢
    go_wp2_with fail
    refine bodyPost_ret (v := .tuple #[.agg #[.int .i64 0, .slice p4 0 c4], .slice q4 0 d4, .int .i64 1]) (by simp [results, Try.results9, go_sem, r0, r1]) rfl ?_
    rw [HO1.out]
    exact HQ.out
end Go.Proofs.Ytodcnemnajlbdaa
