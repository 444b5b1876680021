/-
  Layer atlas: the program's functions answer as is asked.
-/
import Derived.Test.YtodcnemnajlbdaaAtChange
namespace Go.Proofs.Ytodcnemnajlbdaa
open Go.RowKit Go.Gz

theorem from_any (a b c : Int) (w : World) : Calls Try.prog 23 #[.int .i64 a, .int .i64 b, .int .i64 c] w fun e w' => e = .returned (.bool (decide (a ≤ b ∧ b ≤ c))) ∧ Below w.heap.size w w' := by
  go_enter Try.func23, Try.ntmps23
  go_wp2_with fail
  all_goals
    go_ret
    refine ⟨?_, (Below.refl _ _)⟩
    first | (simp_all; done) | (simp_all; omega)

theorem refuse_any (e : Int) (w : World) : Calls Try.prog 20 #[.int .i64 e] w (RetO w (errA e)) := by
  have HF := Lib.hid (show ∀ w', Below w.heap.size w w' → RetO w (errA e) (.returned (.tuple #[.agg #[.int .i64 0, .slice none 0 0], .slice none 0 0, .int .i64 e])) w' from fun w' h => ⟨none, 0, none, 0, rfl, Or.inl rfl, Or.inl rfl, ⟨TyP.none _ _, TyP.none _ _⟩, h⟩)
  go_enter Try.func20, Try.ntmps20
  go_wp2_with fail
  refine bodyPost_ret (v := .tuple #[.agg #[.int .i64 0, .slice none 0 0], .slice none 0 0, .int .i64 e]) (by simp [results, Try.results20, go_sem]) rfl ?_
  exact HF.out _ (below_alloc _ _)

set_option maxHeartbeats 4000000 in
theorem first_any (m : Int) (w : World) : Calls Try.prog 8 #[.int .i64 m] w fun e w' => ∃ p c, e = .returned (.agg #[.int .i64 1, .slice p 1 c]) ∧ RowK KS w' p [⟨⟨ByteArray.empty, ByteArray.empty⟩, m, 1⟩] ∧ TyP w' p 40 ∧ Below w.heap.size w w' := by
  go_enter Try.func8, Try.ntmps8
  go_wp2_with fail
  refine bodyPost_ret (v := .agg #[.int .i64 1, .slice (some ⟨w.heap.size + 1, 0, none⟩) 1 1]) (by simp [results, Try.results8, go_sem]) rfl ?_
  have hb : ∀ w1 : World, w1.heap.size = w.heap.size + 1 → (w1.alloc (.cells #[.string ⟨#[]⟩, .string ⟨#[]⟩, .int .i64 m, .int .i64 1] 40)).heap[w.heap.size + 1]? = some (.cells #[.string ⟨#[]⟩, .string ⟨#[]⟩, .int .i64 m, .int .i64 1] 40 (0, 0)) := fun w1 h => by rw [← h]; exact alloc_at _ _
  have h1 := hb (w.alloc (.cells #[.int .i64 1, .slice (some ⟨w.heap.size + 1, 0, none⟩) 1 1] 26)) (by simp)
  refine ⟨_, _, rfl, RowK.block KS (L := [⟨⟨ByteArray.empty, ByteArray.empty⟩, m, 1⟩]) h1, fun a ha => ?_, ((Below.refl _ _).alloc (Nat.le_refl _) _).alloc (by simp) _⟩
  injection ha with ha
  subst ha
  exact ⟨_, _, h1⟩

set_option maxHeartbeats 8000000 in
set_option maxRecDepth 100000 in
theorem may_any (ep : Int) (L : List Sd) (p : Option Addr) (ca : Nat) (nodes : Int) (w : World) (hp : RowK KS w p L) (hL : L.length ≤ 1000000) :
    Calls Try.prog 12 #[.agg #[.int .i64 ep, .slice p L.length ca], .int .i64 nodes] w fun e w' => e = .returned (.bool (mayAB nodes ep L)) ∧ Below w.heap.size w w' := by
  obtain ⟨n, hN⟩ : ∃ n, L.length = n := ⟨_, rfl⟩
  have HN := Lib.hid hN
  have HMY := Lib.hid (show MayA nodes ep L → (1 ≤ nodes ∧ nodes ≤ 5) ∧ (1 ≤ n ∧ n ≤ 12) ∧ 1 ≤ ep ∧ (∀ x ∈ L, okSd nodes ep x) ∧ wholeB (L.map Sd.sp) = true from fun h => ⟨h.nd, by rw [← hN]; exact h.ln, h.ep1, h.sh, h.wh⟩)
  have HMK := Lib.hid (show (1 ≤ nodes ∧ nodes ≤ 5) → (1 ≤ n ∧ n ≤ 12) → (∀ x ∈ L, okSd nodes ep x) → mayAB nodes ep L = wholeB (L.map Sd.sp) from fun h1 h2 h4 => by
    have h3 : 1 ≤ ep := by
      have h5 := h4 _ (get_mem (L := L) (i := 0) (by omega))
      have := h5.2.2.1
      have := h5.2.2.2
      omega
    cases hw : wholeB (L.map Sd.sp) with
    | true => exact (mayAB_iff _ _ _).2 ⟨h1, by rw [hN]; exact h2, h3, h4, hw⟩
    | false => exact mayAB_no fun h => by have := h.wh; rw [hw] at this; cases this)
  obtain ⟨w0, hw0⟩ : ∃ w0, w.alloc (.cells #[.int .i64 ep, .slice p n ca] 26) = w0 := ⟨_, rfl⟩
  have HB0 := Lib.hid (show Below w.heap.size w w0 from hw0 ▸ below_alloc _ _)
  have HBX := Lib.hid (show BoxA w0 w.heap.size ep (.slice p n ca) from hw0 ▸ BoxA.new w _ _ _)
  have HR := Lib.hid (hp.below HB0.out)
  have CL := Lib.hid (show ∀ w1, Below w0.heap.size w0 w1 → Calls Try.prog 25 #[.slice p L.length ca, .func (.func 26) #[] #[]] w1 (RetK KP w1 38 (L.map Sd.sp)) from fun w1 h => list_sp L p ca w1 (HR.out.below h) hL)
  rw [hN] at hL CL ⊢
  have HBad := Lib.hid (show ¬ MayA nodes ep L → ∀ w', Below w0.heap.size w0 w' → (Ending.returned (Value.bool false) = .returned (.bool (mayAB nodes ep L)) ∧ Below w.heap.size w w') from fun h w' hb => ⟨by rw [mayAB_no h], HB0.out.trans (hb.mono HB0.out.size)⟩)
  have HW0 := Lib.hid hw0
  have CF := Lib.hid from_any
  obtain ⟨_, x0, x1⟩ := HBX.out
  clear hN hp hw0
  go_enter Try.func12, Try.ntmps12
  go_wp2_with fail
  rw [HW0.out]
  refine (CF.out _ _ _ _).mono ?_
  rintro e w1 ⟨rfl, hb1⟩
  obtain ⟨_, x0, x1⟩ := HBX.out.below hb1
  have HB1 := Lib.hid hb1
  clear hb1
  by_cases hn : 1 ≤ nodes ∧ nodes ≤ 5
  · have hd : decide (1 ≤ nodes ∧ nodes ≤ 5) = true := decide_eq_true hn
    rw [hd]
    go_wp2_with fail
    refine (CF.out _ _ _ _).mono ?_
    rintro e w2 ⟨rfl, hb2⟩
    have HB2 := Lib.hid (HB1.out.trans (hb2.mono HB1.out.size))
    clear hb2 x0 x1
    obtain ⟨_, x0, x1⟩ := HBX.out.below HB2.out
    by_cases hl : (1 : Int) ≤ (n : Int) ∧ (n : Int) ≤ 12
    · have hd : decide ((1 : Int) ≤ (n : Int) ∧ (n : Int) ≤ 12) = true := decide_eq_true hl
      rw [hd]
      go_wp2_with fail
      clear x0 x1
      go_loopw [20] (fun i wr => ∃ k : Nat, i = .int .i64 k ∧ k ≤ n ∧ Hid (Below w0.heap.size w0 wr) ∧ Hid (∀ x ∈ L.take k, okSd nodes ep x)) (fun i _ => n - (RowKit.intOf i).toNat)
      case atStart => exact ⟨0, rfl, Nat.zero_le _, HB2, Lib.hid (fun x hx => by simp at hx)⟩
      case round =>
        obtain ⟨k, rfl, hkn, BW, A⟩ := hrel
        obtain ⟨hkb, x0, x1⟩ := HBX.out.below BW.out
        rcases Nat.lt_or_ge k n with hk | hk
        · have hkz : (k : Int) < (n : Int) := by omega
          have hklt : k < L.length := by rw [HN.out]; exact hk
          obtain ⟨e, he⟩ : ∃ e, L.getD k default = e := ⟨_, rfl⟩
          obtain ⟨pb, po, rfl, hpb, hcell⟩ := HR.out.cells BW.out hklt
          rw [he] at hcell
          have HMem := Lib.hid (show e ∈ L by rw [← he]; exact get_mem hklt)
          have HTK1 := Lib.hid (show L.take (k + 1) = L.take k ++ [e] by
            rw [List.take_succ_eq_append_getElem hklt, ← he]
            simp [List.getD, hklt])
          obtain ⟨⟨ef, et⟩, en, ee⟩ := e
          have z0 := hcell 0 (by decide)
          have z1 := hcell 1 (by decide)
          have z2 := hcell 2 (by decide)
          have z3 := hcell 3 (by decide)
          simp only [KS, Nat.add_zero] at z0 z1 z2 z3
          clear hcell he
          obtain ⟨w3, hw3⟩ : ∃ w3, wr.alloc (.cells #[.string ef, .string et, .int .i64 en, .int .i64 ee] 40) = w3 := ⟨_, rfl⟩
          have hb3 : Below wr.heap.size wr w3 := hw3 ▸ below_alloc _ _
          have HB3 := Lib.hid (BW.out.trans (hb3.mono BW.out.size))
          have HV3 := Lib.hid (show w3.heap[wr.heap.size]? = some (.cells #[.string ef, .string et, .int .i64 en, .int .i64 ee] 40 (0, 0)) from hw3 ▸ alloc_at wr _)
          have HBd := Lib.hid (show ¬ okSd nodes ep ⟨⟨ef, et⟩, en, ee⟩ → ∀ w', Below w3.heap.size w3 w' → (Ending.returned (Value.bool false) = .returned (.bool (mayAB nodes ep L)) ∧ Below w.heap.size w w') from fun h w' hb => HBad.out (fun hm => h ((HMY.out hm).2.2.2.1 _ HMem.out)) w' (HB3.out.trans (hb.mono HB3.out.size)))
          have HW3 := Lib.hid hw3
          clear hw3 hb3
          go_wp2_with fail
          rw [HW3.out]
          refine (CF.out _ _ _ w3).mono ?_
          rintro e w4 ⟨rfl, hb4⟩
          have HB4 := Lib.hid hb4
          have hv4 := (hb4.block wr.heap.size (Array.getElem?_eq_some_iff.1 HV3.out).1).trans HV3.out
          have y3 : w4.cell? ⟨wr.heap.size, 3, none⟩ = some (.int .i64 ee) := by simp [World.cell?, hv4]
          clear x0 x1
          obtain ⟨_, x0, x1⟩ := HBX.out.below (HB3.out.trans (hb4.mono HB3.out.size))
          clear hb4 hv4
          by_cases h1 : 1 ≤ en ∧ en ≤ nodes
          · have hd1 : decide (1 ≤ en ∧ en ≤ nodes) = true := decide_eq_true h1
            rw [hd1]
            go_wp2_with fail
            refine (CF.out _ _ _ w4).mono ?_
            rintro e w5 ⟨rfl, hb5⟩
            have HB5 := Lib.hid (HB4.out.trans (hb5.mono HB4.out.size))
            clear hb5
            by_cases h2 : 1 ≤ ee ∧ ee ≤ ep
            · have hd2 : decide (1 ≤ ee ∧ ee ≤ ep) = true := decide_eq_true h2
              have HBn := Lib.hid (HB3.out.trans (HB5.out.mono HB3.out.size))
              have HAn := Lib.hid (show ∀ x ∈ L.take (k + 1), okSd nodes ep x from fun x hx => by
                rw [HTK1.out] at hx
                rcases List.mem_append.1 hx with hx | hx
                · exact A.out x hx
                · simp only [List.mem_cons, List.not_mem_nil, or_false] at hx
                  subst hx
                  exact ⟨h1.1, h1.2, h2.1, h2.2⟩)
              rw [hd2]
              clear h1 h2 hd1 hd2 hl hn
              go_wp2_with fail
              exact ⟨⟨k + 1, by go_num, hk, HBn, HAn⟩, by simp [RowKit.intOf]; omega⟩
            · have hd2 : decide (1 ≤ ee ∧ ee ≤ ep) = false := decide_eq_false h2
              have HQ := Lib.hid (HBd.out (fun h => h2 ⟨h.2.2.1, h.2.2.2⟩) w5 HB5.out)
              rw [hd2]
              clear h1 h2 hd1 hd2 hl hn
              go_wp2_with fail
              go_ret
              exact HQ.out
          · have hd1 : decide (1 ≤ en ∧ en ≤ nodes) = false := decide_eq_false h1
            have HQ := Lib.hid (HBd.out (fun h => h1 ⟨h.1, h.2.1⟩) w4 HB4.out)
            rw [hd1]
            clear h1 hd1 hl hn
            go_wp2_with fail
            go_ret
            exact HQ.out
        · have hkz : ¬ (k : Int) < (n : Int) := by omega
          obtain rfl : k = n := by omega
          have HQ := Lib.hid (show mayAB nodes ep L = wholeB (L.map Sd.sp) from HMK.out hn ⟨by omega, by omega⟩ (fun x hx => A.out x (by rw [List.take_of_length_le (by rw [HN.out]; exact Nat.le_refl _)]; exact hx)))
          have CLw := Lib.hid (CL.out wr BW.out)
          clear hl hn hd
          go_wp2_with fail
          refine CLw.out.mono ?_
          rintro e w3 ⟨v3, rfl, hown3, hb3⟩
          obtain ⟨q3, c3, hv3, _, _, hr3, _⟩ := hown3.row
          have hlm : (L.map Sd.sp).length = k := by rw [List.length_map, HN.out]
          have CW := Lib.hid (whole_any (L.map Sd.sp) q3 c3 w3 (spans_of hr3) (by rw [hlm]; omega))
          rw [hlm] at CW hv3
          subst hv3
          have HB3 := Lib.hid (BW.out.trans (hb3.mono BW.out.size))
          clear hown3 hr3 hb3 hlm
          go_wp2_with fail
          refine CW.out.mono ?_
          rintro e w4 ⟨rfl, hb4⟩
          have H4 := Lib.hid (HB0.out.trans ((HB3.out.trans (hb4.mono HB3.out.size)).mono HB0.out.size))
          clear hb4
          go_wp2_with fail
          go_ret
          exact ⟨by rw [HQ.out]; rfl, H4.out⟩
    · have hd : decide ((1 : Int) ≤ (n : Int) ∧ (n : Int) ≤ 12) = false := decide_eq_false hl
      have HQ := Lib.hid (HBad.out (fun h => hl (by have := (HMY.out h).2.1; omega)) w2 HB2.out)
      rw [hd]
      clear hd hl hn
      go_wp2_with fail
      go_ret
      exact HQ.out
  · have hd : decide (1 ≤ nodes ∧ nodes ≤ 5) = false := decide_eq_false hn
    have HQ := Lib.hid (HBad.out (fun h => hn (HMY.out h).1) w1 HB1.out)
    rw [hd]
    clear hd hn
    go_wp2_with fail
    go_ret
    exact HQ.out

set_option maxHeartbeats 4000000 in
theorem goesOn_any (ep : Int) (L : List Sd) (p : Option Addr) (ca : Nat) (nodes : Int) (w : World) (hp : RowK KS w p L) (hL : L.length ≤ 1000000) :
    Calls Try.prog 19 #[.agg #[.int .i64 ep, .slice p L.length ca], .int .i64 nodes] w fun e w' => e = .returned (.bool (freshB nodes ep L)) ∧ Below w.heap.size w w' := by
  obtain ⟨n, hN⟩ : ∃ n, L.length = n := ⟨_, rfl⟩
  obtain ⟨w0, hw0⟩ : ∃ w0, w.alloc (.cells #[.int .i64 ep, .slice p n ca] 26) = w0 := ⟨_, rfl⟩
  have HB0 := Lib.hid (show Below w.heap.size w w0 from hw0 ▸ below_alloc _ _)
  have HBX := Lib.hid (show BoxA w0 w.heap.size ep (.slice p n ca) from hw0 ▸ BoxA.new w _ _ _)
  have CM := Lib.hid (may_any ep L p ca nodes w0 (hp.below HB0.out) hL)
  unfold freshB
  obtain ⟨b, hb⟩ : ∃ b, mayAB nodes ep L = b := ⟨_, rfl⟩
  rw [hb, hN] at CM ⊢
  have HW0 := Lib.hid hw0
  obtain ⟨_, x0, x1⟩ := HBX.out
  clear hb hp hw0 hN
  go_enter Try.func19, Try.ntmps19
  go_wp2_with fail
  rw [HW0.out]
  refine CM.out.mono ?_
  rintro e w1 ⟨rfl, hb1⟩
  have H1 := Lib.hid (HB0.out.trans (hb1.mono HB0.out.size))
  clear x0 x1
  obtain ⟨_, x0, x1⟩ := HBX.out.below hb1
  clear hb1
  cases b with
  | true =>
    go_wp2_with fail
    go_ret
    exact ⟨rfl, H1.out⟩
  | false =>
    go_wp2_with fail
    go_ret
    exact ⟨rfl, H1.out⟩

set_option maxHeartbeats 4000000 in
theorem owner_any (ep : Int) (L : List Sd) (p : Option Addr) (c : Nat) (k : ByteArray) (w : World) (hp : RowK KS w p L) (hL : L.length ≤ 1000000) :
    Calls Try.prog 13 #[.agg #[.int .i64 ep, .slice p L.length c], .string k] w fun e w' => e = .returned (.tuple #[valSd (ownerA L k).1, .bool (ownerA L k).2]) ∧ Below w.heap.size w w' := by
  obtain ⟨w0, hw0⟩ : ∃ w0, (w.alloc (.cells #[.int .i64 ep, .slice p L.length c] 26)).alloc (.cells #[.string ⟨#[]⟩, .string ⟨#[]⟩, .int .i64 0, .int .i64 0] 40) = w0 := ⟨_, rfl⟩
  have HB0 := Lib.hid (show Below w.heap.size w w0 from hw0 ▸ ((Below.refl _ _).alloc (Nat.le_refl _) _).alloc (by simp) _)
  have HBX := Lib.hid (show BoxA w0 w.heap.size ep (.slice p L.length c) from hw0 ▸ (BoxA.new w _ _ _).below (below_alloc _ _))
  have HRS := Lib.hid (show w0.heap[w.heap.size + 1]? = some (.cells #[.string ⟨#[]⟩, .string ⟨#[]⟩, .int .i64 0, .int .i64 0] 40 (0, 0)) by
    have := alloc_at (w.alloc (.cells #[.int .i64 ep, .slice p L.length c] 26)) (.cells #[.string ⟨#[]⟩, .string ⟨#[]⟩, .int .i64 0, .int .i64 0] 40)
    rw [hw0] at this
    simpa using this)
  have CP := Lib.hid (place_any ep L p c k w0 (hp.below HB0.out) hL)
  have HR := Lib.hid (hp.below HB0.out)
  unfold ownerA
  unfold placeZ at CP
  cases hpl : placeA L k with
  | none =>
    rw [hpl] at CP
    simp only [valSd, zeroS] at CP ⊢
    clear hpl
    generalize L.length = n at hw0 CP ⊢
    have HW0 := Lib.hid hw0
    obtain ⟨_, x0, x1⟩ := HBX.out
    clear hw0 hp hL
    go_enter Try.func13, Try.ntmps13
    go_wp2_with fail
    rw [HW0.out]
    refine CP.out.mono ?_
    rintro e w1 ⟨rfl, hb1⟩
    have hrs := (hb1.block (w.heap.size + 1) (Array.getElem?_eq_some_iff.1 HRS.out).1).trans HRS.out
    have r0 : w1.cell? ⟨w.heap.size + 1, 0, none⟩ = some (.string ⟨#[]⟩) := by simp [World.cell?, hrs]
    have r1 : w1.cell? ⟨w.heap.size + 1, 1, none⟩ = some (.string ⟨#[]⟩) := by simp [World.cell?, hrs]
    have r2 : w1.cell? ⟨w.heap.size + 1, 2, none⟩ = some (.int .i64 0) := by simp [World.cell?, hrs]
    have r3 : w1.cell? ⟨w.heap.size + 1, 3, none⟩ = some (.int .i64 0) := by simp [World.cell?, hrs]
    have f0 : w1.frozen? ⟨w.heap.size + 1, 0, none⟩ = false := by simp [World.frozen?, hrs]
    have f1 : w1.frozen? ⟨w.heap.size + 1, 1, none⟩ = false := by simp [World.frozen?, hrs]
    have f2 : w1.frozen? ⟨w.heap.size + 1, 2, none⟩ = false := by simp [World.frozen?, hrs]
    have f3 : w1.frozen? ⟨w.heap.size + 1, 3, none⟩ = false := by simp [World.frozen?, hrs]
    have HB1 := Lib.hid (HB0.out.trans (hb1.mono HB0.out.size))
    clear x0 x1
    obtain ⟨_, x0, x1⟩ := HBX.out.below hb1
    clear hrs
    clear hb1
    go_wp2_with fail
    refine bodyPost_ret (v := .tuple #[.agg #[.string ⟨#[]⟩, .string ⟨#[]⟩, .int .i64 0, .int .i64 0], .bool false]) (by simp [results, Try.results13, go_sem, r0, r1, r2, r3]) rfl ?_
    exact ⟨rfl, (((HB1.out.setCell (p := ⟨w.heap.size + 1, 0, none⟩) (by show _ ≤ w.heap.size + 1; omega) _).setCell (p := ⟨w.heap.size + 1, 1, none⟩) (by show _ ≤ w.heap.size + 1; omega) _).setCell (p := ⟨w.heap.size + 1, 2, none⟩) (by show _ ≤ w.heap.size + 1; omega) _).setCell (p := ⟨w.heap.size + 1, 3, none⟩) (by show _ ≤ w.heap.size + 1; omega) _⟩
  | some i =>
    rw [hpl] at CP
    obtain ⟨hil, -, -⟩ := place_of hpl
    simp only [valSd] at CP ⊢
    obtain ⟨e, he⟩ : ∃ e, L.getD i default = e := ⟨_, rfl⟩
    have HCE := Lib.hid (show ∀ w1, Below w0.heap.size w0 w1 → ∃ b o, p = some ⟨b, o, none⟩ ∧ b < w0.heap.size ∧ ∀ q, q < KS.n → w1.cell? ⟨b, o + i * KS.n + q, none⟩ = (KS.cf e)[q]? from fun w1 h1 => he ▸ HR.out.cells h1 hil)
    rw [he]
    obtain ⟨⟨ef, et⟩, en, ee⟩ := e
    clear hpl he
    generalize L.length = n at hw0 CP hil hL HBX ⊢
    have hiz : (i : Int) < (n : Int) := by omega
    have hi0 : (0 : Int) ≤ (i : Int) := by omega
    have HW0 := Lib.hid hw0
    obtain ⟨_, x0, x1⟩ := HBX.out
    clear hw0 hp
    go_enter Try.func13, Try.ntmps13
    go_wp2_with fail
    rw [HW0.out]
    refine CP.out.mono ?_
    rintro e w1 ⟨rfl, hb1⟩
    obtain ⟨pb, po, rfl, hpb, hcell⟩ := HCE.out w1 hb1
    have z0 := hcell 0 (by decide)
    have z1 := hcell 1 (by decide)
    have z2 := hcell 2 (by decide)
    have z3 := hcell 3 (by decide)
    simp only [KS, Nat.add_zero] at z0 z1 z2 z3
    clear hcell
    have hrs := (hb1.block (w.heap.size + 1) (Array.getElem?_eq_some_iff.1 HRS.out).1).trans HRS.out
    have r0 : w1.cell? ⟨w.heap.size + 1, 0, none⟩ = some (.string ⟨#[]⟩) := by simp [World.cell?, hrs]
    have r1 : w1.cell? ⟨w.heap.size + 1, 1, none⟩ = some (.string ⟨#[]⟩) := by simp [World.cell?, hrs]
    have r2 : w1.cell? ⟨w.heap.size + 1, 2, none⟩ = some (.int .i64 0) := by simp [World.cell?, hrs]
    have r3 : w1.cell? ⟨w.heap.size + 1, 3, none⟩ = some (.int .i64 0) := by simp [World.cell?, hrs]
    have f0 : w1.frozen? ⟨w.heap.size + 1, 0, none⟩ = false := by simp [World.frozen?, hrs]
    have f1 : w1.frozen? ⟨w.heap.size + 1, 1, none⟩ = false := by simp [World.frozen?, hrs]
    have f2 : w1.frozen? ⟨w.heap.size + 1, 2, none⟩ = false := by simp [World.frozen?, hrs]
    have f3 : w1.frozen? ⟨w.heap.size + 1, 3, none⟩ = false := by simp [World.frozen?, hrs]
    have HB1 := Lib.hid (HB0.out.trans (hb1.mono HB0.out.size))
    clear x0 x1
    obtain ⟨_, x0, x1⟩ := HBX.out.below hb1
    clear hrs
    clear hb1
    go_wp2_with fail
    refine bodyPost_ret (v := .tuple #[.agg #[.string ef, .string et, .int .i64 en, .int .i64 ee], .bool true]) (by simp [results, Try.results13, go_sem, r0, r1, r2, r3]) rfl ?_
    exact ⟨rfl, (((HB1.out.setCell (p := ⟨w.heap.size + 1, 0, none⟩) (by show _ ≤ w.heap.size + 1; omega) _).setCell (p := ⟨w.heap.size + 1, 1, none⟩) (by show _ ≤ w.heap.size + 1; omega) _).setCell (p := ⟨w.heap.size + 1, 2, none⟩) (by show _ ≤ w.heap.size + 1; omega) _).setCell (p := ⟨w.heap.size + 1, 3, none⟩) (by show _ ≤ w.heap.size + 1; omega) _⟩

theorem row_kept {F : Nat → Prop} {w w' : World} {k : IntKind} {p : Option Addr} {xs : List Int} (h : Row w k p xs) (hk : KeptF F w w') (hF : ∀ a, p = some a → ¬ F a.block) : Row w' k p xs := by
  rcases h with h | ⟨b, off, hp, hlt, hc⟩
  · exact Or.inl h
  · exact Or.inr ⟨b, off, hp, Nat.lt_of_lt_of_le hlt hk.size, fun j hj => by rw [World.cell?_of_block (w := w) (a := ⟨b, off + j, none⟩) (hk.block b hlt (hF _ hp))]; exact hc j hj⟩
/-- an answer that is stored in the result's block is answered. -/
theorem ret_store {w w1 : World} {b1 : Nat} {out : OutA} {p q : Option Addr} {n c m d : Nat} {ep err : Int} (h1 : RowK KS w1 p out.L) (h2 : Row w1 .i64 q out.gone) (h3 : TyP w1 p 40 ∧ TyP w1 q 3) {cs : Array Value} {fz : Nat × Nat} (hb : w1.heap[b1]? = some (.cells cs 26 fz)) (hbel : Below w.heap.size w w1) (hb1 : w.heap.size ≤ b1) (hn : n = out.L.length) (hm : m = out.gone.length) (he : ep = out.ep) (her : err = out.err) :
    RetO w out (.returned (.tuple #[.agg #[.int .i64 ep, .slice p n c], .slice q m d, .int .i64 err])) ((w1.setCell ⟨b1, 0, none⟩ (.int .i64 ep)).setCell ⟨b1, 1, none⟩ (.slice p n c)) := by
  subst hn hm he her
  have hk : KeptF (fun b => b = b1) w1 ((w1.setCell ⟨b1, 0, none⟩ (.int .i64 out.ep)).setCell ⟨b1, 1, none⟩ (.slice p out.L.length c)) := ((KeptF.refl (fun b => b = b1) w1).set (p := ⟨b1, 0, none⟩) rfl _).set (p := ⟨b1, 1, none⟩) rfl _
  have np := h3.1.ne hb (by decide)
  have nq := h3.2.ne hb (by decide)
  exact ⟨p, c, q, d, rfl, h1.kept hk np, row_kept h2 hk nq, ⟨h3.1.kept hk np, h3.2.kept hk nq⟩, (hbel.setCell (p := ⟨b1, 0, none⟩) hb1 _).setCell (p := ⟨b1, 1, none⟩) hb1 _⟩
end Go.Proofs.Ytodcnemnajlbdaa
