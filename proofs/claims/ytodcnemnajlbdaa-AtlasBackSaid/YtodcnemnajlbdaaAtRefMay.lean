/-
  Layer atlas: the reference's AtlasMay.
-/
import Derived.Test.YtodcnemnajlbdaaAtWhole
namespace Go.Proofs.Ytodcnemnajlbdaa
open Go.RowKit Go.Gz

open Classical in
noncomputable def mayAB (nodes ep : Int) (L : List Sd) : Bool := decide (MayA nodes ep L)
theorem mayAB_iff (nodes ep : Int) (L : List Sd) : mayAB nodes ep L = true ↔ MayA nodes ep L := by unfold mayAB; simp
def okSd (nodes ep : Int) (x : Sd) : Prop := 1 ≤ x.n ∧ x.n ≤ nodes ∧ 1 ≤ x.e ∧ x.e ≤ ep
theorem mayAB_no {nodes ep : Int} {L : List Sd} (h : ¬ MayA nodes ep L) : mayAB nodes ep L = false := by
  cases hb : mayAB nodes ep L with
  | false => rfl
  | true => exact absurd ((mayAB_iff _ _ _).1 hb) h

set_option maxHeartbeats 8000000 in
set_option maxRecDepth 100000 in
theorem refAtlasMay_any (w : World) (ep nodes : Int) (L : List Sd) (p : Option Addr) (ca : Nat) (hp : RowK KS w p L) (hL : L.length ≤ 9223372036854775807) :
    Calls Try.prog 16 #[.agg #[.int .i64 ep, .slice p L.length ca], .int .i64 nodes] w fun e w' => e = .returned (.bool (mayAB nodes ep L)) ∧ Below w.heap.size w w' := by
  obtain ⟨n, hN⟩ : ∃ n, L.length = n := ⟨_, rfl⟩
  have HN := Lib.hid hN
  have HMY := Lib.hid (show MayA nodes ep L → (1 ≤ nodes ∧ nodes ≤ 5) ∧ (1 ≤ n ∧ n ≤ 12) ∧ 1 ≤ ep ∧ (∀ x ∈ L, okSd nodes ep x) ∧ wholeB (L.map Sd.sp) = true from fun h => ⟨h.nd, by rw [← hN]; exact h.ln, h.ep1, h.sh, h.wh⟩)
  have HMK := Lib.hid (show (1 ≤ nodes ∧ nodes ≤ 5) → (1 ≤ n ∧ n ≤ 12) → 1 ≤ ep → (∀ x ∈ L, okSd nodes ep x) → mayAB nodes ep L = wholeB (L.map Sd.sp) from fun h1 h2 h3 h4 => by
    cases hw : wholeB (L.map Sd.sp) with
    | true => exact (mayAB_iff _ _ _).2 ⟨h1, by rw [hN]; exact h2, h3, h4, hw⟩
    | false => exact mayAB_no fun h => by have := h.wh; rw [hw] at this; cases this)
  rw [hN] at hL ⊢
  obtain ⟨w0, hw0⟩ : ∃ w0, w.alloc (.cells #[.int .i64 ep, .slice p n ca] 47) = w0 := ⟨_, rfl⟩
  have HB0 := Lib.hid (show Below w.heap.size w w0 from hw0 ▸ below_alloc _ _)
  have HBX := Lib.hid (show BoxA w0 w.heap.size ep (.slice p n ca) from hw0 ▸ BoxA.new w _ _ _)
  have HR := Lib.hid (hp.below HB0.out)
  have HBad := Lib.hid (show ¬ MayA nodes ep L → ∀ w', Below w0.heap.size w0 w' → (Ending.returned (Value.bool false) = .returned (.bool (mayAB nodes ep L)) ∧ Below w.heap.size w w') from fun h w' hb => ⟨by rw [mayAB_no h], HB0.out.trans (hb.mono HB0.out.size)⟩)
  obtain ⟨_, x0, x1⟩ := HBX.out
  clear hN hp
  go_enter Try.func16, Try.ntmps16
  by_cases hn1 : nodes < 1
  · have HQ := Lib.hid (HBad.out (fun h => by have := (HMY.out h).1; omega) w0 (Below.refl _ _))
    go_wp2_with fail
    go_ret
    exact HQ.out
  by_cases hn2 : 5 < nodes
  · have HQ := Lib.hid (HBad.out (fun h => by have := (HMY.out h).1; omega) w0 (Below.refl _ _))
    go_wp2_with fail
    go_ret
    exact HQ.out
  by_cases hl1 : (n : Int) < 1
  · have HQ := Lib.hid (HBad.out (fun h => by have := (HMY.out h).2.1; omega) w0 (Below.refl _ _))
    go_wp2_with fail
    go_ret
    exact HQ.out
  by_cases hl2 : (12 : Int) < (n : Int)
  · have HQ := Lib.hid (HBad.out (fun h => by have := (HMY.out h).2.1; omega) w0 (Below.refl _ _))
    go_wp2_with fail
    go_ret
    exact HQ.out
  by_cases he1 : ep < 1
  · have HQ := Lib.hid (HBad.out (fun h => by have := (HMY.out h).2.2.1; omega) w0 (Below.refl _ _))
    go_wp2_with fail
    go_ret
    exact HQ.out
  go_wp2_with fail
  clear x0 x1
  go_loopw [5, 6] (fun v i wr => ∃ k : Nat, i = .int .i64 k ∧ k ≤ n ∧ Hid (OwnK KP wr w0.heap.size 38 v ((L.take k).map Sd.sp)) ∧ Hid (Below w0.heap.size w0 wr) ∧ Hid (∀ x ∈ L.take k, okSd nodes ep x)) (fun _ i _ => n - (RowKit.intOf i).toNat)
  case atStart => exact ⟨0, rfl, Nat.zero_le _, Lib.hid (OwnK.nil KP _ _ _), Lib.hid (Below.refl _ _), Lib.hid (fun x hx => by simp at hx)⟩
  case round =>
    obtain ⟨k, rfl, hkn, HOW, BW, A⟩ := hrel
    obtain ⟨hkb, x0, x1⟩ := HBX.out.below BW.out
    rcases Nat.lt_or_ge k n with hk | hk
    · have hkz : (k : Int) < (n : Int) := by omega
      have hklt : k < L.length := by rw [HN.out]; exact hk
      obtain ⟨e, he⟩ : ∃ e, L.getD k default = e := ⟨_, rfl⟩
      obtain ⟨pb, po, rfl, hpb, hcell⟩ := HR.out.cells BW.out hklt
      rw [he] at hcell
      have HMem := Lib.hid (show e ∈ L by rw [← he]; exact get_mem hklt)
      have HTK1 := Lib.hid (show L.take (k + 1) = L.take k ++ [e] by
        rw [List.take_succ_eq_append_getElem hklt, ← he]
        simp [List.getD, hklt])
      have HLK := Lib.hid (show ((L.take k).map Sd.sp).length = k by rw [List.length_map, List.length_take]; omega)
      obtain ⟨⟨ef, et⟩, en, ee⟩ := e
      have z0 := hcell 0 (by decide)
      have z1 := hcell 1 (by decide)
      have z2 := hcell 2 (by decide)
      have z3 := hcell 3 (by decide)
      simp only [KS, Nat.add_zero] at z0 z1 z2 z3
      clear hcell he
      obtain ⟨q, c, hvq, _⟩ := HOW.out.row
      obtain ⟨w1, hw1⟩ : ∃ w1, wr.alloc (.cells #[.string ef, .string et, .int .i64 en, .int .i64 ee] 53) = w1 := ⟨_, rfl⟩
      have HB1 := Lib.hid (BW.out.trans ((show Below wr.heap.size wr w1 from hw1 ▸ below_alloc _ _).mono BW.out.size))
      have HO1 := Lib.hid (show OwnK KP w1 w0.heap.size 38 _ _ from hw1 ▸ HOW.out.alloc _)
      have HS1 := Lib.hid (show w1.heap.size = wr.heap.size + 1 by rw [← hw1]; simp)
      have HON := Lib.hid (show RowK KP (w1.alloc (.cells #[.string ef, .string et] 38)) (some ⟨wr.heap.size + 1, 0, none⟩) [⟨ef, et⟩] from HS1.out ▸ RowK.block KP (L := [⟨ef, et⟩]) (alloc_at w1 (.cells #[.string ef, .string et] 38)))
      have HBd := Lib.hid (show ¬ okSd nodes ep ⟨⟨ef, et⟩, en, ee⟩ → (Ending.returned (Value.bool false) = .returned (.bool (mayAB nodes ep L)) ∧ Below w.heap.size w w1) from fun h => HBad.out (fun hm => h ((HMY.out hm).2.2.2.1 _ HMem.out)) w1 HB1.out)
      have HW1 := Lib.hid hw1
      clear hw1
      by_cases a1 : en < 1
      · have HQ := Lib.hid (HBd.out (fun h => by have := h.1; simp only at this; omega))
        go_wp2_with fail
        rw [HW1.out]
        go_ret
        exact HQ.out
      by_cases a2 : nodes < en
      · have HQ := Lib.hid (HBd.out (fun h => by have := h.2.1; simp only at this; omega))
        go_wp2_with fail
        rw [HW1.out]
        go_ret
        exact HQ.out
      by_cases a3 : ee < 1
      · have HQ := Lib.hid (HBd.out (fun h => by have := h.2.2.1; simp only at this; omega))
        go_wp2_with fail
        rw [HW1.out]
        go_ret
        exact HQ.out
      by_cases a4 : ep < ee
      · have HQ := Lib.hid (HBd.out (fun h => by have := h.2.2.2; simp only at this; omega))
        go_wp2_with fail
        rw [HW1.out]
        go_ret
        exact HQ.out
      go_wp2_with (at_builtin; rw [HW1.out]; refine wpList_app_k skt_span rfl _ _ rfl rfl (HO1.out.alloc _) (some ⟨wr.heap.size + 1, 0, none⟩) 1 [⟨ef, et⟩] rfl HON.out (fun h => by cases h) (by have := HLK.out; simp only [List.length_cons, List.length_nil]; omega) (by have := HB1.out.size; simp; omega) ?_; intro v4 w4 hown4 hgrow4 hat4)
      have HO4 := Lib.hid (show OwnK KP w4 w0.heap.size 38 v4 ((L.take (k + 1)).map Sd.sp) by rw [HTK1.out, List.map_append]; exact hown4)
      have HB4 := Lib.hid ((HB1.out.alloc HB1.out.size _).grown hgrow4 (by have := HB1.out.size; simp; omega) (fun g hg => (HO1.out.ltB g hg).1))
      have HA4 := Lib.hid (show ∀ x ∈ L.take (k + 1), okSd nodes ep x from fun x hx => by
        rw [HTK1.out] at hx
        rcases List.mem_append.1 hx with hx | hx
        · exact A.out x hx
        · simp only [List.mem_cons, List.not_mem_nil, or_false] at hx
          subst hx
          exact ⟨by simp only; omega, by simp only; omega, by simp only; omega, by simp only; omega⟩)
      exact ⟨⟨k + 1, by go_num, hk, HO4, HB4, HA4⟩, by simp [RowKit.intOf]; omega⟩
    · have hkz : ¬ (k : Int) < (n : Int) := by omega
      obtain rfl : k = n := by omega
      obtain ⟨q, c, hvq, _, _, hrow, _⟩ := HOW.out.row
      have etk : L.take k = L := List.take_of_length_le (by rw [HN.out]; exact Nat.le_refl _)
      have hlen : ((L.take k).map Sd.sp).length = k := by rw [List.length_map, etk, HN.out]
      have CF := Lib.hid (refWhole_any ((L.take k).map Sd.sp) q c wr hrow (by rw [hlen]; omega))
      rw [hlen] at CF hvq
      rw [etk] at CF
      subst hvq
      have HQ := Lib.hid (show mayAB nodes ep L = wholeB (L.map Sd.sp) from HMK.out ⟨by omega, by omega⟩ ⟨by omega, by omega⟩ (by omega) (fun x hx => A.out x (by rw [etk]; exact hx)))
      clear hrow HOW
      go_wp2_with fail
      refine CF.out.mono ?_
      rintro e w5 ⟨rfl, hbl⟩
      have H5 := Lib.hid (HB0.out.trans ((BW.out.trans (hbl.mono BW.out.size)).mono HB0.out.size))
      clear hbl
      go_wp2_with fail
      go_ret
      exact ⟨by rw [HQ.out]; rfl, H5.out⟩
end Go.Proofs.Ytodcnemnajlbdaa
