/-
  Several texts in one: AtFind, AtList, AtPrM.
-/
import Derived.Test.YtbhojddakmgdmaaMg21
import Derived.Tactics2
import Derived.Recover
import Derived.Laws.MakeOwn
namespace Go.Proofs.Ytbhojddakmgdmaa
open Go.RowKit Go.Gz

set_option maxHeartbeats 1000000 in
theorem spanOf_any (x : Sd) (w : World) : Calls Try.prog 75 #[valSd x] w fun e w' => e = .returned (.agg #[.string x.sp.f, .string x.sp.t]) ∧ Below w.heap.size w w' := by
  obtain ⟨⟨f, t⟩, n, e⟩ := x
  unfold valSd
  simp only
  go_enter Try.func75, Try.ntmps75
  go_wp2_with fail
  refine bodyPost_ret (v := .agg #[.string f, .string t]) (by simp [results, Try.results75, go_sem]) rfl ?_
  exact ⟨rfl, ((Below.refl _ _).alloc (Nat.le_refl _) _).alloc (by simp) _⟩

theorem findL_eq (L : List Sd) (k : ByteArray) : idxL ((List.range L.length).map fun j => hasB (L.getD j default).sp k) = match placeA L k with | some i => (i : Int) | none => -1 := by
  cases h : placeA L k with
  | some i =>
    obtain ⟨h1, h2, h3⟩ := place_of h
    simp only
    refine idx_hit _ i (by simpa using h1) ?_ fun j hj => ?_
    · rw [getElem!_pos _ i (by simpa using h1), List.getElem_map, List.getElem_range]; exact h2
    · rw [getElem!_pos _ j (by simp; omega), List.getElem_map, List.getElem_range]; exact h3 j hj
  | none =>
    simp only
    refine idx_miss _ fun j hj => ?_
    rw [getElem!_pos _ j hj, List.getElem_map, List.getElem_range]
    exact place_none h j (by simpa using hj)

def placeZ (L : List Sd) (k : ByteArray) : Int := match placeA L k with | some i => (i : Int) | none => -1
end Go.Proofs.Ytbhojddakmgdmaa
namespace Go.Gz
open Go.RowKit
section
variable {P : Program} {α : Type} {K : SK α} {t T : TypeId} {z : Value} {bytes : Nat}
/-- make([]T, 0, n) of structs. -/
theorem make_k (ET : SKT P K t T z bytes) (n : Nat) (hn : n ≤ 1000000) (w : World) : ∃ w', (Instr.makeSlice T (.int .i64 0) (.int .i64 (n : Int))).run P w = .ok (.slice (some ⟨w.heap.size, 0, none⟩) 0 n) w' ∧
    OwnK K w' w.heap.size t (.slice (some ⟨w.heap.size, 0, none⟩) 0 n) [] ∧ w.grownBy w' none := by
  obtain ⟨i0, hi, hz0, hz1, hz2⟩ := info_parts ET.info
  have hb : i0.bytes * n ≤ 281474976710656 := by
    rw [hz2]
    exact Nat.le_trans (Nat.mul_le_mul ET.by_ hn) (by decide)
  exact run_make_own w w.heap.size T t i0 z K.n ET.sl hi hz0 hz1 .i64 .i64 n hb (by unfold maxLen; omega) (Nat.le_refl _)
end
end Go.Gz
namespace Go.Proofs.Ytbhojddakmgdmaa
open Go.RowKit Go.Gz

def RetK {α : Type} (K : SK α) (w : World) (t : TypeId) (L : List α) (e : Ending) (w' : World) : Prop := ∃ v, e = .returned v ∧ OwnK K w' w.heap.size t v L ∧ Below w.heap.size w w'

set_option maxHeartbeats 4000000 in
set_option maxRecDepth 100000 in
theorem list_sp (L : List Sd) (p : Option Addr) (c : Nat) (w : World) (hp : RowK KS w p L) (hL : L.length ≤ 1000000) :
    Calls Try.prog 74 #[.slice p L.length c, .func (.func 75) #[] #[]] w (RetK KP w 30 (L.map Sd.sp)) := by
  have eg : ∀ args w, (callFunc 75 args).run Try.prog w = .ok (.enter 75 args) w := fun _ _ => rfl
  obtain ⟨n, hN⟩ : ∃ n, L.length = n := ⟨_, rfl⟩
  have HN := Lib.hid hN
  rw [hN] at hL ⊢
  obtain ⟨w0, hmk, hown, hgr⟩ := make_k skt_span n hL w
  have HO0 := Lib.hid hown
  have HB0 := Lib.hid ((Below.refl w.heap.size w).grown hgr (Nat.le_refl _) (fun g hg => by cases hg))
  have HP := Lib.hid hp
  have HF := Lib.hid (show ∀ v w', OwnK KP w' w.heap.size 30 v (L.map Sd.sp) → Below w.heap.size w w' → RetK KP w 30 (L.map Sd.sp) (.returned v) w' from fun v w' h1 h2 => ⟨v, rfl, h1, h2⟩)
  clear hN hp hown hgr
  go_enter Try.func74, Try.ntmps74
  go_wp2_with fail
  go_loopw [5, 13] (fun v i wr => ∃ k : Nat, i = .int .i64 k ∧ k ≤ n ∧ Hid (OwnK KP wr w.heap.size 30 v ((L.take k).map Sd.sp)) ∧ Hid (Below w.heap.size w wr)) (fun _ i _ => n - (RowKit.intOf i).toNat)
  case atStart => exact ⟨0, rfl, Nat.zero_le _, HO0, HB0⟩
  case round =>
    obtain ⟨k, rfl, hkn, HOW, BW⟩ := hrel
    rcases Nat.lt_or_ge k n with hk | hk
    · have hkz : (k : Int) < (n : Int) := by omega
      have hklt : k < L.length := by rw [HN.out]; exact hk
      obtain ⟨e, he⟩ : ∃ e, L.getD k default = e := ⟨_, rfl⟩
      obtain ⟨pb, po, rfl, hpb, hcell⟩ := HP.out.cells BW.out hklt
      rw [he] at hcell
      have HTK := Lib.hid (show (L.take (k + 1)).map Sd.sp = (L.take k).map Sd.sp ++ [e.sp] by
        rw [List.take_succ_eq_append_getElem hklt, ← he, List.map_append]
        simp [List.getD, hklt])
      have HLK := Lib.hid (show ((L.take k).map Sd.sp).length = k by rw [List.length_map, List.length_take]; omega)
      have CS := Lib.hid (fun w1 => spanOf_any e w1)
      obtain ⟨⟨ef, et⟩, en, ee⟩ := e
      have z0 := hcell 0 (by decide)
      have z1 := hcell 1 (by decide)
      have z2 := hcell 2 (by decide)
      have z3 := hcell 3 (by decide)
      simp only [KS, Nat.add_zero] at z0 z1 z2 z3
      simp only [valSd] at CS
      simp only at HTK
      clear hcell he
      obtain ⟨q, cq, hvq, _⟩ := HOW.out.row
      rw [HLK.out] at hvq
      subst hvq
      obtain ⟨w1, hw1⟩ : ∃ w1, wr.alloc (.cells #[.string ef, .string et, .int .i64 en, .int .i64 ee] 68) = w1 := ⟨_, rfl⟩
      have HB1 := Lib.hid (BW.out.trans ((show Below wr.heap.size wr w1 from hw1 ▸ below_alloc _ _).mono BW.out.size))
      have HO1 := Lib.hid (show OwnK KP w1 w.heap.size 30 _ _ from hw1 ▸ HOW.out.alloc _)
      have HW1 := Lib.hid hw1
      clear hw1
      go_wp2_with fail
      rw [HW1.out]
      refine (CS.out w1).mono ?_
      rintro e w2 ⟨rfl, hb2⟩
      have HB2 := Lib.hid (HB1.out.trans (hb2.mono HB1.out.size))
      have HO2 := Lib.hid (HO1.out.below hb2)
      have HON := Lib.hid (RowK.block KP (L := [⟨ef, et⟩]) (alloc_at w2 (.cells #[.string ef, .string et] 30)))
      clear hb2 CS
      go_wp2_with (at_builtin; refine wpList_app_k skt_span rfl _ _ rfl rfl (HO2.out.alloc _) (some ⟨w2.heap.size, 0, none⟩) 1 [⟨ef, et⟩] rfl HON.out (fun h => by cases h) (by have := HLK.out; simp only [List.length_cons, List.length_nil]; omega) (by have := HB2.out.size; simp; omega) ?_; intro v4 w4 hown4 hgrow4 hat4)
      have HO4 := Lib.hid (show OwnK KP w4 w.heap.size 30 v4 ((L.take (k + 1)).map Sd.sp) by rw [HTK.out]; exact hown4)
      have HB4 := Lib.hid ((HB2.out.alloc HB2.out.size _).grown hgrow4 (by have := HB2.out.size; simp; omega) (fun g hg => (HO2.out.ltB g hg).1))
      exact ⟨⟨k + 1, by go_num, hk, HO4, HB4⟩, by simp [RowKit.intOf]; omega⟩
    · have hkz : ¬ (k : Int) < (n : Int) := by omega
      have HTK := Lib.hid (show L.take k = L from List.take_of_length_le (by rw [HN.out]; omega))
      rw [HTK.out] at HOW
      obtain ⟨q, cq, hvq, _⟩ := HOW.out.row
      rw [List.length_map, HN.out] at hvq
      subst hvq
      go_wp2_with fail
      go_ret
      exact HF.out _ _ HOW.out BW.out

/-- a shard of a span. -/
def shOf (n ep : Int) (s : SP) : Sd := ⟨s, n, ep⟩
end Go.Proofs.Ytbhojddakmgdmaa
namespace Go.Proofs.Ytbhojddakmgdmaa
open Go.RowKit Go.Gz

theorem from_any (a b c : Int) (w : World) : Calls Try.prog 72 #[.int .i64 a, .int .i64 b, .int .i64 c] w fun e w' => e = .returned (.bool (decide (a ≤ b ∧ b ≤ c))) ∧ Below w.heap.size w w' := by
  go_enter Try.func72, Try.ntmps72
  go_wp2_with fail
  all_goals
    go_ret
    refine ⟨?_, (Below.refl _ _)⟩
    first | (simp_all; done) | (simp_all; omega)

set_option maxHeartbeats 4000000 in
theorem first_any (m : Int) (w : World) : Calls Try.prog 13 #[.int .i64 m] w fun e w' => ∃ p c, e = .returned (.agg #[.int .i64 1, .slice p 1 c]) ∧ RowK KS w' p [⟨⟨ByteArray.empty, ByteArray.empty⟩, m, 1⟩] ∧ TyP w' p 68 ∧ Below w.heap.size w w' := by
  go_enter Try.func13, Try.ntmps13
  go_wp2_with fail
  refine bodyPost_ret (v := .agg #[.int .i64 1, .slice (some ⟨w.heap.size + 1, 0, none⟩) 1 1]) (by simp [results, Try.results13, go_sem]) rfl ?_
  have hb : ∀ w1 : World, w1.heap.size = w.heap.size + 1 → (w1.alloc (.cells #[.string ⟨#[]⟩, .string ⟨#[]⟩, .int .i64 m, .int .i64 1] 68)).heap[w.heap.size + 1]? = some (.cells #[.string ⟨#[]⟩, .string ⟨#[]⟩, .int .i64 m, .int .i64 1] 68 (0, 0)) := fun w1 h => by rw [← h]; exact alloc_at _ _
  have h1 := hb (w.alloc (.cells #[.int .i64 1, .slice (some ⟨w.heap.size + 1, 0, none⟩) 1 1] 42)) (by simp)
  refine ⟨_, _, rfl, RowK.block KS (L := [⟨⟨ByteArray.empty, ByteArray.empty⟩, m, 1⟩]) h1, fun a ha => ?_, ((Below.refl _ _).alloc (Nat.le_refl _) _).alloc (by simp) _⟩
  injection ha with ha
  subst ha
  exact ⟨_, _, h1⟩

set_option maxHeartbeats 8000000 in
set_option maxRecDepth 100000 in
theorem may_any (ep : Int) (L : List Sd) (p : Option Addr) (ca : Nat) (nodes : Int) (w : World) (hp : RowK KS w p L) (hL : L.length ≤ 1000000) :
    Calls Try.prog 49 #[.agg #[.int .i64 ep, .slice p L.length ca], .int .i64 nodes] w fun e w' => e = .returned (.bool (mayAB nodes ep L)) ∧ Below w.heap.size w w' := by
  obtain ⟨n, hN⟩ : ∃ n, L.length = n := ⟨_, rfl⟩
  have HN := Lib.hid hN
  have HMY := Lib.hid (show MayA nodes ep L → (1 ≤ nodes ∧ nodes ≤ 5) ∧ (1 ≤ n ∧ n ≤ 12) ∧ 1 ≤ ep ∧ (∀ x ∈ L, okSd nodes ep x) ∧ wholeB (L.map Sd.sp) = true from fun h => ⟨h.nd, by rw [← hN]; exact h.ln, h.ep1, h.sh, h.wh⟩)
  have HMK := Lib.hid (show (1 ≤ nodes ∧ nodes ≤ 5) → (1 ≤ n ∧ n ≤ 12) → (∀ x ∈ L, okSd nodes ep x) → mayAB nodes ep L = wholeB (L.map Sd.sp) from fun h1 h2 h4 => by
    have h3 : 1 ≤ ep := by
      have h5 := h4 _ (get_mem (L := L) (i := 0) (by omega))
      have := h5.2.2.1
      have := h5.2.2.2
      omega
    cases hw : wholeB (L.map Sd.sp) with
    | true => exact (mayAB_iff _ _ _).2 ⟨h1, by rw [hN]; exact h2, h3, h4, hw⟩
    | false => exact mayAB_no fun h => by have := h.wh; rw [hw] at this; cases this)
  obtain ⟨w0, hw0⟩ : ∃ w0, w.alloc (.cells #[.int .i64 ep, .slice p n ca] 42) = w0 := ⟨_, rfl⟩
  have HB0 := Lib.hid (show Below w.heap.size w w0 from hw0 ▸ below_alloc _ _)
  have HBX := Lib.hid (show BoxA w0 w.heap.size ep (.slice p n ca) from hw0 ▸ BoxA.new w _ _ _)
  have HR := Lib.hid (hp.below HB0.out)
  have CL := Lib.hid (show ∀ w1, Below w0.heap.size w0 w1 → Calls Try.prog 74 #[.slice p L.length ca, .func (.func 75) #[] #[]] w1 (RetK KP w1 30 (L.map Sd.sp)) from fun w1 h => list_sp L p ca w1 (HR.out.below h) hL)
  rw [hN] at hL CL ⊢
  have HBad := Lib.hid (show ¬ MayA nodes ep L → ∀ w', Below w0.heap.size w0 w' → (Ending.returned (Value.bool false) = .returned (.bool (mayAB nodes ep L)) ∧ Below w.heap.size w w') from fun h w' hb => ⟨by rw [mayAB_no h], HB0.out.trans (hb.mono HB0.out.size)⟩)
  have HW0 := Lib.hid hw0
  have CF := Lib.hid from_any
  obtain ⟨_, x0, x1⟩ := HBX.out
  clear hN hp hw0
  go_enter Try.func49, Try.ntmps49
  go_wp2_with fail
  rw [HW0.out]
  refine (CF.out _ _ _ _).mono ?_
  rintro e w1 ⟨rfl, hb1⟩
  obtain ⟨_, x0, x1⟩ := HBX.out.below hb1
  have HB1 := Lib.hid hb1
  clear hb1
  by_cases hn : 1 ≤ nodes ∧ nodes ≤ 5
  · have hd : decide (1 ≤ nodes ∧ nodes ≤ 5) = true := decide_eq_true hn
    rw [hd]
    go_wp2_with fail
    refine (CF.out _ _ _ _).mono ?_
    rintro e w2 ⟨rfl, hb2⟩
    have HB2 := Lib.hid (HB1.out.trans (hb2.mono HB1.out.size))
    clear hb2 x0 x1
    obtain ⟨_, x0, x1⟩ := HBX.out.below HB2.out
    by_cases hl : (1 : Int) ≤ (n : Int) ∧ (n : Int) ≤ 12
    · have hd : decide ((1 : Int) ≤ (n : Int) ∧ (n : Int) ≤ 12) = true := decide_eq_true hl
      rw [hd]
      go_wp2_with fail
      clear x0 x1
      go_loopw [20] (fun i wr => ∃ k : Nat, i = .int .i64 k ∧ k ≤ n ∧ Hid (Below w0.heap.size w0 wr) ∧ Hid (∀ x ∈ L.take k, okSd nodes ep x)) (fun i _ => n - (RowKit.intOf i).toNat)
      case atStart => exact ⟨0, rfl, Nat.zero_le _, HB2, Lib.hid (fun x hx => by simp at hx)⟩
      case round =>
        obtain ⟨k, rfl, hkn, BW, A⟩ := hrel
        obtain ⟨hkb, x0, x1⟩ := HBX.out.below BW.out
        rcases Nat.lt_or_ge k n with hk | hk
        · have hkz : (k : Int) < (n : Int) := by omega
          have hklt : k < L.length := by rw [HN.out]; exact hk
          obtain ⟨e, he⟩ : ∃ e, L.getD k default = e := ⟨_, rfl⟩
          obtain ⟨pb, po, rfl, hpb, hcell⟩ := HR.out.cells BW.out hklt
          rw [he] at hcell
          have HMem := Lib.hid (show e ∈ L by rw [← he]; exact get_mem hklt)
          have HTK1 := Lib.hid (show L.take (k + 1) = L.take k ++ [e] by
            rw [List.take_succ_eq_append_getElem hklt, ← he]
            simp [List.getD, hklt])
          obtain ⟨⟨ef, et⟩, en, ee⟩ := e
          have z0 := hcell 0 (by decide)
          have z1 := hcell 1 (by decide)
          have z2 := hcell 2 (by decide)
          have z3 := hcell 3 (by decide)
          simp only [KS, Nat.add_zero] at z0 z1 z2 z3
          clear hcell he
          obtain ⟨w3, hw3⟩ : ∃ w3, wr.alloc (.cells #[.string ef, .string et, .int .i64 en, .int .i64 ee] 68) = w3 := ⟨_, rfl⟩
          have hb3 : Below wr.heap.size wr w3 := hw3 ▸ below_alloc _ _
          have HB3 := Lib.hid (BW.out.trans (hb3.mono BW.out.size))
          have HV3 := Lib.hid (show w3.heap[wr.heap.size]? = some (.cells #[.string ef, .string et, .int .i64 en, .int .i64 ee] 68 (0, 0)) from hw3 ▸ alloc_at wr _)
          have HBd := Lib.hid (show ¬ okSd nodes ep ⟨⟨ef, et⟩, en, ee⟩ → ∀ w', Below w3.heap.size w3 w' → (Ending.returned (Value.bool false) = .returned (.bool (mayAB nodes ep L)) ∧ Below w.heap.size w w') from fun h w' hb => HBad.out (fun hm => h ((HMY.out hm).2.2.2.1 _ HMem.out)) w' (HB3.out.trans (hb.mono HB3.out.size)))
          have HW3 := Lib.hid hw3
          clear hw3 hb3
          go_wp2_with fail
          rw [HW3.out]
          refine (CF.out _ _ _ w3).mono ?_
          rintro e w4 ⟨rfl, hb4⟩
          have HB4 := Lib.hid hb4
          have hv4 := (hb4.block wr.heap.size (Array.getElem?_eq_some_iff.1 HV3.out).1).trans HV3.out
          have y3 : w4.cell? ⟨wr.heap.size, 3, none⟩ = some (.int .i64 ee) := by simp [World.cell?, hv4]
          clear x0 x1
          obtain ⟨_, x0, x1⟩ := HBX.out.below (HB3.out.trans (hb4.mono HB3.out.size))
          clear hb4 hv4
          by_cases h1 : 1 ≤ en ∧ en ≤ nodes
          · have hd1 : decide (1 ≤ en ∧ en ≤ nodes) = true := decide_eq_true h1
            rw [hd1]
            go_wp2_with fail
            refine (CF.out _ _ _ w4).mono ?_
            rintro e w5 ⟨rfl, hb5⟩
            have HB5 := Lib.hid (HB4.out.trans (hb5.mono HB4.out.size))
            clear hb5
            by_cases h2 : 1 ≤ ee ∧ ee ≤ ep
            · have hd2 : decide (1 ≤ ee ∧ ee ≤ ep) = true := decide_eq_true h2
              have HBn := Lib.hid (HB3.out.trans (HB5.out.mono HB3.out.size))
              have HAn := Lib.hid (show ∀ x ∈ L.take (k + 1), okSd nodes ep x from fun x hx => by
                rw [HTK1.out] at hx
                rcases List.mem_append.1 hx with hx | hx
                · exact A.out x hx
                · simp only [List.mem_cons, List.not_mem_nil, or_false] at hx
                  subst hx
                  exact ⟨h1.1, h1.2, h2.1, h2.2⟩)
              rw [hd2]
              clear h1 h2 hd1 hd2 hl hn
              go_wp2_with fail
              exact ⟨⟨k + 1, by go_num, hk, HBn, HAn⟩, by simp [RowKit.intOf]; omega⟩
            · have hd2 : decide (1 ≤ ee ∧ ee ≤ ep) = false := decide_eq_false h2
              have HQ := Lib.hid (HBd.out (fun h => h2 ⟨h.2.2.1, h.2.2.2⟩) w5 HB5.out)
              rw [hd2]
              clear h1 h2 hd1 hd2 hl hn
              go_wp2_with fail
              go_ret
              exact HQ.out
          · have hd1 : decide (1 ≤ en ∧ en ≤ nodes) = false := decide_eq_false h1
            have HQ := Lib.hid (HBd.out (fun h => h1 ⟨h.1, h.2.1⟩) w4 HB4.out)
            rw [hd1]
            clear h1 hd1 hl hn
            go_wp2_with fail
            go_ret
            exact HQ.out
        · have hkz : ¬ (k : Int) < (n : Int) := by omega
          obtain rfl : k = n := by omega
          have HQ := Lib.hid (show mayAB nodes ep L = wholeB (L.map Sd.sp) from HMK.out hn ⟨by omega, by omega⟩ (fun x hx => A.out x (by rw [List.take_of_length_le (by rw [HN.out]; exact Nat.le_refl _)]; exact hx)))
          have CLw := Lib.hid (CL.out wr BW.out)
          clear hl hn hd
          go_wp2_with fail
          refine CLw.out.mono ?_
          rintro e w3 ⟨v3, rfl, hown3, hb3⟩
          obtain ⟨q3, c3, hv3, _, _, hr3, _⟩ := hown3.row
          have hlm : (L.map Sd.sp).length = k := by rw [List.length_map, HN.out]
          have CW := Lib.hid (whole_any (L.map Sd.sp) q3 c3 w3 (spans_of hr3) (by rw [hlm]; omega))
          rw [hlm] at CW hv3
          subst hv3
          have HB3 := Lib.hid (BW.out.trans (hb3.mono BW.out.size))
          clear hown3 hr3 hb3 hlm
          go_wp2_with fail
          refine CW.out.mono ?_
          rintro e w4 ⟨rfl, hb4⟩
          have H4 := Lib.hid (HB0.out.trans ((HB3.out.trans (hb4.mono HB3.out.size)).mono HB0.out.size))
          clear hb4
          go_wp2_with fail
          go_ret
          exact ⟨by rw [HQ.out]; rfl, H4.out⟩
    · have hd : decide ((1 : Int) ≤ (n : Int) ∧ (n : Int) ≤ 12) = false := decide_eq_false hl
      have HQ := Lib.hid (HBad.out (fun h => hl (by have := (HMY.out h).2.1; omega)) w2 HB2.out)
      rw [hd]
      clear hd hl hn
      go_wp2_with fail
      go_ret
      exact HQ.out
  · have hd : decide (1 ≤ nodes ∧ nodes ≤ 5) = false := decide_eq_false hn
    have HQ := Lib.hid (HBad.out (fun h => hn (HMY.out h).1) w1 HB1.out)
    rw [hd]
    clear hd hn
    go_wp2_with fail
    go_ret
    exact HQ.out
end Go.Proofs.Ytbhojddakmgdmaa
