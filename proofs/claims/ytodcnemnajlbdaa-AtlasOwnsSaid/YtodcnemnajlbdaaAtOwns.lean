/-
  Layer atlas: the walk of AtlasOwns, of a program that answers as is asked.
-/
import Derived.Test.YtodcnemnajlbdaaAtAwake
namespace Go.Proofs.Ytodcnemnajlbdaa
open Go.RowKit Go.Gz

def manyZ (L : List Sd) (k : ByteArray) : Nat := L.countP fun x => hasB x.sp k
theorem many_step {L : List Sd} {k : ByteArray} {i : Nat} (hi : i < L.length) {x : Sd} (hx : L.getD i default = x) : manyZ (L.take (i + 1)) k = manyZ (L.take i) k + if hasB x.sp k = true then 1 else 0 := by
  unfold manyZ
  rw [List.take_succ_eq_append_getElem hi, List.countP_append]
  have : L[i] = x := by rw [← hx, List.getD, List.getElem?_eq_getElem hi]; rfl
  rw [this]
  simp [List.countP_cons]
theorem owner_many (L : List Sd) (k : ByteArray) : (ownerA L k).2 = decide (0 < manyZ L k) := by
  unfold ownerA manyZ
  cases hp : placeA L k with
  | none =>
    have h := place_none hp
    symm
    refine decide_eq_false fun hc => ?_
    obtain ⟨x, hx, hk⟩ := List.countP_pos_iff.1 hc
    obtain ⟨j, hj, rfl⟩ := List.getElem_of_mem hx
    have := h j hj
    rw [List.getD, List.getElem?_eq_getElem hj] at this
    rw [show (some L[j]).getD default = L[j] from rfl] at this
    rw [this] at hk; cases hk
  | some i =>
    obtain ⟨h1, h2, -⟩ := place_of hp
    symm
    exact decide_eq_true (List.countP_pos_iff.2 ⟨_, get_mem h1, h2⟩)
structure OwnsT (L : List Sd) (k : ByteArray) : Prop where
  ok : (ownerA L k).2 = true
  many : manyZ L k = 1
  has : hasB (ownerA L k).1.sp k = true
  n1 : 1 ≤ (ownerA L k).1.n
  n2 : (ownerA L k).1.n ≤ 5
theorem owns_of {L : List Sd} {k : ByteArray} {ep : Int} (h : MayA 5 ep L) : OwnsT L k := by
  obtain ⟨i, h1, h2, h3⟩ := h.owner k
  have e : ownerA L k = (L.getD i default, true) := by unfold ownerA; rw [place_some h1 h2 h3]
  have hs := h.sh _ (get_mem h1)
  exact ⟨by rw [e], h.one k, by rw [e]; exact h2, by rw [e]; exact hs.1, by rw [e]; exact hs.2.1⟩

set_option maxHeartbeats 4000000 in
set_option maxRecDepth 100000 in
theorem owns_walk (HP : ProgA) (ep : Int) (L : List Sd) (p : Option Addr) (ca : Nat) (key : ByteArray) (w : World) (hp : RowK KS w p L) (hL : L.length ≤ 9223372036854775807) (hkey : key.size ≤ 9223372036854775807) :
    Calls Try.prog 6 #[.agg #[.int .i64 ep, .slice p L.length ca], .string key] w fun e w' => e = .returned (.bool true) ∧ Below w.heap.size w w' := by
  have HH := Lib.hid HP
  obtain ⟨n, hN⟩ : ∃ n, L.length = n := ⟨_, rfl⟩
  have HN := Lib.hid hN
  have CS := Lib.hid (fun w1 h => small_any w1 ep L p ca h hL)
  have CM := Lib.hid (fun w1 h (h6 : n ≤ 60) => made_any w1 ep L p ca h (by omega))
  have CR := Lib.hid (fun w1 h => refAtlasMay_any w1 ep 5 L p ca h hL)
  rw [hN] at hL CS CM CR ⊢
  obtain ⟨w0, hw0⟩ : ∃ w0, w.alloc (.cells #[.int .i64 ep, .slice p n ca] 47) = w0 := ⟨_, rfl⟩
  have HB0 := Lib.hid (show Below w.heap.size w w0 from hw0 ▸ below_alloc _ _)
  have HBX := Lib.hid (show BoxA w0 w.heap.size ep (.slice p n ca) from hw0 ▸ BoxA.new w _ _ _)
  have HR := Lib.hid (hp.below HB0.out)
  clear HP hN hp
  have CA := Lib.hid (fun w => awake_yes HH.out w)
  go_enter Try.func6, Try.ntmps6
  go_wp2_with fail
  refine (CA.out _).mono ?_
  rintro e w1 ⟨rfl, hb1⟩
  have H1 := Lib.hid hb1
  clear hb1
  obtain ⟨_, x0, x1⟩ := HBX.out.below H1.out
  go_wp2_with fail
  refine (CS.out _ (HR.out.below H1.out)).mono ?_
  rintro e w2 ⟨b, rfl, hsm, hb2⟩
  have H2 := Lib.hid (H1.out.trans (hb2.mono H1.out.size))
  have HSM := Lib.hid hsm
  clear hb2 x0 x1 hsm
  cases b with
  | false =>
    go_wp2_with fail
    go_ret
    exact ⟨rfl, HB0.out.trans (H2.out.mono HB0.out.size)⟩
  | true =>
    have h60 : n ≤ 60 := HSM.out rfl
    by_cases hk3 : (300 : Int) < (key.size : Int)
    · go_wp2_with fail
      go_ret
      exact ⟨rfl, HB0.out.trans (H2.out.mono HB0.out.size)⟩
    · obtain ⟨_, x0, x1⟩ := HBX.out.below H2.out
      go_wp2_with fail
      refine (CM.out _ (HR.out.below H2.out) h60).mono ?_
      rintro e w3 ⟨v, rfl, hown, hb3⟩
      have H3 := Lib.hid (H2.out.trans (hb3.mono H2.out.size))
      obtain ⟨q, c, rfl, _, _, hrow, _⟩ := hown.row
      have CO := Lib.hid (HH.out.owner ep L q c key w3 hrow (by rw [HN.out]; omega))
      clear hb3 hown hrow x0 x1
      obtain ⟨s, hs⟩ : ∃ s, (ownerA L key).1 = s := ⟨_, rfl⟩
      obtain ⟨ok, hok⟩ : ∃ ok, (ownerA L key).2 = ok := ⟨_, rfl⟩
      rw [hs, hok] at CO
      have HS := Lib.hid hs
      have HOK := Lib.hid hok
      clear hs hok
      obtain ⟨⟨sf, st⟩, sn, se⟩ := s
      unfold valSd at CO
      go_wp2_with fail
      refine CO.out.mono ?_
      rintro e w4 ⟨rfl, hb4⟩
      obtain ⟨w5, hw5⟩ : ∃ w5, w4.alloc (.cells #[.string sf, .string st, .int .i64 sn, .int .i64 se] 40) = w5 := ⟨_, rfl⟩
      have H5 := Lib.hid (show Below w0.heap.size w0 w5 from H3.out.trans ((hb4.trans ((hw5 ▸ below_alloc _ _).mono hb4.size)).mono H3.out.size))
      have HS5 := Lib.hid (show w4.heap.size < w5.heap.size ∧ w5.cell? ⟨w4.heap.size, 0, none⟩ = some (.string sf) ∧ w5.cell? ⟨w4.heap.size, 1, none⟩ = some (.string st) ∧ w5.cell? ⟨w4.heap.size, 2, none⟩ = some (.int .i64 sn) by rw [← hw5]; exact ⟨by simp, by simp [go_sem], by simp [go_sem], by simp [go_sem]⟩)
      have HW5 := Lib.hid hw5
      clear hw5 hb4 CO
      go_wp2_with fail
      rw [HW5.out]
      go_loopg [7, 8] n (fun gg s7 s8 wr => ∃ k : Nat, k ≤ n ∧ n - k ≤ gg ∧ s8 = .int .i64 k ∧ s7 = .int .i64 (manyZ (L.take k) key) ∧ Hid (Below w5.heap.size w5 wr))
      case atStart => exact ⟨0, Nat.zero_le _, by omega, rfl, rfl, Lib.hid (Below.refl _ w5)⟩
      case round =>
        obtain ⟨k, hk, hg, rfl, rfl, BW⟩ := hrel
        have HB5 := Lib.hid (H5.out.trans (BW.out.mono H5.out.size))
        obtain ⟨_, x0, x1⟩ := HBX.out.below HB5.out
        have hmk : manyZ (L.take k) key ≤ k := Nat.le_trans List.countP_le_length (by rw [List.length_take]; omega)
        rcases Nat.lt_or_ge k n with hlt | hge
        · have hltz : (k : Int) < (n : Int) := by omega
          have hklt : k < L.length := by rw [HN.out]; exact hlt
          obtain ⟨x, hx⟩ : ∃ x, L.getD k default = x := ⟨_, rfl⟩
          obtain ⟨pb, po, rfl, hpb, hcell⟩ := HR.out.cells HB5.out hklt
          rw [hx] at hcell
          have HST := Lib.hid (many_step (k := key) hklt hx)
          obtain ⟨⟨xf, xt⟩, xn, xe⟩ := x
          have z0 := hcell 0 (by decide)
          have z1 := hcell 1 (by decide)
          simp only [KS, Nat.add_zero] at z0 z1
          have CH := Lib.hid (refHas_any xf xt key wr)
          obtain ⟨hb, hhb⟩ : ∃ hb, hasB ⟨xf, xt⟩ key = hb := ⟨_, rfl⟩
          rw [hhb] at CH
          rw [show (⟨⟨xf, xt⟩, xn, xe⟩ : Sd).sp = ⟨xf, xt⟩ from rfl, hhb] at HST
          clear hcell hx hhb
          obtain ⟨m, hm⟩ : ∃ m, manyZ (L.take k) key = m := ⟨_, rfl⟩
          rw [hm] at HST hmk ⊢
          clear hm
          go_wp2_with fail
          refine CH.out.mono ?_
          rintro e w6 ⟨rfl, hb6⟩
          have H6 := Lib.hid (BW.out.trans (hb6.mono BW.out.size))
          clear hb6
          cases hb
          · go_wp2_with fail
            go_roundg (n - (k + 1))
            case measure => omega
            case rel => exact ⟨k + 1, by omega, by omega, by go_num, by rw [HST.out]; rfl, H6⟩
          · go_wp2_with fail
            go_roundg (n - (k + 1))
            case measure => omega
            case rel => exact ⟨k + 1, by omega, by omega, by go_num, by rw [HST.out]; go_num, H6⟩
        · have hgez : ¬ (k : Int) < (n : Int) := by omega
          obtain rfl : k = n := by omega
          have etk : L.take k = L := List.take_of_length_le (by rw [HN.out]; exact Nat.le_refl _)
          rw [etk] at hmk ⊢
          have y0 := (BW.out.cell (p := ⟨w4.heap.size, 0, none⟩) HS5.out.1).trans HS5.out.2.1
          have y1 := (BW.out.cell (p := ⟨w4.heap.size, 1, none⟩) HS5.out.1).trans HS5.out.2.2.1
          have y2 := (BW.out.cell (p := ⟨w4.heap.size, 2, none⟩) HS5.out.1).trans HS5.out.2.2.2
          have HOM := Lib.hid ((owner_many L key).symm.trans HOK.out)
          have CRr := Lib.hid (CR.out wr (HR.out.below HB5.out))
          obtain ⟨mb, hmb⟩ : ∃ mb, mayAB 5 ep L = mb := ⟨_, rfl⟩
          rw [hmb] at CRr
          have HMB := Lib.hid hmb
          clear hmb etk
          cases mb with
          | false =>
            obtain ⟨m, hm⟩ : ∃ m, manyZ L key = m := ⟨_, rfl⟩
            rw [hm] at HOM hmk ⊢
            clear hm
            cases ok with
            | false =>
              have h0 : m = 0 := by
                have := of_decide_eq_false HOM.out
                omega
              subst h0
              go_wp2_with fail
              refine CRr.out.mono ?_
              rintro e w6 ⟨rfl, hb6⟩
              have H6 := Lib.hid (HB0.out.trans ((HB5.out.trans (hb6.mono HB5.out.size)).mono HB0.out.size))
              clear hb6
              go_wp2_with fail
              go_ret
              exact ⟨rfl, H6.out⟩
            | true =>
              have h0 := of_decide_eq_true HOM.out
              have hz : (0 : Int) < (m : Int) := by omega
              go_wp2_with fail
              refine CRr.out.mono ?_
              rintro e w6 ⟨rfl, hb6⟩
              have H6 := Lib.hid (HB0.out.trans ((HB5.out.trans (hb6.mono HB5.out.size)).mono HB0.out.size))
              clear hb6
              go_wp2_with fail
              go_ret
              exact ⟨by simp, H6.out⟩
          | true =>
            obtain ⟨t1, t2, t3, t4, t5⟩ := owns_of (k := key) ((mayAB_iff _ _ _).1 HMB.out)
            rw [HOK.out] at t1
            rw [HS.out] at t3 t4 t5
            subst t1
            rw [t2]
            simp only at t3 t4 t5
            have CH := Lib.hid (fun w => refHas_any sf st key w)
            rw [t3] at CH
            clear t2 t3 HOM
            go_wp2_with fail
            refine CRr.out.mono ?_
            rintro e w6 ⟨rfl, hb6⟩
            have H6 := Lib.hid (HB5.out.trans (hb6.mono HB5.out.size))
            have u0 := (hb6.cell (p := ⟨w4.heap.size, 0, none⟩) (Nat.lt_of_lt_of_le HS5.out.1 BW.out.size)).trans y0
            have u1 := (hb6.cell (p := ⟨w4.heap.size, 1, none⟩) (Nat.lt_of_lt_of_le HS5.out.1 BW.out.size)).trans y1
            have u2 := (hb6.cell (p := ⟨w4.heap.size, 2, none⟩) (Nat.lt_of_lt_of_le HS5.out.1 BW.out.size)).trans y2
            have hlt6 : w4.heap.size < w6.heap.size := Nat.lt_of_lt_of_le (Nat.lt_of_lt_of_le HS5.out.1 BW.out.size) hb6.size
            clear hb6 y0 y1 y2
            go_wp2_with fail
            refine (CH.out _).mono ?_
            rintro e w7 ⟨rfl, hb7⟩
            have H7 := Lib.hid (HB0.out.trans ((H6.out.trans (hb7.mono H6.out.size)).mono HB0.out.size))
            have v2 := (hb7.cell (p := ⟨w4.heap.size, 2, none⟩) hlt6).trans u2
            clear hb7 u0 u1 u2
            go_wp2_with fail
            go_ret
            exact ⟨by simp, H7.out⟩
end Go.Proofs.Ytodcnemnajlbdaa
