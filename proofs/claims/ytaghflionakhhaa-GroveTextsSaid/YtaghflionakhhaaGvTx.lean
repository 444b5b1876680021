/-
  Layer grove: the law GroveTexts.
-/
import Derived.Test.YtaghflionakhhaaGvTxS
namespace Go.Proofs.Ytaghflionakhhaa
open Go.RowKit Go.Gz

theorem ownS_chg {w w' : World} {B g : Nat} {v : Value} {ss : List ByteArray} (h : OwnS w B v ss) (hc : Chg g w w') (hg : g < B) : OwnS w' B v ss := by
  obtain ⟨h1, h2⟩ := h
  refine ⟨h1, ?_⟩
  rcases h2 with h2 | ⟨q, cap, cur, e, hq, hh, r⟩
  · exact Or.inl h2
  · exact Or.inr ⟨q, cap, cur, e, hq, by rw [hc.block q (Array.getElem?_eq_some_iff.1 hh).1 (by omega)]; exact hh, r⟩
theorem strs_chg {w w' : World} {g : Nat} {p : Option Addr} {ss : List ByteArray} (h : Strs w p ss) (hc : Chg g w w') (hp : ∀ b o, p = some ⟨b, o, none⟩ → b ≠ g) : Strs w' p ss := by
  rcases h with h | ⟨b, o, e, hlt, hcell⟩
  · exact Or.inl h
  · exact Or.inr ⟨b, o, e, Nat.lt_of_lt_of_le hlt hc.size, fun j hj => by rw [hc.cell hlt (hp b o e)]; exact hcell j hj⟩
theorem own_block {w : World} {B : Nat} {p : Option Addr} {m c : Nat} {ss : List ByteArray} (h : OwnS w B (.slice p m c) ss) {g : Nat} (hg : g < B) : ∀ b o, p = some ⟨b, o, none⟩ → b ≠ g := fun b o e => by
  obtain ⟨h1, h2 | ⟨q, cap, cur, e2, hq, _⟩⟩ := h
  · obtain ⟨h2, _⟩ := h2
    injection h2 with h2 _ _
    rw [h2] at e; cases e
  · injection e2 with e2 _ _
    rw [e2] at e
    injection e with e
    injection e with e _ _
    omega

set_option maxHeartbeats 8000000 in
set_option maxRecDepth 1000000 in
theorem texts_walk (cs : List ByteArray) (p : Option Addr) (c : Nat) (fr : ByteArray) (stop : Nat) (W : World) (hs : Strs W p cs) (hn : cs.length ≤ 9223372036854775807) (hx : ∀ s ∈ cs, s.size ≤ 9223372036854775807) (hfr : fr.size ≤ 9223372036854775807) (hst : stop < 256) :
    Calls Try.prog 4 #[.slice p cs.length c, .string fr, .int .u8 (stop : Nat)] W fun e w' => e = .returned (.bool true) ∧ Below W.heap.size W w' := by
  have mx := mixedS
  have hmf : ∀ (fn : Fn) (first cap : Array Value) (w : World), (Instr.makeFunc fn first cap).run Try.prog w = .ok (.func fn first cap) w := fun _ _ _ _ => rfl
  have HS := Lib.hid hs; clear hs
  have HXS := Lib.hid hx; clear hx
  obtain ⟨n, hln⟩ : ∃ n, cs.length = n := ⟨_, rfl⟩
  have HN := Lib.hid hln
  rw [hln] at hn ⊢
  clear hln
  have hsti : (stop : Int) < 256 := by omega
  obtain ⟨w0, hw0⟩ : ∃ w0, W.alloc (.cells #[.int .u8 (stop : Nat)] 5) = w0 := ⟨_, rfl⟩
  have HB0 := Lib.hid (show Below W.heap.size W w0 from hw0 ▸ (Below.refl _ _).alloc (Nat.le_refl _) _)
  have HC0 := Lib.hid (show w0.cell? ⟨W.heap.size, 0, none⟩ = some (.int .u8 (stop : Nat)) by rw [← hw0]; simp [go_sem])
  have HZ0 := Lib.hid (show w0.heap.size = W.heap.size + 1 by rw [← hw0]; simp)
  have CA := Lib.hid (awake_true w0)
  go_enter Try.func4, Try.ntmps4
  go_wp2_with fail
  clear hw0
  refine CA.out.mono ?_
  rintro e w1 ⟨rfl, hb1⟩
  have HB1 := Lib.hid (HB0.out.trans (hb1.mono (by have := HZ0.out; omega)))
  have HC1 := Lib.hid (show w1.cell? ⟨W.heap.size, 0, none⟩ = some (.int .u8 (stop : Nat)) by rw [hb1.cell (p := ⟨W.heap.size, 0, none⟩) (by have := HZ0.out; show W.heap.size < _; omega)]; exact HC0.out)
  have HZ1 := Lib.hid (show W.heap.size + 1 ≤ w1.heap.size by have := hb1.size; have := HZ0.out; omega)
  clear hb1 CA HB0 HC0 HZ0
  by_cases h100 : 100 < n
  · have h100z : (100 : Int) < (n : Int) := by omega
    go_wp2_with fail
    go_ret
    exact ⟨rfl, HB1.out⟩
  · have h100z : decide ((100 : Int) < (n : Int)) = false := decide_eq_false (by omega)
    by_cases h300 : 300 < fr.size
    · have h300z : (300 : Int) < (fr.size : Int) := by omega
      go_wp2_with fail
      go_ret
      exact ⟨rfl, HB1.out⟩
    · have h300z : decide ((300 : Int) < (fr.size : Int)) = false := decide_eq_false (by omega)
      have CN := Lib.hid (new_anySi 18 w1)
      obtain ⟨G, hG⟩ : ∃ G, w1.heap.size = G := ⟨_, rfl⟩
      rw [hG] at CN
      have HGW := Lib.hid (show W.heap.size + 1 ≤ G by have := HZ1.out; omega)
      have HG1 := Lib.hid hG
      clear hG
      go_wp2_with fail
      refine CN.out.mono ?_
      rintro e w2 ⟨rfl, hg2, hb2, hz2⟩
      have HG2 := Lib.hid hg2
      have HZ2 := Lib.hid hz2
      have HB2 := Lib.hid (show Below W.heap.size W w2 from HB1.out.trans (hb2.mono (by have := HGW.out; omega)))
      have HC2 := Lib.hid (show w2.cell? ⟨W.heap.size, 0, none⟩ = some (.int .u8 (stop : Nat)) by rw [hb2.cell (p := ⟨W.heap.size, 0, none⟩) (by have := HGW.out; show W.heap.size < G; omega)]; exact HC1.out)
      clear hg2 hb2 hz2 CN HC1 h100z h300z hn
      go_wp2_with fail
      go_loopg [8, 9, 10, 11] n (fun gg va vi _ _ wr => ∃ (i : Nat) (ss : List ByteArray) (t : TT), i ≤ n ∧ n - i ≤ gg ∧ vi = .int .i64 i ∧ ss.length ≤ i ∧ Hid (Keys t ss) ∧ Hid (OwnS wr (G + 1) va ss) ∧ Hid (GrSi (.func (.func 18) #[] #[]) (G + 1) wr G t) ∧ Hid (Chg G w2 wr))
      case atStart => exact ⟨0, [], .nil, by omega, by omega, rfl, by simp, Lib.hid ⟨Fine.nil, rfl⟩, Lib.hid (OwnS.nil _ _), HG2, Lib.hid (Chg.of_below (Below.refl _ _))⟩
      case round =>
        obtain ⟨i, ss, t, hin, hgg, rfl, hsi, HKY, HA, HGt, HC⟩ := hrel
        obtain ⟨pa, ca, hva, hla, hpa, hra⟩ := HA.out.row
        subst hva
        obtain ⟨m, hm⟩ : ∃ m, ss.length = m := ⟨_, rfl⟩
        have HM := Lib.hid hm
        have HRA := Lib.hid hra
        have HPC := Lib.hid hpa
        rw [hm] at hla hsi HA ⊢
        clear hm hra hpa
        have HBW := Lib.hid (show Below W.heap.size W wr from HB2.out.trans (HC.out.below (by have := HGW.out; omega) (by have := HZ2.out; have := HGW.out; omega)))
        have HZr := Lib.hid (show G + 1 ≤ wr.heap.size from HGt.out.hB)
        have HPB := Lib.hid (own_block (g := G) HA.out (by omega))
        obtain ⟨wo, hwo⟩ : ∃ wo : World, wo = wr := ⟨_, rfl⟩
        by_cases hlt : i < n
        · have hltz : (i : Int) < (n : Int) := by omega
          obtain ⟨b, o, rfl, hbl, c1⟩ := str_cell HS.out HBW.out (show i < cs.length by rw [HN.out]; exact hlt)
          obtain ⟨ct, hct⟩ : ∃ ct, cs.getD i ByteArray.empty = ct := ⟨_, rfl⟩
          rw [hct] at c1
          have hcts : ct.size ≤ 9223372036854775807 := by
            rw [← hct]
            refine HXS.out _ ?_
            simp only [List.getD, List.getElem?_eq_getElem (show i < cs.length by rw [HN.out]; exact hlt), Option.getD_some]
            exact List.getElem_mem _
          clear hct
          have hbr : b < wr.heap.size := by have := HZr.out; have := HGW.out; omega
          by_cases h3 : 300 < ct.size
          · have h3z : (300 : Int) < (ct.size : Int) := by omega
            go_wp2_with fail
            go_ret
            exact ⟨rfl, HBW.out⟩
          · have h3z : decide ((300 : Int) < (ct.size : Int)) = false := decide_eq_false (by omega)
            rw [← hwo] at HA HGt HC HRA HBW HZr hbr c1 ⊢
            clear hwo
            go_wp2_with fail
            clear h3z hcts
            go_loopg [10] m (fun gg vk wr => ∃ kk : Nat, kk ≤ m ∧ m - kk ≤ gg ∧ vk = .int .i64 kk ∧ Hid (∀ j, j < kk → slt (ss.getD j ByteArray.empty) ct = true) ∧ Hid (Below wo.heap.size wo wr))
            case atStart => exact ⟨0, by omega, by omega, rfl, Lib.hid (fun j hj => by omega), Lib.hid (Below.refl _ _)⟩
            case round =>
              obtain ⟨kk, hkm, hkg, rfl, HLT, HBk⟩ := hrel
              have c1k : wr.cell? ⟨b, o + i, none⟩ = some (.string ct) := by rw [HBk.out.cell (p := ⟨b, o + i, none⟩) hbr]; exact c1
              by_cases hkl : kk < m
              · have hklz : (kk : Int) < (m : Int) := by omega
                obtain ⟨b2, o2, rfl, hb2, c2⟩ := str_cell HRA.out HBk.out (show kk < ss.length by rw [HM.out]; exact hkl)
                obtain ⟨a2, ha2⟩ : ∃ a2, ss.getD kk ByteArray.empty = a2 := ⟨_, rfl⟩
                rw [ha2] at c2
                have HA2 := Lib.hid ha2
                clear ha2
                cases hl : slt a2 ct with
                | true =>
                  have hl' : Op.bytesLess a2.toList ct.toList = true := hl
                  have HL' := Lib.hid hl
                  clear hl
                  go_wp2_with fail
                  go_quiet (fail)
                  go_wp2_with fail
                  go_roundg (m - (kk + 1))
                  case measure => omega
                  case rel => exact ⟨kk + 1, by omega, by omega, by go_num, Lib.hid (fun j hj => by
                    by_cases e : j = kk
                    · rw [e, HA2.out]; exact HL'.out
                    · exact HLT.out j (by omega)), Lib.hid (below_drewN HBk.out _)⟩
                | false =>
                  have hl' : Op.bytesLess a2.toList ct.toList = false := hl
                  have HL' := Lib.hid hl
                  clear hl
                  by_cases heq : a2.toList = ct.toList
                  · have heb2 : (a2.toList == ct.toList) = true := by simp [heq]
                    have HEQ := Lib.hid (show a2 = ct from slt_total HL'.out (by show Op.bytesLess ct.toList a2.toList = false; rw [heq]; exact slt_irrefl ct))
                    clear heq
                    go_wp2_with fail
                    go_quiet (fail)
                    go_wp2_with fail
                    go_quiet (fail)
                    have HBd := fun q1 q2 => below_drewN (below_drewN HBk.out q1) q2
                    have hcd : ∀ q1 q2, ((wr.drewN q1).drewN q2).cell? ⟨b, o + i, none⟩ = some (.string ct) := fun _ _ => c1k
                    generalize hwq : World.drewN (World.drewN wr _) _ = wd
                    have HBd := Lib.hid (show Below wo.heap.size wo wd from hwq ▸ HBd _ _)
                    have c1d : wd.cell? ⟨b, o + i, none⟩ = some (.string ct) := hwq ▸ hcd _ _
                    clear hwq hcd c1k c1 c2
                    have CP := Lib.hid (put_anySi tx_ord G (G + 1) ct (i : Int) t wd (HGt.out.below HBd.out) (by rw [HKY.out.many, HM.out]; omega) trivial (fun _ _ => trivial))
                    have HK2 := Lib.hid (HKY.out.same (i : Int) (show kk < ss.length by rw [HM.out]; exact hkl) (HA2.out.trans HEQ.out))
                    rw [show decide ((withT cS ct (i : Int) t).many = t.many) = true by rw [decide_eq_true_eq]; exact HK2.out.2] at CP
                    go_wp2_with fail
                    refine CP.out.mono ?_
                    rintro e wq ⟨rfl, hgq, hcq⟩
                    have HGq := Lib.hid hgq
                    have HCq := Lib.hid ((HC.out.trans (.of_below HBd.out)).trans hcq)
                    have HAq := Lib.hid (ownS_chg (ownS_below HA.out HBd.out) hcq (by omega))
                    clear hgq hcq CP
                    go_wp2_with fail
                    go_roundg (n - (i + 1))
                    case measure => omega
                    case rel => exact ⟨i + 1, ss, _, by omega, by omega, by go_num, by rw [HM.out]; omega, Lib.hid HK2.out.1, HAq, HGq, HCq⟩
                  · have heb2 : (a2.toList == ct.toList) = false := by simp [heq]
                    have HGT := Lib.hid (show slt ct a2 = true from by
                      cases hg : slt ct a2 with
                      | true => rfl
                      | false => exact absurd (by rw [slt_total HL'.out hg]) heq)
                    clear heq
                    go_wp2_with fail
                    go_quiet (fail)
                    go_wp2_with fail
                    go_quiet (fail)
                    have HBd := fun q1 q2 => below_drewN (below_drewN HBk.out q1) q2
                    have hcd : ∀ q1 q2, ((wr.drewN q1).drewN q2).cell? ⟨b, o + i, none⟩ = some (.string ct) := fun _ _ => c1k
                    generalize hwq : World.drewN (World.drewN wr _) _ = wd
                    have HBd := Lib.hid (show Below wo.heap.size wo wd from hwq ▸ HBd _ _)
                    have c1d : wd.cell? ⟨b, o + i, none⟩ = some (.string ct) := hwq ▸ hcd _ _
                    clear hwq hcd c1k c1 c2
                    generalize hpe : (some (⟨b2, o2, none⟩ : Addr)) = pa at *
                    have CP := Lib.hid (put_anySi tx_ord G (G + 1) ct (i : Int) t wd (HGt.out.below HBd.out) (by rw [HKY.out.many, HM.out]; omega) trivial (fun _ _ => trivial))
                    have HGd := Lib.hid (HGt.out.below HBd.out)
                    have HCd := Lib.hid (HC.out.trans (.of_below HBd.out))
                    have HRd := Lib.hid (HRA.out.below HBd.out)
                    have HC1d := Lib.hid c1d
                    have HZd := Lib.hid (show b < wd.heap.size by have := HBd.out.size; omega)
                    have HK2 := Lib.hid (HKY.out.ins (k := kk) (ct := ct) (i : Int) (by rw [HM.out]; omega) HLT.out (fun _ => by rw [HA2.out]; exact HGT.out))
                    rw [show decide ((withT cS ct (i : Int) t).many = t.many) = false by rw [decide_eq_false_iff_not, HK2.out.2]; omega] at CP
                    have HCP := Lib.hid CP.out
                    clear CP
                    go_wp2_with fail
                    refine HCP.out.mono ?_
                    rintro e wq ⟨rfl, hgq, hcq⟩
                    have HGq := Lib.hid hgq
                    have HCq := Lib.hid (HCd.out.trans hcq)
                    have HRq := Lib.hid (show Strs wq pa ss from strs_chg HRd.out hcq HPB.out)
                    have c1q : wq.cell? ⟨b, o + i, none⟩ = some (.string ct) := by rw [hcq.cell (by have := HZd.out; omega) (by have := HGW.out; omega)]; exact HC1d.out
                    have hbq : b < wq.heap.size := by have := hcq.size; have := HZd.out; omega
                    have HZq := Lib.hid (show G + 1 ≤ wq.heap.size from HGq.out.hB)
                    clear hgq hcq HCP HGd HCd HRd HC1d
                    go_wp2_with fail
                    obtain ⟨ms, hms⟩ : ∃ ms, m - kk = ms := ⟨_, rfl⟩
                    have HMS := Lib.hid hms
                    clear hms
                    refine wp_region_inv mx (by kernel_rfl) (InsI wq (.slice pa m ca) (.slice (some ⟨b, o, none⟩) n c) (.slice pa kk ca) (.slice (hiP pa ca kk) ms (ca - kk)) ⟨b, o + i, none⟩ kk i ss ct) ?_ ?_ ?_
                    · intro vals
                      constructor <;> first | exact (Below.refl _ _).drew | (intro h; cases h)
                    · intro ix ox L vals w hi hL hdep hI
                      have hlt16 : ix < 16 := by
                        have := (List.getElem?_eq_some_iff.1 hi).1
                        simpa using this
                      generalize hA : frA _ _ L vals = a
                      have h0 : a.tmps.getD 0 undef = .slice (some ⟨b, o, none⟩) n c := by rw [← hA, frA_base (by kernel_rfl)]; rfl
                      have h6 : a.tmps.getD 9 undef = .int .i64 i := by rw [← hA, frA_base (by kernel_rfl)]; rfl
                      have h7 : a.tmps.getD 10 undef = .int .i64 kk := by rw [← hA, frA_base (by kernel_rfl)]; rfl
                      have H5 := Lib.hid (show L 15 = false → a.tmps.getD 8 undef = .slice pa m ca from fun h15 => by rw [← hA, frA_wait (by kernel_rfl) (k := 15) rfl h15]; rfl)
                      have hD := Lib.hid (fun k t (hk : L k = true) (ht : dstOf _ k = some t) => hA ▸ frA_done (by kernel_rfl) (vals := vals) hk ht)
                      clear hA
                      have cx : w.cell? ⟨b, o + i, none⟩ = some (.string ct) := by rw [hI.bel.cell (p := ⟨b, o + i, none⟩) hbq]; exact c1q
                      have hsw := hI.bel.size
                      obtain rfl | rfl | rfl | rfl | rfl | rfl | rfl | rfl | rfl | rfl | rfl | rfl | rfl | rfl | rfl | rfl : ix = 0 ∨ ix = 1 ∨ ix = 2 ∨ ix = 3 ∨ ix = 4 ∨ ix = 5 ∨ ix = 6 ∨ ix = 7 ∨ ix = 8 ∨ ix = 9 ∨ ix = 10 ∨ ix = 11 ∨ ix = 12 ∨ ix = 13 ∨ ix = 14 ∨ ix = 15 := by omega
                      all_goals
                        injection hi with hi
                        subst hi
                        simp [Region.binds] at hdep
                      · have n4 : L 4 = false := no_of hI.d4 hL
                        have n10 : L 10 = false := no_of hI.d10 n4
                        have hbel := hI.bel.alloc hI.bel.size (.cells #[] 9)
                        have hnew := ownS_made w wq.heap.size hsw
                        have h9 : L 9 = true → ∃ g, vals 9 = .slice (some ⟨g, 0, none⟩) 1 1 ∧ g < w.heap.size + 1 ∧ (w.alloc (.cells #[] 9)).cell? ⟨g, 0, none⟩ = some (.string ct) ∧ ¬ w.heap.size = g := fun h => by
                          obtain ⟨g, e1, e2, e3, _⟩ := hI.a9 h n10
                          exact ⟨g, e1, by omega, by rw [World.cell?_alloc_lt _ _ ⟨g, 0, none⟩ e2]; exact e3, by omega⟩
                        have n14 : L 14 = false := no_of hI.d14 n10
                        have n15 : L 15 = false := no_of (fun h => (hI.d15 h).2.2) n14
                        refine step_run rfl (v := .slice (some ⟨w.heap.size, 0, none⟩) 0 0) (w' := w.alloc (.cells #[] 9)) (by go_simp) ?_
                        constructor <;> (try simp [updL, updV, n4, n10, n14, n15, Value.ownBlock]) <;> first | exact hbel | exact hnew | exact h9 | exact hI.a1 | exact hI.a2 | exact hI.a3 | exact hI.a5 | exact hI.a6 | exact hI.a7 | exact hI.a8 | exact hI.a11 | exact hI.a12 | exact hI.a13 | exact hI.a15 | exact hI.d4 | exact hI.d9 | exact hI.d10 | exact hI.d14 | exact hI.d15
                      · have n15 : L 15 = false := no_of (fun h => (hI.d15 h).1) hL
                        have h5 := H5.out n15
                        refine step_run rfl (v := .slice pa m ca) (w' := w) (by go_simp) ?_
                        constructor <;> (try simp [updL, updV, n15]) <;> first | exact hI.bel | exact hI.a0 | exact hI.a1 | exact hI.a2 | exact hI.a3 | exact hI.a4 | exact hI.a5 | exact hI.a6 | exact hI.a7 | exact hI.a8 | exact hI.a9 | exact hI.a10 | exact hI.a11 | exact hI.a12 | exact hI.a13 | exact hI.a14 | exact hI.a15 | exact hI.d4 | exact hI.d9 | exact hI.d10 | exact hI.d14 | exact hI.d15
                      · refine step_run rfl (v := .int .i64 kk) (w' := w) (by go_simp) ?_
                        constructor <;> (try simp [updL, updV]) <;> first | exact hI.bel | exact hI.a0 | exact hI.a1 | exact hI.a2 | exact hI.a3 | exact hI.a4 | exact hI.a5 | exact hI.a6 | exact hI.a7 | exact hI.a8 | exact hI.a9 | exact hI.a10 | exact hI.a11 | exact hI.a12 | exact hI.a13 | exact hI.a14 | exact hI.a15 | exact hI.d4 | exact hI.d9 | exact hI.d10 | exact hI.d14 | exact hI.d15
                      · have e1 := hD.out 1 85 (by simp [hdep]) rfl
                        have e2 := hD.out 2 86 (by simp [hdep]) rfl
                        rw [hI.a1 (by simp [hdep])] at e1
                        rw [hI.a2 (by simp [hdep])] at e2
                        refine step_run rfl (v := .slice pa kk ca) (w' := w) (slice_lo pa m ca kk (by omega) hla HPC.out _ a w 85 86 rfl e1 e2) ?_
                        constructor <;> (try simp [updL, updV]) <;> first | exact hI.bel | exact hI.a0 | exact hI.a1 | exact hI.a2 | exact hI.a3 | exact hI.a4 | exact hI.a5 | exact hI.a6 | exact hI.a7 | exact hI.a8 | exact hI.a9 | exact hI.a10 | exact hI.a11 | exact hI.a12 | exact hI.a13 | exact hI.a14 | exact hI.a15 | exact hI.d4 | exact hI.d9 | exact hI.d10 | exact hI.d14 | exact hI.d15
                      · have e1 := hD.out 0 84 (by simp [hdep]) rfl
                        have e2 := hD.out 3 87 (by simp [hdep]) rfl
                        rw [hI.a3 (by simp [hdep])] at e2
                        have n10 : L 10 = false := no_of hI.d10 hL
                        have hown := hI.a0 (by simp [hdep]) hL
                        refine stepI_app_str rfl _ _ rfl wq.heap.size (vals 0) [] e1 hown pa ca (ss.take kk) (by rw [show (ss.take kk).length = kk by rw [List.length_take, HM.out]; omega]; exact e2) (strs_take (HRq.out.below hI.bel) kk) HPC.out (by rw [List.length_take, HM.out]; simp; omega) hsw ?_
                        intro v' w' hown' hgr hat
                        have hbel := hI.bel.grown hgr hsw hown.lt
                        have h4 : OwnS w' wq.heap.size v' (ss.take kk) := hown'
                        have h9 : L 9 = true → ∃ g, vals 9 = .slice (some ⟨g, 0, none⟩) 1 1 ∧ g < w'.heap.size ∧ w'.cell? ⟨g, 0, none⟩ = some (.string ct) ∧ ¬ v'.ownBlock = some g := fun h => by
                          obtain ⟨g, f1, f2, f3, f4, _⟩ := hI.a9 h n10
                          have f5 := f4 (by simp [hdep]) hL
                          refine ⟨g, f1, Nat.lt_of_lt_of_le f2 hgr.size, hgr.cell f3 (fun hc => f5 hc.symm), ?_⟩
                          rcases hat with hat | hat
                          · rw [hat]; exact f5
                          · rw [hat]; intro hc; injection hc with hc; omega
                        have n14 : L 14 = false := no_of hI.d14 n10
                        have n15 : L 15 = false := no_of (fun h => (hI.d15 h).2.2) n14
                        have l0 : L 0 = true := by simp [hdep]
                        constructor <;> (try simp [updL, updV, n10, n14, n15, l0]) <;> first | exact hbel | exact h4 | exact h9 | exact hI.a1 | exact hI.a2 | exact hI.a3 | exact hI.a5 | exact hI.a6 | exact hI.a7 | exact hI.a8 | exact hI.a11 | exact hI.a12 | exact hI.a13 | exact hI.a15 | exact hI.d4 | exact hI.d9 | exact hI.d10 | exact hI.d14 | exact hI.d15
                      · refine step_run rfl (v := .slice (some ⟨b, o, none⟩) n c) (w' := w) (by go_simp) ?_
                        constructor <;> (try simp [updL, updV]) <;> first | exact hI.bel | exact hI.a0 | exact hI.a1 | exact hI.a2 | exact hI.a3 | exact hI.a4 | exact hI.a5 | exact hI.a6 | exact hI.a7 | exact hI.a8 | exact hI.a9 | exact hI.a10 | exact hI.a11 | exact hI.a12 | exact hI.a13 | exact hI.a14 | exact hI.a15 | exact hI.d4 | exact hI.d9 | exact hI.d10 | exact hI.d14 | exact hI.d15
                      · refine step_run rfl (v := .int .i64 i) (w' := w) (by go_simp) ?_
                        constructor <;> (try simp [updL, updV]) <;> first | exact hI.bel | exact hI.a0 | exact hI.a1 | exact hI.a2 | exact hI.a3 | exact hI.a4 | exact hI.a5 | exact hI.a6 | exact hI.a7 | exact hI.a8 | exact hI.a9 | exact hI.a10 | exact hI.a11 | exact hI.a12 | exact hI.a13 | exact hI.a14 | exact hI.a15 | exact hI.d4 | exact hI.d9 | exact hI.d10 | exact hI.d14 | exact hI.d15
                      · have e1 := hD.out 5 89 (by simp [hdep]) rfl
                        have e2 := hD.out 6 90 (by simp [hdep]) rfl
                        rw [hI.a5 (by simp [hdep])] at e1
                        rw [hI.a6 (by simp [hdep])] at e2
                        refine step_run rfl (v := .pointer (some ⟨b, o + i, none⟩)) (w' := w) (by go_simp) ?_
                        constructor <;> (try simp [updL, updV]) <;> first | exact hI.bel | exact hI.a0 | exact hI.a1 | exact hI.a2 | exact hI.a3 | exact hI.a4 | exact hI.a5 | exact hI.a6 | exact hI.a7 | exact hI.a8 | exact hI.a9 | exact hI.a10 | exact hI.a11 | exact hI.a12 | exact hI.a13 | exact hI.a14 | exact hI.a15 | exact hI.d4 | exact hI.d9 | exact hI.d10 | exact hI.d14 | exact hI.d15
                      · have e1 := hD.out 7 91 (by simp [hdep]) rfl
                        rw [hI.a7 (by simp [hdep])] at e1
                        refine step_run rfl (v := .string ct) (w' := w) (by go_simp) ?_
                        constructor <;> (try simp [updL, updV]) <;> first | exact hI.bel | exact hI.a0 | exact hI.a1 | exact hI.a2 | exact hI.a3 | exact hI.a4 | exact hI.a5 | exact hI.a6 | exact hI.a7 | exact hI.a8 | exact hI.a9 | exact hI.a10 | exact hI.a11 | exact hI.a12 | exact hI.a13 | exact hI.a14 | exact hI.a15 | exact hI.d4 | exact hI.d9 | exact hI.d10 | exact hI.d14 | exact hI.d15
                      · have e1 := hD.out 8 92 (by simp [hdep]) rfl
                        rw [hI.a8 (by simp [hdep])] at e1
                        have e1' : a.tmps[92]?.getD undef = .string ct := by rw [← Array.getD_eq_getD_getElem?]; exact e1
                        have n10 : L 10 = false := no_of hI.d9 hL
                        have n14 : L 14 = false := no_of hI.d14 n10
                        have n15 : L 15 = false := no_of (fun h => (hI.d15 h).2.2) n14
                        have hbel := hI.bel.alloc hI.bel.size (.cells #[.string ct] 9)
                        have q0 : L 0 = true → L 4 = false → ¬ (vals 0).ownBlock = some w.heap.size := fun h h' hc => by
                          have := (World.ownsRow.lt (hI.a0 h h') _ hc).2
                          omega
                        have q4 : L 4 = true → ¬ (vals 4).ownBlock = some w.heap.size := fun h hc => by
                          have := (World.ownsRow.lt (hI.a4 h n10) _ hc).2
                          omega
                        have h0' : L 0 = true → L 4 = false → OwnS (w.alloc (.cells #[.string ct] 9)) wq.heap.size (vals 0) [] := fun h h' => (hI.a0 h h').alloc _
                        have h4' : L 4 = true → OwnS (w.alloc (.cells #[.string ct] 9)) wq.heap.size (vals 4) (ss.take kk) := fun h => (hI.a4 h n10).alloc _
                        refine step_run rfl (v := .slice (some ⟨w.heap.size, 0, none⟩) 1 1) (w' := w.alloc (.cells #[.string ct] 9)) (by go_simp) ?_
                        have h9 : ∃ g, w.heap.size = g ∧ g < w.heap.size + 1 ∧ (w.alloc (.cells #[.string ct] 9)).cell? ⟨g, 0, none⟩ = some (.string ct) ∧ (L 0 = true → L 4 = false → ¬ (vals 0).ownBlock = some g) ∧ (L 4 = true → ¬ (vals 4).ownBlock = some g) := ⟨_, rfl, by omega, by rw [World.cell?_alloc_new]; rfl, q0, q4⟩
                        constructor <;> (try simp [updL, updV, n10, n14, n15]) <;> first | exact hbel | exact h0' | exact h4' | exact h9 | exact ⟨q0, q4⟩ | exact hI.a1 | exact hI.a2 | exact hI.a3 | exact hI.a5 | exact hI.a6 | exact hI.a7 | exact hI.a8 | exact hI.a11 | exact hI.a12 | exact hI.a13 | exact hI.a15 | exact hI.d4 | exact hI.d9 | exact hI.d10 | exact hI.d14 | exact hI.d15 | skip
                      · have e1 := hD.out 4 88 (by simp [hdep]) rfl
                        have e2 := hD.out 9 93 (by simp [hdep]) rfl
                        have l4 : L 4 = true := by simp [hdep]
                        have l9 : L 9 = true := by simp [hdep]
                        have n14 : L 14 = false := no_of hI.d14 hL
                        have n15 : L 15 = false := no_of (fun h => (hI.d15 h).2.2) n14
                        have hown := hI.a4 l4 hL
                        obtain ⟨g, f1, f2, f3, _, f4⟩ := hI.a9 l9 hL
                        rw [f1] at e2
                        refine stepI_app_str rfl _ _ rfl wq.heap.size (vals 4) (ss.take kk) e1 hown (some ⟨g, 0, none⟩) 1 [ct] e2 (strs_one f3) (fun h => by cases h) (by rw [List.length_take, HM.out]; simp; omega) hsw ?_
                        intro v' w' hown' hgr hat
                        have hbel := hI.bel.grown hgr hsw hown.lt
                        constructor <;> (try simp [updL, updV, n14, n15, l4, l9]) <;> first | exact hbel | exact hown' | exact hI.d4 l4 | exact hI.a1 | exact hI.a2 | exact hI.a3 | exact hI.a5 | exact hI.a6 | exact hI.a7 | exact hI.a8 | exact hI.a11 | exact hI.a12 | exact hI.a13 | exact hI.a15 | exact hI.d4 | exact hI.d9 | exact hI.d10 | exact hI.d14 | exact hI.d15
                      · have n15 : L 15 = false := no_of (fun h => (hI.d15 h).2.1) hL
                        have h5 := H5.out n15
                        refine step_run rfl (v := .slice pa m ca) (w' := w) (by go_simp) ?_
                        constructor <;> (try simp [updL, updV, n15]) <;> first | exact hI.bel | exact hI.a0 | exact hI.a1 | exact hI.a2 | exact hI.a3 | exact hI.a4 | exact hI.a5 | exact hI.a6 | exact hI.a7 | exact hI.a8 | exact hI.a9 | exact hI.a10 | exact hI.a11 | exact hI.a12 | exact hI.a13 | exact hI.a14 | exact hI.a15 | exact hI.d4 | exact hI.d9 | exact hI.d10 | exact hI.d14 | exact hI.d15
                      · refine step_run rfl (v := .int .i64 kk) (w' := w) (by go_simp) ?_
                        constructor <;> (try simp [updL, updV]) <;> first | exact hI.bel | exact hI.a0 | exact hI.a1 | exact hI.a2 | exact hI.a3 | exact hI.a4 | exact hI.a5 | exact hI.a6 | exact hI.a7 | exact hI.a8 | exact hI.a9 | exact hI.a10 | exact hI.a11 | exact hI.a12 | exact hI.a13 | exact hI.a14 | exact hI.a15 | exact hI.d4 | exact hI.d9 | exact hI.d10 | exact hI.d14 | exact hI.d15
                      · have e1 := hD.out 11 95 (by simp [hdep]) rfl
                        have e2 := hD.out 12 96 (by simp [hdep]) rfl
                        rw [hI.a11 (by simp [hdep])] at e1
                        rw [hI.a12 (by simp [hdep])] at e2
                        refine step_run rfl (v := .slice (hiP pa ca kk) ms (ca - kk)) (w' := w) (by rw [← HMS.out]; exact slice_hi pa m ca kk (by omega) hla HPC.out _ a w 95 96 rfl e1 e2) ?_
                        constructor <;> (try simp [updL, updV]) <;> first | exact hI.bel | exact hI.a0 | exact hI.a1 | exact hI.a2 | exact hI.a3 | exact hI.a4 | exact hI.a5 | exact hI.a6 | exact hI.a7 | exact hI.a8 | exact hI.a9 | exact hI.a10 | exact hI.a11 | exact hI.a12 | exact hI.a13 | exact hI.a14 | exact hI.a15 | exact hI.d4 | exact hI.d9 | exact hI.d10 | exact hI.d14 | exact hI.d15
                      · have e1 := hD.out 10 94 (by simp [hdep]) rfl
                        have e2 := hD.out 13 97 (by simp [hdep]) rfl
                        have l10 : L 10 = true := by simp [hdep]
                        have l4 := hI.d10 l10
                        have n15 : L 15 = false := no_of (fun h => (hI.d15 h).2.2) hL
                        rw [hI.a13 (by simp [hdep])] at e2
                        have hown := hI.a10 l10 hL
                        refine stepI_app_str rfl _ _ rfl wq.heap.size (vals 10) (ss.take kk ++ [ct]) e1 hown (hiP pa ca kk) (ca - kk) (ss.drop kk) (by rw [show (ss.drop kk).length = ms by rw [List.length_drop, HM.out]; exact HMS.out]; exact e2) (strs_hi (HRq.out.below hI.bel) (by rw [HM.out]; exact hla)) (fun h => by cases pa with | none => rw [HPC.out rfl, Nat.zero_sub] | some ad => cases h) (by rw [List.length_append, List.length_take, List.length_drop, HM.out]; simp; omega) hsw ?_
                        intro v' w' hown' hgr hat
                        have hbel := hI.bel.grown hgr hsw hown.lt
                        have hown2 : OwnS w' wq.heap.size v' (insL ss ct kk) := hown'
                        constructor <;> (try simp [updL, updV, n15, l10, l4]) <;> first | exact hbel | exact hown2 | exact hI.d4 l4 | exact hI.d9 l10 | exact hI.a1 | exact hI.a2 | exact hI.a3 | exact hI.a5 | exact hI.a6 | exact hI.a7 | exact hI.a8 | exact hI.a11 | exact hI.a12 | exact hI.a13 | exact hI.a15 | exact hI.d4 | exact hI.d9 | exact hI.d10 | exact hI.d14 | exact hI.d15
                      · have e1 := hD.out 14 98 (by simp [hdep]) rfl
                        refine step_run rfl (v := vals 14) (w' := w) (by go_simp) ?_
                        constructor <;> (try simp [updL, updV]) <;> first | exact ⟨by simp [hdep], by simp [hdep], by simp [hdep]⟩ | exact hI.bel | exact hI.a0 | exact hI.a1 | exact hI.a2 | exact hI.a3 | exact hI.a4 | exact hI.a5 | exact hI.a6 | exact hI.a7 | exact hI.a8 | exact hI.a9 | exact hI.a10 | exact hI.a11 | exact hI.a12 | exact hI.a13 | exact hI.a14 | exact hI.a15 | exact hI.d4 | exact hI.d9 | exact hI.d10 | exact hI.d14 | exact hI.d15
                    · intro vals w hI
                      have HO := Lib.hid (show OwnS w (G + 1) (vals 15) (insL ss ct kk) from by
                        rw [hI.a15 rfl]
                        exact ownS_mono (hI.a14 rfl) HZq.out)
                      have HIL := Lib.hid (insL_len ss ct kk (by rw [HM.out]; omega))
                      have HGn := Lib.hid (HGq.out.below hI.bel)
                      have HCn := Lib.hid (HCq.out.trans (.of_below hI.bel))
                      simp only [putsL, Act.put, List.setIfInBounds_toArray, List.set_cons_zero, List.set_cons_succ]
                      clear hI c1q HRq HLT HRA HA
                      generalize vals 15 = va at HO ⊢
                      go_wp2_with fail
                      go_roundg (n - (i + 1))
                      case measure => omega
                      case rel => exact ⟨i + 1, insL ss ct kk, _, by omega, by omega, by go_num, by rw [HIL.out, HM.out]; omega, Lib.hid HK2.out.1, HO, HGn, HCn⟩
              · have hklz : ¬ (kk : Int) < (m : Int) := by omega
                have hkld : decide (kk < m) = false := decide_eq_false hkl
                go_wp2_with fail
                go_quiet (fail)
                go_wp2_with fail
                go_quiet (fail)
                have HBd := fun q1 q2 => below_drewN (below_drewN HBk.out q1) q2
                have hcd : ∀ q1 q2, ((wr.drewN q1).drewN q2).cell? ⟨b, o + i, none⟩ = some (.string ct) := fun _ _ => c1k
                generalize hwq : World.drewN (World.drewN wr _) _ = wd
                have HBd := Lib.hid (show Below wo.heap.size wo wd from hwq ▸ HBd _ _)
                have c1d : wd.cell? ⟨b, o + i, none⟩ = some (.string ct) := hwq ▸ hcd _ _
                clear hwq hcd c1k c1
                have CP := Lib.hid (put_anySi tx_ord G (G + 1) ct (i : Int) t wd (HGt.out.below HBd.out) (by rw [HKY.out.many, HM.out]; omega) trivial (fun _ _ => trivial))
                have HGd := Lib.hid (HGt.out.below HBd.out)
                have HCd := Lib.hid (HC.out.trans (.of_below HBd.out))
                have HRd := Lib.hid (HRA.out.below HBd.out)
                have HC1d := Lib.hid c1d
                have HZd := Lib.hid (show b < wd.heap.size by have := HBd.out.size; omega)
                have HK2 := Lib.hid (HKY.out.ins (k := kk) (ct := ct) (i : Int) (by rw [HM.out]; omega) HLT.out (fun h => absurd h (by rw [HM.out]; exact hkl)))
                rw [show decide ((withT cS ct (i : Int) t).many = t.many) = false by rw [decide_eq_false_iff_not, HK2.out.2]; omega] at CP
                have HCP := Lib.hid CP.out
                clear CP
                go_wp2_with fail
                refine HCP.out.mono ?_
                rintro e wq ⟨rfl, hgq, hcq⟩
                have HGq := Lib.hid hgq
                have HCq := Lib.hid (HCd.out.trans hcq)
                have HRq := Lib.hid (show Strs wq pa ss from strs_chg HRd.out hcq HPB.out)
                have c1q : wq.cell? ⟨b, o + i, none⟩ = some (.string ct) := by rw [hcq.cell (by have := HZd.out; omega) (by have := HGW.out; omega)]; exact HC1d.out
                have hbq : b < wq.heap.size := by have := hcq.size; have := HZd.out; omega
                have HZq := Lib.hid (show G + 1 ≤ wq.heap.size from HGq.out.hB)
                clear hgq hcq HCP HGd HCd HRd HC1d
                go_wp2_with fail
                obtain ⟨ms, hms⟩ : ∃ ms, m - kk = ms := ⟨_, rfl⟩
                have HMS := Lib.hid hms
                clear hms
                refine wp_region_inv mx (by kernel_rfl) (InsI wq (.slice pa m ca) (.slice (some ⟨b, o, none⟩) n c) (.slice pa kk ca) (.slice (hiP pa ca kk) ms (ca - kk)) ⟨b, o + i, none⟩ kk i ss ct) ?_ ?_ ?_
                · intro vals
                  constructor <;> first | exact (Below.refl _ _).drew | (intro h; cases h)
                · intro ix ox L vals w hi hL hdep hI
                  have hlt16 : ix < 16 := by
                    have := (List.getElem?_eq_some_iff.1 hi).1
                    simpa using this
                  generalize hA : frA _ _ L vals = a
                  have h0 : a.tmps.getD 0 undef = .slice (some ⟨b, o, none⟩) n c := by rw [← hA, frA_base (by kernel_rfl)]; rfl
                  have h6 : a.tmps.getD 9 undef = .int .i64 i := by rw [← hA, frA_base (by kernel_rfl)]; rfl
                  have h7 : a.tmps.getD 10 undef = .int .i64 kk := by rw [← hA, frA_base (by kernel_rfl)]; rfl
                  have H5 := Lib.hid (show L 15 = false → a.tmps.getD 8 undef = .slice pa m ca from fun h15 => by rw [← hA, frA_wait (by kernel_rfl) (k := 15) rfl h15]; rfl)
                  have hD := Lib.hid (fun k t (hk : L k = true) (ht : dstOf _ k = some t) => hA ▸ frA_done (by kernel_rfl) (vals := vals) hk ht)
                  clear hA
                  have cx : w.cell? ⟨b, o + i, none⟩ = some (.string ct) := by rw [hI.bel.cell (p := ⟨b, o + i, none⟩) hbq]; exact c1q
                  have hsw := hI.bel.size
                  obtain rfl | rfl | rfl | rfl | rfl | rfl | rfl | rfl | rfl | rfl | rfl | rfl | rfl | rfl | rfl | rfl : ix = 0 ∨ ix = 1 ∨ ix = 2 ∨ ix = 3 ∨ ix = 4 ∨ ix = 5 ∨ ix = 6 ∨ ix = 7 ∨ ix = 8 ∨ ix = 9 ∨ ix = 10 ∨ ix = 11 ∨ ix = 12 ∨ ix = 13 ∨ ix = 14 ∨ ix = 15 := by omega
                  all_goals
                    injection hi with hi
                    subst hi
                    simp [Region.binds] at hdep
                  · have n4 : L 4 = false := no_of hI.d4 hL
                    have n10 : L 10 = false := no_of hI.d10 n4
                    have hbel := hI.bel.alloc hI.bel.size (.cells #[] 9)
                    have hnew := ownS_made w wq.heap.size hsw
                    have h9 : L 9 = true → ∃ g, vals 9 = .slice (some ⟨g, 0, none⟩) 1 1 ∧ g < w.heap.size + 1 ∧ (w.alloc (.cells #[] 9)).cell? ⟨g, 0, none⟩ = some (.string ct) ∧ ¬ w.heap.size = g := fun h => by
                      obtain ⟨g, e1, e2, e3, _⟩ := hI.a9 h n10
                      exact ⟨g, e1, by omega, by rw [World.cell?_alloc_lt _ _ ⟨g, 0, none⟩ e2]; exact e3, by omega⟩
                    have n14 : L 14 = false := no_of hI.d14 n10
                    have n15 : L 15 = false := no_of (fun h => (hI.d15 h).2.2) n14
                    refine step_run rfl (v := .slice (some ⟨w.heap.size, 0, none⟩) 0 0) (w' := w.alloc (.cells #[] 9)) (by go_simp) ?_
                    constructor <;> (try simp [updL, updV, n4, n10, n14, n15, Value.ownBlock]) <;> first | exact hbel | exact hnew | exact h9 | exact hI.a1 | exact hI.a2 | exact hI.a3 | exact hI.a5 | exact hI.a6 | exact hI.a7 | exact hI.a8 | exact hI.a11 | exact hI.a12 | exact hI.a13 | exact hI.a15 | exact hI.d4 | exact hI.d9 | exact hI.d10 | exact hI.d14 | exact hI.d15
                  · have n15 : L 15 = false := no_of (fun h => (hI.d15 h).1) hL
                    have h5 := H5.out n15
                    refine step_run rfl (v := .slice pa m ca) (w' := w) (by go_simp) ?_
                    constructor <;> (try simp [updL, updV, n15]) <;> first | exact hI.bel | exact hI.a0 | exact hI.a1 | exact hI.a2 | exact hI.a3 | exact hI.a4 | exact hI.a5 | exact hI.a6 | exact hI.a7 | exact hI.a8 | exact hI.a9 | exact hI.a10 | exact hI.a11 | exact hI.a12 | exact hI.a13 | exact hI.a14 | exact hI.a15 | exact hI.d4 | exact hI.d9 | exact hI.d10 | exact hI.d14 | exact hI.d15
                  · refine step_run rfl (v := .int .i64 kk) (w' := w) (by go_simp) ?_
                    constructor <;> (try simp [updL, updV]) <;> first | exact hI.bel | exact hI.a0 | exact hI.a1 | exact hI.a2 | exact hI.a3 | exact hI.a4 | exact hI.a5 | exact hI.a6 | exact hI.a7 | exact hI.a8 | exact hI.a9 | exact hI.a10 | exact hI.a11 | exact hI.a12 | exact hI.a13 | exact hI.a14 | exact hI.a15 | exact hI.d4 | exact hI.d9 | exact hI.d10 | exact hI.d14 | exact hI.d15
                  · have e1 := hD.out 1 85 (by simp [hdep]) rfl
                    have e2 := hD.out 2 86 (by simp [hdep]) rfl
                    rw [hI.a1 (by simp [hdep])] at e1
                    rw [hI.a2 (by simp [hdep])] at e2
                    refine step_run rfl (v := .slice pa kk ca) (w' := w) (slice_lo pa m ca kk (by omega) hla HPC.out _ a w 85 86 rfl e1 e2) ?_
                    constructor <;> (try simp [updL, updV]) <;> first | exact hI.bel | exact hI.a0 | exact hI.a1 | exact hI.a2 | exact hI.a3 | exact hI.a4 | exact hI.a5 | exact hI.a6 | exact hI.a7 | exact hI.a8 | exact hI.a9 | exact hI.a10 | exact hI.a11 | exact hI.a12 | exact hI.a13 | exact hI.a14 | exact hI.a15 | exact hI.d4 | exact hI.d9 | exact hI.d10 | exact hI.d14 | exact hI.d15
                  · have e1 := hD.out 0 84 (by simp [hdep]) rfl
                    have e2 := hD.out 3 87 (by simp [hdep]) rfl
                    rw [hI.a3 (by simp [hdep])] at e2
                    have n10 : L 10 = false := no_of hI.d10 hL
                    have hown := hI.a0 (by simp [hdep]) hL
                    refine stepI_app_str rfl _ _ rfl wq.heap.size (vals 0) [] e1 hown pa ca (ss.take kk) (by rw [show (ss.take kk).length = kk by rw [List.length_take, HM.out]; omega]; exact e2) (strs_take (HRq.out.below hI.bel) kk) HPC.out (by rw [List.length_take, HM.out]; simp; omega) hsw ?_
                    intro v' w' hown' hgr hat
                    have hbel := hI.bel.grown hgr hsw hown.lt
                    have h4 : OwnS w' wq.heap.size v' (ss.take kk) := hown'
                    have h9 : L 9 = true → ∃ g, vals 9 = .slice (some ⟨g, 0, none⟩) 1 1 ∧ g < w'.heap.size ∧ w'.cell? ⟨g, 0, none⟩ = some (.string ct) ∧ ¬ v'.ownBlock = some g := fun h => by
                      obtain ⟨g, f1, f2, f3, f4, _⟩ := hI.a9 h n10
                      have f5 := f4 (by simp [hdep]) hL
                      refine ⟨g, f1, Nat.lt_of_lt_of_le f2 hgr.size, hgr.cell f3 (fun hc => f5 hc.symm), ?_⟩
                      rcases hat with hat | hat
                      · rw [hat]; exact f5
                      · rw [hat]; intro hc; injection hc with hc; omega
                    have n14 : L 14 = false := no_of hI.d14 n10
                    have n15 : L 15 = false := no_of (fun h => (hI.d15 h).2.2) n14
                    have l0 : L 0 = true := by simp [hdep]
                    constructor <;> (try simp [updL, updV, n10, n14, n15, l0]) <;> first | exact hbel | exact h4 | exact h9 | exact hI.a1 | exact hI.a2 | exact hI.a3 | exact hI.a5 | exact hI.a6 | exact hI.a7 | exact hI.a8 | exact hI.a11 | exact hI.a12 | exact hI.a13 | exact hI.a15 | exact hI.d4 | exact hI.d9 | exact hI.d10 | exact hI.d14 | exact hI.d15
                  · refine step_run rfl (v := .slice (some ⟨b, o, none⟩) n c) (w' := w) (by go_simp) ?_
                    constructor <;> (try simp [updL, updV]) <;> first | exact hI.bel | exact hI.a0 | exact hI.a1 | exact hI.a2 | exact hI.a3 | exact hI.a4 | exact hI.a5 | exact hI.a6 | exact hI.a7 | exact hI.a8 | exact hI.a9 | exact hI.a10 | exact hI.a11 | exact hI.a12 | exact hI.a13 | exact hI.a14 | exact hI.a15 | exact hI.d4 | exact hI.d9 | exact hI.d10 | exact hI.d14 | exact hI.d15
                  · refine step_run rfl (v := .int .i64 i) (w' := w) (by go_simp) ?_
                    constructor <;> (try simp [updL, updV]) <;> first | exact hI.bel | exact hI.a0 | exact hI.a1 | exact hI.a2 | exact hI.a3 | exact hI.a4 | exact hI.a5 | exact hI.a6 | exact hI.a7 | exact hI.a8 | exact hI.a9 | exact hI.a10 | exact hI.a11 | exact hI.a12 | exact hI.a13 | exact hI.a14 | exact hI.a15 | exact hI.d4 | exact hI.d9 | exact hI.d10 | exact hI.d14 | exact hI.d15
                  · have e1 := hD.out 5 89 (by simp [hdep]) rfl
                    have e2 := hD.out 6 90 (by simp [hdep]) rfl
                    rw [hI.a5 (by simp [hdep])] at e1
                    rw [hI.a6 (by simp [hdep])] at e2
                    refine step_run rfl (v := .pointer (some ⟨b, o + i, none⟩)) (w' := w) (by go_simp) ?_
                    constructor <;> (try simp [updL, updV]) <;> first | exact hI.bel | exact hI.a0 | exact hI.a1 | exact hI.a2 | exact hI.a3 | exact hI.a4 | exact hI.a5 | exact hI.a6 | exact hI.a7 | exact hI.a8 | exact hI.a9 | exact hI.a10 | exact hI.a11 | exact hI.a12 | exact hI.a13 | exact hI.a14 | exact hI.a15 | exact hI.d4 | exact hI.d9 | exact hI.d10 | exact hI.d14 | exact hI.d15
                  · have e1 := hD.out 7 91 (by simp [hdep]) rfl
                    rw [hI.a7 (by simp [hdep])] at e1
                    refine step_run rfl (v := .string ct) (w' := w) (by go_simp) ?_
                    constructor <;> (try simp [updL, updV]) <;> first | exact hI.bel | exact hI.a0 | exact hI.a1 | exact hI.a2 | exact hI.a3 | exact hI.a4 | exact hI.a5 | exact hI.a6 | exact hI.a7 | exact hI.a8 | exact hI.a9 | exact hI.a10 | exact hI.a11 | exact hI.a12 | exact hI.a13 | exact hI.a14 | exact hI.a15 | exact hI.d4 | exact hI.d9 | exact hI.d10 | exact hI.d14 | exact hI.d15
                  · have e1 := hD.out 8 92 (by simp [hdep]) rfl
                    rw [hI.a8 (by simp [hdep])] at e1
                    have e1' : a.tmps[92]?.getD undef = .string ct := by rw [← Array.getD_eq_getD_getElem?]; exact e1
                    have n10 : L 10 = false := no_of hI.d9 hL
                    have n14 : L 14 = false := no_of hI.d14 n10
                    have n15 : L 15 = false := no_of (fun h => (hI.d15 h).2.2) n14
                    have hbel := hI.bel.alloc hI.bel.size (.cells #[.string ct] 9)
                    have q0 : L 0 = true → L 4 = false → ¬ (vals 0).ownBlock = some w.heap.size := fun h h' hc => by
                      have := (World.ownsRow.lt (hI.a0 h h') _ hc).2
                      omega
                    have q4 : L 4 = true → ¬ (vals 4).ownBlock = some w.heap.size := fun h hc => by
                      have := (World.ownsRow.lt (hI.a4 h n10) _ hc).2
                      omega
                    have h0' : L 0 = true → L 4 = false → OwnS (w.alloc (.cells #[.string ct] 9)) wq.heap.size (vals 0) [] := fun h h' => (hI.a0 h h').alloc _
                    have h4' : L 4 = true → OwnS (w.alloc (.cells #[.string ct] 9)) wq.heap.size (vals 4) (ss.take kk) := fun h => (hI.a4 h n10).alloc _
                    refine step_run rfl (v := .slice (some ⟨w.heap.size, 0, none⟩) 1 1) (w' := w.alloc (.cells #[.string ct] 9)) (by go_simp) ?_
                    have h9 : ∃ g, w.heap.size = g ∧ g < w.heap.size + 1 ∧ (w.alloc (.cells #[.string ct] 9)).cell? ⟨g, 0, none⟩ = some (.string ct) ∧ (L 0 = true → L 4 = false → ¬ (vals 0).ownBlock = some g) ∧ (L 4 = true → ¬ (vals 4).ownBlock = some g) := ⟨_, rfl, by omega, by rw [World.cell?_alloc_new]; rfl, q0, q4⟩
                    constructor <;> (try simp [updL, updV, n10, n14, n15]) <;> first | exact hbel | exact h0' | exact h4' | exact h9 | exact ⟨q0, q4⟩ | exact hI.a1 | exact hI.a2 | exact hI.a3 | exact hI.a5 | exact hI.a6 | exact hI.a7 | exact hI.a8 | exact hI.a11 | exact hI.a12 | exact hI.a13 | exact hI.a15 | exact hI.d4 | exact hI.d9 | exact hI.d10 | exact hI.d14 | exact hI.d15 | skip
                  · have e1 := hD.out 4 88 (by simp [hdep]) rfl
                    have e2 := hD.out 9 93 (by simp [hdep]) rfl
                    have l4 : L 4 = true := by simp [hdep]
                    have l9 : L 9 = true := by simp [hdep]
                    have n14 : L 14 = false := no_of hI.d14 hL
                    have n15 : L 15 = false := no_of (fun h => (hI.d15 h).2.2) n14
                    have hown := hI.a4 l4 hL
                    obtain ⟨g, f1, f2, f3, _, f4⟩ := hI.a9 l9 hL
                    rw [f1] at e2
                    refine stepI_app_str rfl _ _ rfl wq.heap.size (vals 4) (ss.take kk) e1 hown (some ⟨g, 0, none⟩) 1 [ct] e2 (strs_one f3) (fun h => by cases h) (by rw [List.length_take, HM.out]; simp; omega) hsw ?_
                    intro v' w' hown' hgr hat
                    have hbel := hI.bel.grown hgr hsw hown.lt
                    constructor <;> (try simp [updL, updV, n14, n15, l4, l9]) <;> first | exact hbel | exact hown' | exact hI.d4 l4 | exact hI.a1 | exact hI.a2 | exact hI.a3 | exact hI.a5 | exact hI.a6 | exact hI.a7 | exact hI.a8 | exact hI.a11 | exact hI.a12 | exact hI.a13 | exact hI.a15 | exact hI.d4 | exact hI.d9 | exact hI.d10 | exact hI.d14 | exact hI.d15
                  · have n15 : L 15 = false := no_of (fun h => (hI.d15 h).2.1) hL
                    have h5 := H5.out n15
                    refine step_run rfl (v := .slice pa m ca) (w' := w) (by go_simp) ?_
                    constructor <;> (try simp [updL, updV, n15]) <;> first | exact hI.bel | exact hI.a0 | exact hI.a1 | exact hI.a2 | exact hI.a3 | exact hI.a4 | exact hI.a5 | exact hI.a6 | exact hI.a7 | exact hI.a8 | exact hI.a9 | exact hI.a10 | exact hI.a11 | exact hI.a12 | exact hI.a13 | exact hI.a14 | exact hI.a15 | exact hI.d4 | exact hI.d9 | exact hI.d10 | exact hI.d14 | exact hI.d15
                  · refine step_run rfl (v := .int .i64 kk) (w' := w) (by go_simp) ?_
                    constructor <;> (try simp [updL, updV]) <;> first | exact hI.bel | exact hI.a0 | exact hI.a1 | exact hI.a2 | exact hI.a3 | exact hI.a4 | exact hI.a5 | exact hI.a6 | exact hI.a7 | exact hI.a8 | exact hI.a9 | exact hI.a10 | exact hI.a11 | exact hI.a12 | exact hI.a13 | exact hI.a14 | exact hI.a15 | exact hI.d4 | exact hI.d9 | exact hI.d10 | exact hI.d14 | exact hI.d15
                  · have e1 := hD.out 11 95 (by simp [hdep]) rfl
                    have e2 := hD.out 12 96 (by simp [hdep]) rfl
                    rw [hI.a11 (by simp [hdep])] at e1
                    rw [hI.a12 (by simp [hdep])] at e2
                    refine step_run rfl (v := .slice (hiP pa ca kk) ms (ca - kk)) (w' := w) (by rw [← HMS.out]; exact slice_hi pa m ca kk (by omega) hla HPC.out _ a w 95 96 rfl e1 e2) ?_
                    constructor <;> (try simp [updL, updV]) <;> first | exact hI.bel | exact hI.a0 | exact hI.a1 | exact hI.a2 | exact hI.a3 | exact hI.a4 | exact hI.a5 | exact hI.a6 | exact hI.a7 | exact hI.a8 | exact hI.a9 | exact hI.a10 | exact hI.a11 | exact hI.a12 | exact hI.a13 | exact hI.a14 | exact hI.a15 | exact hI.d4 | exact hI.d9 | exact hI.d10 | exact hI.d14 | exact hI.d15
                  · have e1 := hD.out 10 94 (by simp [hdep]) rfl
                    have e2 := hD.out 13 97 (by simp [hdep]) rfl
                    have l10 : L 10 = true := by simp [hdep]
                    have l4 := hI.d10 l10
                    have n15 : L 15 = false := no_of (fun h => (hI.d15 h).2.2) hL
                    rw [hI.a13 (by simp [hdep])] at e2
                    have hown := hI.a10 l10 hL
                    refine stepI_app_str rfl _ _ rfl wq.heap.size (vals 10) (ss.take kk ++ [ct]) e1 hown (hiP pa ca kk) (ca - kk) (ss.drop kk) (by rw [show (ss.drop kk).length = ms by rw [List.length_drop, HM.out]; exact HMS.out]; exact e2) (strs_hi (HRq.out.below hI.bel) (by rw [HM.out]; exact hla)) (fun h => by cases pa with | none => rw [HPC.out rfl, Nat.zero_sub] | some ad => cases h) (by rw [List.length_append, List.length_take, List.length_drop, HM.out]; simp; omega) hsw ?_
                    intro v' w' hown' hgr hat
                    have hbel := hI.bel.grown hgr hsw hown.lt
                    have hown2 : OwnS w' wq.heap.size v' (insL ss ct kk) := hown'
                    constructor <;> (try simp [updL, updV, n15, l10, l4]) <;> first | exact hbel | exact hown2 | exact hI.d4 l4 | exact hI.d9 l10 | exact hI.a1 | exact hI.a2 | exact hI.a3 | exact hI.a5 | exact hI.a6 | exact hI.a7 | exact hI.a8 | exact hI.a11 | exact hI.a12 | exact hI.a13 | exact hI.a15 | exact hI.d4 | exact hI.d9 | exact hI.d10 | exact hI.d14 | exact hI.d15
                  · have e1 := hD.out 14 98 (by simp [hdep]) rfl
                    refine step_run rfl (v := vals 14) (w' := w) (by go_simp) ?_
                    constructor <;> (try simp [updL, updV]) <;> first | exact ⟨by simp [hdep], by simp [hdep], by simp [hdep]⟩ | exact hI.bel | exact hI.a0 | exact hI.a1 | exact hI.a2 | exact hI.a3 | exact hI.a4 | exact hI.a5 | exact hI.a6 | exact hI.a7 | exact hI.a8 | exact hI.a9 | exact hI.a10 | exact hI.a11 | exact hI.a12 | exact hI.a13 | exact hI.a14 | exact hI.a15 | exact hI.d4 | exact hI.d9 | exact hI.d10 | exact hI.d14 | exact hI.d15
                · intro vals w hI
                  have HO := Lib.hid (show OwnS w (G + 1) (vals 15) (insL ss ct kk) from by
                    rw [hI.a15 rfl]
                    exact ownS_mono (hI.a14 rfl) HZq.out)
                  have HIL := Lib.hid (insL_len ss ct kk (by rw [HM.out]; omega))
                  have HGn := Lib.hid (HGq.out.below hI.bel)
                  have HCn := Lib.hid (HCq.out.trans (.of_below hI.bel))
                  simp only [putsL, Act.put, List.setIfInBounds_toArray, List.set_cons_zero, List.set_cons_succ]
                  clear hI c1q HRq HLT HRA HA
                  generalize vals 15 = va at HO ⊢
                  go_wp2_with fail
                  go_roundg (n - (i + 1))
                  case measure => omega
                  case rel => exact ⟨i + 1, insL ss ct kk, _, by omega, by omega, by go_num, by rw [HIL.out, HM.out]; omega, Lib.hid HK2.out.1, HO, HGn, HCn⟩
        · have hltz : ¬ (i : Int) < (n : Int) := by omega
          have hm100 : m ≤ 100 := by omega
          clear hwo wo
          go_wp2_with fail
          clear hltz hlt hgg
          obtain ⟨w4, hw4⟩ : ∃ w4, w4 = wr := ⟨_, rfl⟩
          rw [← hw4] at HGt HC HA HRA HBW HZr ⊢
          clear hw4
          have HC4 := Lib.hid (show w4.cell? ⟨W.heap.size, 0, none⟩ = some (.int .u8 (stop : Nat)) by rw [HC.out.cell (by have := HZ2.out; have := HGW.out; omega) (by have := HGW.out; omega)]; exact HC2.out)
          have HZ4 := Lib.hid (show W.heap.size < w4.heap.size by have := HZr.out; have := HGW.out; omega)
          go_loopg [12, 13] m (fun gg v12 v13 wr => ∃ q : Nat, q ≤ m ∧ m - q ≤ gg ∧ v13 = .int .i64 q ∧ Hid (OwnS wr w4.heap.size v12 (wantL fr (1 + stop) ss q)) ∧ Hid (Below w4.heap.size w4 wr))
          case atStart => exact ⟨0, by omega, by omega, rfl, Lib.hid (by simpa [wantL, geF] using OwnS.nil _ _), Lib.hid (Below.refl _ _)⟩
          case round =>
            obtain ⟨q, hqm, hqg, rfl, HO, HBq⟩ := hrel
            obtain ⟨pw, cw, hvw, hlw, hpw, hrw⟩ := HO.out.row
            subst hvw
            have hwl := want_len fr (1 + stop) ss q
            obtain ⟨lw, hlwe⟩ : ∃ lw, (wantL fr (1 + stop) ss q).length = lw := ⟨_, rfl⟩
            have HLW := Lib.hid hlwe
            have HRW := Lib.hid hrw
            rw [hlwe] at hlw hwl HO ⊢
            clear hlwe hrw hpw
            have c5 : wr.cell? ⟨W.heap.size, 0, none⟩ = some (.int .u8 (stop : Nat)) := by rw [HBq.out.cell (p := ⟨W.heap.size, 0, none⟩) HZ4.out]; exact HC4.out
            have hzq := HBq.out.size
            by_cases hql : q < m
            · have hqlz : (q : Int) < (m : Int) := by omega
              obtain ⟨b2, o2, rfl, hb2, c2⟩ := str_cell HRA.out HBq.out (show q < ss.length by rw [HM.out]; exact hql)
              obtain ⟨a2, ha2⟩ : ∃ a2, ss.getD q ByteArray.empty = a2 := ⟨_, rfl⟩
              rw [ha2] at c2
              have HA2 := Lib.hid ha2
              clear ha2
              cases hl : slt a2 fr with
              | true =>
                have hl' : Op.bytesLess a2.toList fr.toList = true := hl
                have HW' := Lib.hid (want_no (M := 1 + stop) (show q < ss.length by rw [HM.out]; exact hql) (.inl (by rw [HA2.out]; exact hl)))
                clear hl
                go_wp2_with fail
                go_roundg (m - (q + 1))
                case measure => omega
                case rel => exact ⟨q + 1, by omega, by omega, by go_num, by rw [HW'.out]; exact HO, HBq⟩
              | false =>
                have hl' : Op.bytesLess a2.toList fr.toList = false := hl
                have HL' := Lib.hid hl
                clear hl
                by_cases hfull : lw < 1 + stop
                · have hfz : (lw : Int) < 1 + (stop : Int) := by omega
                  have HW' := Lib.hid (want_yes (M := 1 + stop) (show q < ss.length by rw [HM.out]; exact hql) (by rw [HA2.out]; exact HL'.out) (by rw [HLW.out]; exact hfull))
                  go_wp2_with (at_builtin; refine wpList_app_str rfl _ _ rfl w4.heap.size _ (wantL fr (1 + stop) ss q) rfl (HO.out.alloc _) ⟨wr.heap.size, 0, none⟩ 1 [a2] rfl (strs_one (by rw [World.cell?_alloc_new]; rfl)) (by rw [HLW.out]; simp; omega) (by simp; omega) ?_)
                  intro v' w' hown hgr
                  have HBq' := Lib.hid ((HBq.out.alloc hzq (.cells #[.string a2] 9)).grown hgr (by simp; omega) (fun g hg => HO.out.lt g hg))
                  have HO' := Lib.hid (show OwnS w' w4.heap.size v' (wantL fr (1 + stop) ss (q + 1)) by rw [HW'.out, HA2.out]; exact hown)
                  clear hown hgr c5 c2
                  go_wp2_with fail
                  go_roundg (m - (q + 1))
                  case measure => omega
                  case rel => exact ⟨q + 1, by omega, by omega, by go_num, HO', HBq'⟩
                · have hfz : ¬ (lw : Int) < 1 + (stop : Int) := by omega
                  have HW' := Lib.hid (want_no (M := 1 + stop) (show q < ss.length by rw [HM.out]; exact hql) (.inr (by rw [HLW.out]; exact hfull)))
                  go_wp2_with fail
                  go_roundg (m - (q + 1))
                  case measure => omega
                  case rel => exact ⟨q + 1, by omega, by omega, by go_num, by rw [HW'.out]; exact HO, HBq⟩
            · have hqlz : ¬ (q : Int) < (m : Int) := by omega
              have hqe : q = m := by omega
              have HWE := Lib.hid (show wantL fr (1 + stop) ss q = (geF fr ss).take (1 + stop) by unfold wantL; rw [show ss.take q = ss from List.take_of_length_le (by rw [HM.out]; omega)])
              have HGr := Lib.hid (HGt.out.below HBq.out)
              have HRAr := Lib.hid (HRA.out.below HBq.out)
              obtain ⟨w5, hw5⟩ : ∃ w5, wr.alloc (.cells #[.slice none 0 0] 35) = w5 := ⟨_, rfl⟩
              have hb5 : Below wr.heap.size wr w5 := hw5 ▸ (Below.refl _ _).alloc (Nat.le_refl _) _
              have z5 : w5.heap.size = wr.heap.size + 1 := by rw [← hw5]; simp
              have hj5 : TxJ w5 wr.heap.size [] w5 := ⟨by omega, ⟨_, by rw [← hw5]; simp [go_sem], OwnS.nil _ _⟩, by rw [← hw5]; simp [go_sem], Chg.of_below (Below.refl _ _)⟩
              obtain ⟨g1, g2, pg, g3, g4⟩ := HGr.out
              have g3' : w5.heap[G]? = _ := (hb5.block G (by omega)).trans g3
              have g4' : TrSi (fun j => j ≠ wr.heap.size) w5 pg t := TrS.below (TrS.mono (fun j _ h => by omega) g4) hb5
              obtain ⟨ok1, ok2⟩ := tx_run (1 + stop) (by omega) (fromT cS fr t) [] (by show 0 < 1 + stop; omega)
              rw [from_keys HKY.out fr, List.length_nil, Nat.sub_zero, List.nil_append] at ok2
              have CW := Lib.hid (gwalk_anySi (tx_see wr.heap.size W.heap.size stop w5 hst (by have := HZ4.out; omega) (by have := HZ4.out; omega) (by rw [hb5.cell (p := ⟨W.heap.size, 0, none⟩) (by have := HZ4.out; show W.heap.size < _; omega)]; exact c5)) tx_ord G
                (fun s w h => ⟨by have := h.chg.size; omega, by rw [h.chg.cell (by omega) (by omega)]; exact cell_at g3' 0⟩) fr trivial t pg g4' (fun _ _ => trivial) [] ok1 w5 hj5 (by omega) (cell_at g3' 1))
              rw [ok2, ← HWE.out] at CW
              have HZ5 := Lib.hid z5
              have HB5 := Lib.hid hb5
              have HW5 := Lib.hid hw5
              have HGB := Lib.hid g1
              clear hb5 z5 hj5 g1 g2 g3 g4 g3' g4' ok1 ok2 hw5 c5 hqe
              go_wp2_with fail
              rw [HW5.out]
              refine CW.out.mono ?_
              rintro e w6 ⟨rfl, hj6⟩
              obtain ⟨ug, c6, hu⟩ := hj6.cell
              obtain ⟨pq, cq, rfl, hlq, hpq, hrq⟩ := hu.row
              rw [HLW.out] at c6 hlq
              have HB6 := Lib.hid (show Below wr.heap.size wr w6 from HB5.out.trans (hj6.chg.below (Nat.le_refl _) (by have := HZ5.out; omega)))
              have HGq := Lib.hid (HGr.out.below HB6.out)
              have HRq := Lib.hid hrq
              have HRWq := Lib.hid (HRW.out.below HB6.out)
              have HZ6 := Lib.hid (show wr.heap.size < w6.heap.size by have := hj6.chg.size; have := HZ5.out; omega)
              have HWB := Lib.hid (show Below W.heap.size W w6 from (HBW.out.trans (HBq.out.mono (by have := HZ4.out; omega))).trans (HB6.out.mono (by have := HZ4.out; omega)))
              have HC6 := Lib.hid c6
              have HPQ := Lib.hid hpq
              clear hj6 hu hrq hpq CW HB5 HW5
              go_wp2_with fail
              obtain ⟨mg, hmg⟩ : ∃ mg, wr.heap.size = mg := ⟨_, rfl⟩
              rw [hmg] at HC6 HZ6 ⊢
              clear hmg c6
              go_loopg [15] lw (fun gg v15 wr => ∃ y : Nat, y ≤ lw ∧ lw - y ≤ gg ∧ v15 = .int .i64 y ∧ Hid (Below w6.heap.size w6 wr))
              case atStart => exact ⟨0, by omega, by omega, rfl, Lib.hid (Below.refl _ _)⟩
              case round =>
                obtain ⟨y, hyl, hyg, rfl, HBy⟩ := hrel
                have c6 : wr.cell? ⟨mg, 0, none⟩ = some (.slice pq lw cq) := by rw [HBy.out.cell (p := ⟨mg, 0, none⟩) HZ6.out]; exact HC6.out
                by_cases hyw : y < lw
                · have hywz : (y : Int) < (lw : Int) := by omega
                  obtain ⟨b3, o3, rfl, hb3, c3⟩ := str_cell HRq.out HBy.out (show y < (wantL fr (1 + stop) ss q).length by rw [HLW.out]; exact hyw)
                  obtain ⟨b4, o4, rfl, hb4, c4⟩ := str_cell HRWq.out HBy.out (show y < (wantL fr (1 + stop) ss q).length by rw [HLW.out]; exact hyw)
                  obtain ⟨a3, ha3⟩ : ∃ a3, (wantL fr (1 + stop) ss q).getD y ByteArray.empty = a3 := ⟨_, rfl⟩
                  rw [ha3] at c3 c4
                  clear ha3
                  go_wp2_with fail
                  go_quiet (fail)
                  go_wp2_with fail
                  go_roundg (lw - (y + 1))
                  case measure => omega
                  case rel => exact ⟨y + 1, by omega, by omega, by go_num, Lib.hid (below_drewN HBy.out _)⟩
                · have hywz : ¬ (y : Int) < (lw : Int) := by omega
                  have CL := Lib.hid (glen_anySi (HGq.out.below HBy.out) (by rw [HKY.out.many, HM.out]; omega))
                  rw [HKY.out.many, HM.out] at CL
                  go_wp2_with fail
                  refine CL.out.mono ?_
                  rintro e wz ⟨rfl, rfl⟩
                  go_wp2_with fail
                  go_ret
                  exact ⟨rfl, HWB.out.trans (HBy.out.mono HWB.out.size)⟩

theorem texts_args (cs : List ByteArray) (p : Option Addr) (c : Nat) (fr : ByteArray) (x : Int) (W : World) (hs : Strs W p cs) (hn : cs.length ≤ 9223372036854775807) (hx : ∀ s ∈ cs, s.size ≤ 9223372036854775807) (hfr : fr.size ≤ 9223372036854775807) (hw : (Lit.int .u8 x).wf = true) :
    Calls Try.prog 4 #[.slice p cs.length c, .string fr, .int .u8 x] W fun e w' => e = .returned (.bool true) ∧ Below W.heap.size W w' := by
  obtain ⟨k, hk, rfl⟩ := nat_u8 hw
  exact texts_walk cs p c fr k W hs hn hx hfr hk
end Go.Proofs.Ytaghflionakhhaa
