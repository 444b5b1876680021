/-
  SpanCuts: the walk.
-/
import Derived.Test.YtafmglnjheeajaaSpIns
namespace Go.Proofs.Ytafmglnjheeajaa
open Go.RowKit Go.Gz

/-- how many of the parts ahead of place i have the key, to the last. -/
def cntN (ss : List ByteArray) (k : ByteArray) (i : Nat) : Nat := if i ≤ ss.length then cntAt ss k i else 1
theorem cntN_step {ss : List ByteArray} (h : AscL ss) (k : ByteArray) {i : Nat} (hi : i ≤ ss.length) : cntN ss k (i + 1) = cntN ss k i + if hasB (spAt ss i) k = true then 1 else 0 := by
  unfold cntN
  rw [if_pos hi]
  by_cases hl : i < ss.length
  · rw [if_pos (by omega)]; exact cnt_step h k hl
  · obtain rfl : i = ss.length := by omega
    rw [if_neg (by omega)]; exact (cnt_last ss k).symm
theorem cntN_zero (ss : List ByteArray) (k : ByteArray) : cntN ss k 0 = 0 := by unfold cntN; rw [if_pos (Nat.zero_le _)]; exact cnt_zero ss k
theorem cntN_end (ss : List ByteArray) (k : ByteArray) : cntN ss k (ss.length + 1) = 1 := by unfold cntN; rw [if_neg (by omega)]
theorem spans_drop {w : World} {b o : Nat} {ls : List SP} (h : Spans w (some ⟨b, o, none⟩) ls) : Spans w (some ⟨b, o + 2, none⟩) (ls.drop 1) := by
  rcases h with h | ⟨b', o', hp, hl, hc⟩
  · exact Or.inl (by rw [h, List.drop_nil])
  · injection hp with hp
    injection hp with h1 h2
    subst h1; subst h2
    refine Or.inr ⟨b, o + 2, rfl, hl, fun j hj => ?_⟩
    rw [List.length_drop] at hj
    have e : (ls.drop 1)[j]! = ls[j + 1]! := by
      rw [getElem!_pos _ j (by rw [List.length_drop]; omega), getElem!_pos ls (j + 1) (by omega), List.getElem_drop]
      congr 1; omega
    have := hc (j + 1) (by omega)
    rw [e, show o + 2 + j * 2 = o + (j + 1) * 2 by omega]
    exact this
theorem ownS_one (w : World) (B : Nat) (hB : B ≤ w.heap.size) (s : ByteArray) : OwnS (w.alloc (.cells #[.string s] 9)) B (.slice (some ⟨w.heap.size, 0, none⟩) 1 1) [s] :=
  ⟨rfl, Or.inr ⟨w.heap.size, 1, #[.string s], rfl, hB, by show (w.heap.push _)[w.heap.size]? = _; simp, Nat.le_refl _, by unfold maxLen; omega, rfl, rfl⟩⟩
theorem wpList_app_str {w : World} {ops : Array Oper} {rest : List Oper} {o : Oper} {a : Act} {Q : Exit → Act → World → Prop}
    (hg : o.guard = none) (s x : Operand) (hop : o.op = Op.call { callee := Callee.builtin Builtin.append, args := #[s, x], argTypes := #[32, 32] })
    (B : Nat) (v : Value) (ss : List ByteArray) (hs : a.eval s = v) (hown : OwnS w B v ss)
    (ad : Addr) (c : Nat) (ys : List ByteArray) (hx : a.eval x = .slice (some ad) ys.length c) (hrow : Strs w (some ad) ys) (hlen : ss.length + ys.length ≤ 1000000) (hB : B ≤ w.heap.size)
    (hK : ∀ v' w', OwnS w' B v' (ss ++ ys) → w.grownBy w' v.ownBlock → wpList Try.prog ops Q rest (a.put o.dst v') w') :
    wpList Try.prog ops Q (o :: rest) a w := by
  obtain ⟨i0, hi, hz0, hz1, hz2⟩ := info_parts info_str
  refine wpList_append_own w hg s x 32 hop B 9 i0 (.string ⟨#[]⟩) 1 16 Try.underlying32 hi hz0 hz1 hz2 rfl (by decide) v ss.length (ss.map Value.string) hs hown ad ys.length c (ys.map Value.string) hx (by simp) ?_ ?_ (by unfold maxLen; omega) (by omega) hB ?_
  · intro j u hj
    obtain ⟨hj', rfl⟩ := List.getElem?_eq_some_iff.1 hj
    simp only [List.length_map] at hj'
    rcases hrow with h | ⟨b, off, hp', _, hc⟩
    · rw [h] at hj'; simp at hj'
    · cases hp'
      rw [Addr.add_lit, hc j hj']
      simp [List.getD, hj']
  · intro u hu
    obtain ⟨y, _, rfl⟩ := List.mem_map.1 hu
    rfl
  · intro v' w' ho hgr _
    refine hK v' w' ?_ hgr
    unfold OwnS
    rw [List.length_append, List.map_append]
    exact ho

set_option maxHeartbeats 8000000 in
set_option maxRecDepth 100000 in
theorem cuts_walk (cs : List ByteArray) (p : Option Addr) (c : Nat) (k : ByteArray) (W : World) (hs : Strs W p cs) (hn : cs.length ≤ 9223372036854775807) (hx : ∀ s ∈ cs, s.size ≤ 9223372036854775807) (hk : k.size ≤ 9223372036854775807) :
    Calls Try.prog 5 #[.slice p cs.length c, .string k] W fun e w' => e = .returned (.bool true) ∧ Below W.heap.size W w' := by
  have mx := mixedS
  have C0 := Lib.hid (awake_true W)
  have HS := Lib.hid hs; clear hs
  have HXS := Lib.hid hx; clear hx
  obtain ⟨n, hln⟩ : ∃ n, cs.length = n := ⟨_, rfl⟩
  have HN := Lib.hid hln
  rw [hln] at hn ⊢
  clear hln
  go_enter Try.func5, Try.ntmps5
  go_wp2_with fail
  refine C0.out.mono ?_
  rintro e w1 ⟨rfl, hb1⟩
  have HB1 := Lib.hid hb1
  have hs1 := hb1.size
  clear hb1 C0
  by_cases h30 : 30 < n
  · have h30z : (30 : Int) < (n : Int) := by omega
    go_wp2_with fail
    go_ret
    exact ⟨rfl, HB1.out⟩
  · have h30z : decide ((30 : Int) < (n : Int)) = false := decide_eq_false (by omega)
    by_cases h300 : 300 < k.size
    · have h300z : (300 : Int) < (k.size : Int) := by omega
      go_wp2_with fail
      go_ret
      exact ⟨rfl, HB1.out⟩
    · have h300z : decide ((300 : Int) < (k.size : Int)) = false := decide_eq_false (by omega)
      go_wp2_with fail
      go_loopg [5, 6, 7] n (fun gg va vi _ wr => ∃ (i : Nat) (ss : List ByteArray), i ≤ n ∧ n - i ≤ gg ∧ vi = .int .i64 i ∧ ss.length ≤ i ∧ Hid (AscL ss) ∧ Hid (OwnS wr w1.heap.size va ss) ∧ Hid (Below w1.heap.size w1 wr))
      case atStart => exact ⟨0, [], by omega, by omega, rfl, by simp, Lib.hid (fun i hi => by simp at hi), Lib.hid (OwnS.nil _ _), Lib.hid (Below.refl _ _)⟩
      case round =>
        obtain ⟨i, ss, hin, hgg, rfl, hsi, HASC, HA, HBr⟩ := hrel
        have hsz := HBr.out.size
        obtain ⟨pa, ca, hva, hla, hpa, hra⟩ := HA.out.row
        subst hva
        obtain ⟨m, hm⟩ : ∃ m, ss.length = m := ⟨_, rfl⟩
        have HM := Lib.hid hm
        have HRA := Lib.hid hra
        have HPC := Lib.hid hpa
        rw [hm] at hla hsi HA ⊢
        clear hm hra hpa
        obtain ⟨wo, rfl⟩ : ∃ wo : World, wo = wr := ⟨_, rfl⟩
        by_cases hlt : i < n
        · have hltz : (i : Int) < (n : Int) := by omega
          obtain ⟨b, o, rfl, hbl, c1⟩ := str_cell HS.out (HB1.out.trans (HBr.out.mono hs1)) (show i < cs.length by rw [HN.out]; exact hlt)
          obtain ⟨ct, hct⟩ : ∃ ct, cs.getD i ByteArray.empty = ct := ⟨_, rfl⟩
          rw [hct] at c1
          have hcts : ct.size ≤ 9223372036854775807 := by
            rw [← hct]
            refine HXS.out _ ?_
            simp only [List.getD, List.getElem?_eq_getElem (show i < cs.length by rw [HN.out]; exact hlt), Option.getD_some]
            exact List.getElem_mem _
          clear hct
          by_cases h3 : 300 < ct.size
          · have h3z : (300 : Int) < (ct.size : Int) := by omega
            go_wp2_with fail
            go_ret
            exact ⟨rfl, HB1.out.trans (HBr.out.mono hs1)⟩
          · have h3z : decide ((300 : Int) < (ct.size : Int)) = false := decide_eq_false (by omega)
            by_cases he : ct.toList = []
            · go_wp2_with fail
              go_ret
              exact ⟨rfl, HB1.out.trans (HBr.out.mono hs1)⟩
            · have heb : ct.toList.isEmpty = false := by simpa using he
              have HSE := Lib.hid (show sem ct = false from heb)
              clear he
              go_wp2_with fail
              go_loopg [7] m (fun gg vk wr => ∃ kk : Nat, kk ≤ m ∧ m - kk ≤ gg ∧ vk = .int .i64 kk ∧ Hid (∀ j, j < kk → slt (ss.getD j sE) ct = true) ∧ Hid (OwnS wr w1.heap.size (.slice pa m ca) ss) ∧ Hid (Below wo.heap.size wo wr))
              case atStart => exact ⟨0, by omega, by omega, rfl, Lib.hid (fun j hj => by omega), HA, Lib.hid (Below.refl _ _)⟩
              case round =>
                obtain ⟨kk, hkm, hkg, rfl, HLT, HAk, HBk⟩ := hrel
                have hbk : b < wo.heap.size := by omega
                have c1k : wr.cell? ⟨b, o + i, none⟩ = some (.string ct) := by rw [HBk.out.cell (p := ⟨b, o + i, none⟩) hbk]; exact c1
                by_cases hkl : kk < m
                · have hklz : (kk : Int) < (m : Int) := by omega
                  obtain ⟨b2, o2, rfl, hb2, c2⟩ := str_cell HRA.out HBk.out (show kk < ss.length by rw [HM.out]; exact hkl)
                  obtain ⟨a2, ha2⟩ : ∃ a2, ss.getD kk ByteArray.empty = a2 := ⟨_, rfl⟩
                  rw [ha2] at c2
                  have HA2 := Lib.hid ha2
                  clear ha2
                  cases hl : slt a2 ct with
                  | true =>
                    have hl' : Op.bytesLess a2.toList ct.toList = true := hl
                    have HL' := Lib.hid hl
                    clear hl
                    go_wp2_with fail
                    go_quiet (fail)
                    go_wp2_with fail
                    go_roundg (m - (kk + 1))
                    case measure => omega
                    case rel => exact ⟨kk + 1, by omega, by omega, by go_num, Lib.hid (fun j hj => by
                      by_cases e : j = kk
                      · rw [e]; show slt (ss.getD kk ByteArray.empty) ct = true; rw [HA2.out]; exact HL'.out
                      · exact HLT.out j (by omega)), Lib.hid HAk.out, Lib.hid (below_drewN HBk.out _)⟩
                  | false =>
                    have hl' : Op.bytesLess a2.toList ct.toList = false := hl
                    have HL' := Lib.hid hl
                    clear hl
                    have HBx := Lib.hid (HBr.out.trans (HBk.out.mono hsz))
                    by_cases heq : a2.toList = ct.toList
                    · have heb2 : (a2.toList == ct.toList) = true := by simp [heq]
                      clear heq
                      go_wp2_with fail
                      go_quiet (fail)
                      go_wp2_with fail
                      go_quiet (fail)
                      go_wp2_with fail
                      go_roundg (n - (i + 1))
                      case measure => omega
                      case rel => exact ⟨i + 1, ss, by omega, by omega, by go_num, by rw [HM.out]; omega, HASC, Lib.hid HAk.out, Lib.hid (below_drewN HBx.out _)⟩
                    · have heb2 : (a2.toList == ct.toList) = false := by simp [heq]
                      have HGT := Lib.hid (show slt ct a2 = true from by
                        cases hg : slt ct a2 with
                        | true => rfl
                        | false => exact absurd (by rw [slt_total HL'.out hg]) heq)
                      clear heq
                      go_wp2_with fail
                      go_quiet (fail)
                      go_wp2_with fail
                      go_quiet (fail)
                      go_wp2_with fail
                      have HASC2 := Lib.hid (HASC.out.ins (c := ct) (k := kk) (by rw [HM.out]; omega) HSE.out (fun h => HLT.out (kk - 1) (by omega)) (fun h => by show slt ct (ss.getD kk ByteArray.empty) = true; rw [HA2.out]; exact HGT.out))
                      generalize hpe : (some (⟨b2, o2, none⟩ : Addr)) = pa at *
                      have HBy := fun q1 q2 => below_drewN (below_drewN HBx.out q1) q2
                      have HRy := fun q1 q2 => HRA.out.below (below_drewN (below_drewN HBk.out q1) q2)
                      have hcy : ∀ q1 q2, ((wr.drewN q1).drewN q2).cell? ⟨b, o + i, none⟩ = some (.string ct) := fun _ _ => c1k
                      have hby : ∀ q1 q2, b < ((wr.drewN q1).drewN q2).heap.size := fun _ _ => Nat.lt_of_lt_of_le hbk HBk.out.size
                      generalize hwq : World.drewN (World.drewN wr _) _ = wq
                      have HBy := Lib.hid (show Below w1.heap.size w1 wq from hwq ▸ HBy _ _)
                      have HRq := Lib.hid (show Strs wq pa ss from hwq ▸ HRy _ _)
                      have c1q : wq.cell? ⟨b, o + i, none⟩ = some (.string ct) := hwq ▸ hcy _ _
                      have hbq : b < wq.heap.size := hwq ▸ hby _ _
                      clear hwq HRy hcy hby c1k c1
                      obtain ⟨ms, hms⟩ : ∃ ms, m - kk = ms := ⟨_, rfl⟩
                      have HMS := Lib.hid hms
                      clear hms
                      refine wp_region_inv mx (by kernel_rfl) (InsI wq (.slice pa m ca) (.slice (some ⟨b, o, none⟩) n c) (.slice pa kk ca) (.slice (hiP pa ca kk) ms (ca - kk)) ⟨b, o + i, none⟩ kk i ss ct) ?_ ?_ ?_
                      · intro vals
                        constructor <;> first | exact (Below.refl _ _).drew | (intro h; cases h)
                      · intro ix ox L vals w hi hL hdep hI
                        have hlt16 : ix < 16 := by
                          have := (List.getElem?_eq_some_iff.1 hi).1
                          simpa using this
                        generalize hA : frA _ _ L vals = a
                        have h0 : a.tmps.getD 0 undef = .slice (some ⟨b, o, none⟩) n c := by rw [← hA, frA_base (by kernel_rfl)]; rfl
                        have h6 : a.tmps.getD 6 undef = .int .i64 i := by rw [← hA, frA_base (by kernel_rfl)]; rfl
                        have h7 : a.tmps.getD 7 undef = .int .i64 kk := by rw [← hA, frA_base (by kernel_rfl)]; rfl
                        have H5 := Lib.hid (show L 15 = false → a.tmps.getD 5 undef = .slice pa m ca from fun h15 => by rw [← hA, frA_wait (by kernel_rfl) (k := 15) rfl h15]; rfl)
                        have hD := Lib.hid (fun k t (hk : L k = true) (ht : dstOf _ k = some t) => hA ▸ frA_done (by kernel_rfl) (vals := vals) hk ht)
                        clear hA
                        have cx : w.cell? ⟨b, o + i, none⟩ = some (.string ct) := by rw [hI.bel.cell (p := ⟨b, o + i, none⟩) hbq]; exact c1q
                        have hsw := hI.bel.size
                        obtain rfl | rfl | rfl | rfl | rfl | rfl | rfl | rfl | rfl | rfl | rfl | rfl | rfl | rfl | rfl | rfl : ix = 0 ∨ ix = 1 ∨ ix = 2 ∨ ix = 3 ∨ ix = 4 ∨ ix = 5 ∨ ix = 6 ∨ ix = 7 ∨ ix = 8 ∨ ix = 9 ∨ ix = 10 ∨ ix = 11 ∨ ix = 12 ∨ ix = 13 ∨ ix = 14 ∨ ix = 15 := by omega
                        all_goals
                          injection hi with hi
                          subst hi
                          simp [Region.binds] at hdep
                        · have n4 : L 4 = false := no_of hI.d4 hL
                          have n10 : L 10 = false := no_of hI.d10 n4
                          have hbel := hI.bel.alloc hI.bel.size (.cells #[] 9)
                          have hnew := ownS_made w wq.heap.size hsw
                          have h9 : L 9 = true → ∃ g, vals 9 = .slice (some ⟨g, 0, none⟩) 1 1 ∧ g < w.heap.size + 1 ∧ (w.alloc (.cells #[] 9)).cell? ⟨g, 0, none⟩ = some (.string ct) ∧ ¬ w.heap.size = g := fun h => by
                            obtain ⟨g, e1, e2, e3, _⟩ := hI.a9 h n10
                            exact ⟨g, e1, by omega, by rw [World.cell?_alloc_lt _ _ ⟨g, 0, none⟩ e2]; exact e3, by omega⟩
                          have n14 : L 14 = false := no_of hI.d14 n10
                          have n15 : L 15 = false := no_of (fun h => (hI.d15 h).2.2) n14
                          refine step_run rfl (v := .slice (some ⟨w.heap.size, 0, none⟩) 0 0) (w' := w.alloc (.cells #[] 9)) (by go_simp) ?_
                          constructor <;> (try simp [updL, updV, n4, n10, n14, n15, Value.ownBlock]) <;> first | exact hbel | exact hnew | exact h9 | exact hI.a1 | exact hI.a2 | exact hI.a3 | exact hI.a5 | exact hI.a6 | exact hI.a7 | exact hI.a8 | exact hI.a11 | exact hI.a12 | exact hI.a13 | exact hI.a15 | exact hI.d4 | exact hI.d9 | exact hI.d10 | exact hI.d14 | exact hI.d15
                        · have n15 : L 15 = false := no_of (fun h => (hI.d15 h).1) hL
                          have h5 := H5.out n15
                          refine step_run rfl (v := .slice pa m ca) (w' := w) (by go_simp) ?_
                          constructor <;> (try simp [updL, updV, n15]) <;> first | exact hI.bel | exact hI.a0 | exact hI.a1 | exact hI.a2 | exact hI.a3 | exact hI.a4 | exact hI.a5 | exact hI.a6 | exact hI.a7 | exact hI.a8 | exact hI.a9 | exact hI.a10 | exact hI.a11 | exact hI.a12 | exact hI.a13 | exact hI.a14 | exact hI.a15 | exact hI.d4 | exact hI.d9 | exact hI.d10 | exact hI.d14 | exact hI.d15
                        · refine step_run rfl (v := .int .i64 kk) (w' := w) (by go_simp) ?_
                          constructor <;> (try simp [updL, updV]) <;> first | exact hI.bel | exact hI.a0 | exact hI.a1 | exact hI.a2 | exact hI.a3 | exact hI.a4 | exact hI.a5 | exact hI.a6 | exact hI.a7 | exact hI.a8 | exact hI.a9 | exact hI.a10 | exact hI.a11 | exact hI.a12 | exact hI.a13 | exact hI.a14 | exact hI.a15 | exact hI.d4 | exact hI.d9 | exact hI.d10 | exact hI.d14 | exact hI.d15
                        · have e1 := hD.out 1 73 (by simp [hdep]) rfl
                          have e2 := hD.out 2 74 (by simp [hdep]) rfl
                          rw [hI.a1 (by simp [hdep])] at e1
                          rw [hI.a2 (by simp [hdep])] at e2
                          refine step_run rfl (v := .slice pa kk ca) (w' := w) (slice_lo pa m ca kk (by omega) hla HPC.out _ a w 73 74 rfl e1 e2) ?_
                          constructor <;> (try simp [updL, updV]) <;> first | exact hI.bel | exact hI.a0 | exact hI.a1 | exact hI.a2 | exact hI.a3 | exact hI.a4 | exact hI.a5 | exact hI.a6 | exact hI.a7 | exact hI.a8 | exact hI.a9 | exact hI.a10 | exact hI.a11 | exact hI.a12 | exact hI.a13 | exact hI.a14 | exact hI.a15 | exact hI.d4 | exact hI.d9 | exact hI.d10 | exact hI.d14 | exact hI.d15
                        · have e1 := hD.out 0 72 (by simp [hdep]) rfl
                          have e2 := hD.out 3 75 (by simp [hdep]) rfl
                          rw [hI.a3 (by simp [hdep])] at e2
                          have n10 : L 10 = false := no_of hI.d10 hL
                          have hown := hI.a0 (by simp [hdep]) hL
                          refine stepI_app_str rfl _ _ rfl wq.heap.size (vals 0) [] e1 hown pa ca (ss.take kk) (by rw [show (ss.take kk).length = kk by rw [List.length_take, HM.out]; omega]; exact e2) (strs_take (HRq.out.below hI.bel) kk) HPC.out (by rw [List.length_take, HM.out]; simp; omega) hsw ?_
                          intro v' w' hown' hgr hat
                          have hbel := hI.bel.grown hgr hsw hown.lt
                          have h4 : OwnS w' wq.heap.size v' (ss.take kk) := hown'
                          have h9 : L 9 = true → ∃ g, vals 9 = .slice (some ⟨g, 0, none⟩) 1 1 ∧ g < w'.heap.size ∧ w'.cell? ⟨g, 0, none⟩ = some (.string ct) ∧ ¬ v'.ownBlock = some g := fun h => by
                            obtain ⟨g, f1, f2, f3, f4, _⟩ := hI.a9 h n10
                            have f5 := f4 (by simp [hdep]) hL
                            refine ⟨g, f1, Nat.lt_of_lt_of_le f2 hgr.size, hgr.cell f3 (fun hc => f5 hc.symm), ?_⟩
                            rcases hat with hat | hat
                            · rw [hat]; exact f5
                            · rw [hat]; intro hc; injection hc with hc; omega
                          have n14 : L 14 = false := no_of hI.d14 n10
                          have n15 : L 15 = false := no_of (fun h => (hI.d15 h).2.2) n14
                          have l0 : L 0 = true := by simp [hdep]
                          constructor <;> (try simp [updL, updV, n10, n14, n15, l0]) <;> first | exact hbel | exact h4 | exact h9 | exact hI.a1 | exact hI.a2 | exact hI.a3 | exact hI.a5 | exact hI.a6 | exact hI.a7 | exact hI.a8 | exact hI.a11 | exact hI.a12 | exact hI.a13 | exact hI.a15 | exact hI.d4 | exact hI.d9 | exact hI.d10 | exact hI.d14 | exact hI.d15
                        · refine step_run rfl (v := .slice (some ⟨b, o, none⟩) n c) (w' := w) (by go_simp) ?_
                          constructor <;> (try simp [updL, updV]) <;> first | exact hI.bel | exact hI.a0 | exact hI.a1 | exact hI.a2 | exact hI.a3 | exact hI.a4 | exact hI.a5 | exact hI.a6 | exact hI.a7 | exact hI.a8 | exact hI.a9 | exact hI.a10 | exact hI.a11 | exact hI.a12 | exact hI.a13 | exact hI.a14 | exact hI.a15 | exact hI.d4 | exact hI.d9 | exact hI.d10 | exact hI.d14 | exact hI.d15
                        · refine step_run rfl (v := .int .i64 i) (w' := w) (by go_simp) ?_
                          constructor <;> (try simp [updL, updV]) <;> first | exact hI.bel | exact hI.a0 | exact hI.a1 | exact hI.a2 | exact hI.a3 | exact hI.a4 | exact hI.a5 | exact hI.a6 | exact hI.a7 | exact hI.a8 | exact hI.a9 | exact hI.a10 | exact hI.a11 | exact hI.a12 | exact hI.a13 | exact hI.a14 | exact hI.a15 | exact hI.d4 | exact hI.d9 | exact hI.d10 | exact hI.d14 | exact hI.d15
                        · have e1 := hD.out 5 77 (by simp [hdep]) rfl
                          have e2 := hD.out 6 78 (by simp [hdep]) rfl
                          rw [hI.a5 (by simp [hdep])] at e1
                          rw [hI.a6 (by simp [hdep])] at e2
                          refine step_run rfl (v := .pointer (some ⟨b, o + i, none⟩)) (w' := w) (by go_simp) ?_
                          constructor <;> (try simp [updL, updV]) <;> first | exact hI.bel | exact hI.a0 | exact hI.a1 | exact hI.a2 | exact hI.a3 | exact hI.a4 | exact hI.a5 | exact hI.a6 | exact hI.a7 | exact hI.a8 | exact hI.a9 | exact hI.a10 | exact hI.a11 | exact hI.a12 | exact hI.a13 | exact hI.a14 | exact hI.a15 | exact hI.d4 | exact hI.d9 | exact hI.d10 | exact hI.d14 | exact hI.d15
                        · have e1 := hD.out 7 79 (by simp [hdep]) rfl
                          rw [hI.a7 (by simp [hdep])] at e1
                          refine step_run rfl (v := .string ct) (w' := w) (by go_simp) ?_
                          constructor <;> (try simp [updL, updV]) <;> first | exact hI.bel | exact hI.a0 | exact hI.a1 | exact hI.a2 | exact hI.a3 | exact hI.a4 | exact hI.a5 | exact hI.a6 | exact hI.a7 | exact hI.a8 | exact hI.a9 | exact hI.a10 | exact hI.a11 | exact hI.a12 | exact hI.a13 | exact hI.a14 | exact hI.a15 | exact hI.d4 | exact hI.d9 | exact hI.d10 | exact hI.d14 | exact hI.d15
                        · have e1 := hD.out 8 80 (by simp [hdep]) rfl
                          rw [hI.a8 (by simp [hdep])] at e1
                          have e1' : a.tmps[80]?.getD undef = .string ct := by rw [← Array.getD_eq_getD_getElem?]; exact e1
                          have n10 : L 10 = false := no_of hI.d9 hL
                          have n14 : L 14 = false := no_of hI.d14 n10
                          have n15 : L 15 = false := no_of (fun h => (hI.d15 h).2.2) n14
                          have hbel := hI.bel.alloc hI.bel.size (.cells #[.string ct] 9)
                          have q0 : L 0 = true → L 4 = false → ¬ (vals 0).ownBlock = some w.heap.size := fun h h' hc => by
                            have := (World.ownsRow.lt (hI.a0 h h') _ hc).2
                            omega
                          have q4 : L 4 = true → ¬ (vals 4).ownBlock = some w.heap.size := fun h hc => by
                            have := (World.ownsRow.lt (hI.a4 h n10) _ hc).2
                            omega
                          have h0' : L 0 = true → L 4 = false → OwnS (w.alloc (.cells #[.string ct] 9)) wq.heap.size (vals 0) [] := fun h h' => (hI.a0 h h').alloc _
                          have h4' : L 4 = true → OwnS (w.alloc (.cells #[.string ct] 9)) wq.heap.size (vals 4) (ss.take kk) := fun h => (hI.a4 h n10).alloc _
                          refine step_run rfl (v := .slice (some ⟨w.heap.size, 0, none⟩) 1 1) (w' := w.alloc (.cells #[.string ct] 9)) (by go_simp) ?_
                          have h9 : ∃ g, w.heap.size = g ∧ g < w.heap.size + 1 ∧ (w.alloc (.cells #[.string ct] 9)).cell? ⟨g, 0, none⟩ = some (.string ct) ∧ (L 0 = true → L 4 = false → ¬ (vals 0).ownBlock = some g) ∧ (L 4 = true → ¬ (vals 4).ownBlock = some g) := ⟨_, rfl, by omega, by rw [World.cell?_alloc_new]; rfl, q0, q4⟩
                          constructor <;> (try simp [updL, updV, n10, n14, n15]) <;> first | exact hbel | exact h0' | exact h4' | exact h9 | exact ⟨q0, q4⟩ | exact hI.a1 | exact hI.a2 | exact hI.a3 | exact hI.a5 | exact hI.a6 | exact hI.a7 | exact hI.a8 | exact hI.a11 | exact hI.a12 | exact hI.a13 | exact hI.a15 | exact hI.d4 | exact hI.d9 | exact hI.d10 | exact hI.d14 | exact hI.d15 | skip
                        · have e1 := hD.out 4 76 (by simp [hdep]) rfl
                          have e2 := hD.out 9 81 (by simp [hdep]) rfl
                          have l4 : L 4 = true := by simp [hdep]
                          have l9 : L 9 = true := by simp [hdep]
                          have n14 : L 14 = false := no_of hI.d14 hL
                          have n15 : L 15 = false := no_of (fun h => (hI.d15 h).2.2) n14
                          have hown := hI.a4 l4 hL
                          obtain ⟨g, f1, f2, f3, _, f4⟩ := hI.a9 l9 hL
                          rw [f1] at e2
                          refine stepI_app_str rfl _ _ rfl wq.heap.size (vals 4) (ss.take kk) e1 hown (some ⟨g, 0, none⟩) 1 [ct] e2 (strs_one f3) (fun h => by cases h) (by rw [List.length_take, HM.out]; simp; omega) hsw ?_
                          intro v' w' hown' hgr hat
                          have hbel := hI.bel.grown hgr hsw hown.lt
                          constructor <;> (try simp [updL, updV, n14, n15, l4, l9]) <;> first | exact hbel | exact hown' | exact hI.d4 l4 | exact hI.a1 | exact hI.a2 | exact hI.a3 | exact hI.a5 | exact hI.a6 | exact hI.a7 | exact hI.a8 | exact hI.a11 | exact hI.a12 | exact hI.a13 | exact hI.a15 | exact hI.d4 | exact hI.d9 | exact hI.d10 | exact hI.d14 | exact hI.d15
                        · have n15 : L 15 = false := no_of (fun h => (hI.d15 h).2.1) hL
                          have h5 := H5.out n15
                          refine step_run rfl (v := .slice pa m ca) (w' := w) (by go_simp) ?_
                          constructor <;> (try simp [updL, updV, n15]) <;> first | exact hI.bel | exact hI.a0 | exact hI.a1 | exact hI.a2 | exact hI.a3 | exact hI.a4 | exact hI.a5 | exact hI.a6 | exact hI.a7 | exact hI.a8 | exact hI.a9 | exact hI.a10 | exact hI.a11 | exact hI.a12 | exact hI.a13 | exact hI.a14 | exact hI.a15 | exact hI.d4 | exact hI.d9 | exact hI.d10 | exact hI.d14 | exact hI.d15
                        · refine step_run rfl (v := .int .i64 kk) (w' := w) (by go_simp) ?_
                          constructor <;> (try simp [updL, updV]) <;> first | exact hI.bel | exact hI.a0 | exact hI.a1 | exact hI.a2 | exact hI.a3 | exact hI.a4 | exact hI.a5 | exact hI.a6 | exact hI.a7 | exact hI.a8 | exact hI.a9 | exact hI.a10 | exact hI.a11 | exact hI.a12 | exact hI.a13 | exact hI.a14 | exact hI.a15 | exact hI.d4 | exact hI.d9 | exact hI.d10 | exact hI.d14 | exact hI.d15
                        · have e1 := hD.out 11 83 (by simp [hdep]) rfl
                          have e2 := hD.out 12 84 (by simp [hdep]) rfl
                          rw [hI.a11 (by simp [hdep])] at e1
                          rw [hI.a12 (by simp [hdep])] at e2
                          refine step_run rfl (v := .slice (hiP pa ca kk) ms (ca - kk)) (w' := w) (by rw [← HMS.out]; exact slice_hi pa m ca kk (by omega) hla HPC.out _ a w 83 84 rfl e1 e2) ?_
                          constructor <;> (try simp [updL, updV]) <;> first | exact hI.bel | exact hI.a0 | exact hI.a1 | exact hI.a2 | exact hI.a3 | exact hI.a4 | exact hI.a5 | exact hI.a6 | exact hI.a7 | exact hI.a8 | exact hI.a9 | exact hI.a10 | exact hI.a11 | exact hI.a12 | exact hI.a13 | exact hI.a14 | exact hI.a15 | exact hI.d4 | exact hI.d9 | exact hI.d10 | exact hI.d14 | exact hI.d15
                        · have e1 := hD.out 10 82 (by simp [hdep]) rfl
                          have e2 := hD.out 13 85 (by simp [hdep]) rfl
                          have l10 : L 10 = true := by simp [hdep]
                          have l4 := hI.d10 l10
                          have n15 : L 15 = false := no_of (fun h => (hI.d15 h).2.2) hL
                          rw [hI.a13 (by simp [hdep])] at e2
                          have hown := hI.a10 l10 hL
                          refine stepI_app_str rfl _ _ rfl wq.heap.size (vals 10) (ss.take kk ++ [ct]) e1 hown (hiP pa ca kk) (ca - kk) (ss.drop kk) (by rw [show (ss.drop kk).length = ms by rw [List.length_drop, HM.out]; exact HMS.out]; exact e2) (strs_hi (HRq.out.below hI.bel) (by rw [HM.out]; exact hla)) (fun h => by cases pa with | none => rw [HPC.out rfl, Nat.zero_sub] | some ad => cases h) (by rw [List.length_append, List.length_take, List.length_drop, HM.out]; simp; omega) hsw ?_
                          intro v' w' hown' hgr hat
                          have hbel := hI.bel.grown hgr hsw hown.lt
                          have hown2 : OwnS w' wq.heap.size v' (insL ss ct kk) := hown'
                          constructor <;> (try simp [updL, updV, n15, l10, l4]) <;> first | exact hbel | exact hown2 | exact hI.d4 l4 | exact hI.d9 l10 | exact hI.a1 | exact hI.a2 | exact hI.a3 | exact hI.a5 | exact hI.a6 | exact hI.a7 | exact hI.a8 | exact hI.a11 | exact hI.a12 | exact hI.a13 | exact hI.a15 | exact hI.d4 | exact hI.d9 | exact hI.d10 | exact hI.d14 | exact hI.d15
                        · have e1 := hD.out 14 86 (by simp [hdep]) rfl
                          refine step_run rfl (v := vals 14) (w' := w) (by go_simp) ?_
                          constructor <;> (try simp [updL, updV]) <;> first | exact ⟨by simp [hdep], by simp [hdep], by simp [hdep]⟩ | exact hI.bel | exact hI.a0 | exact hI.a1 | exact hI.a2 | exact hI.a3 | exact hI.a4 | exact hI.a5 | exact hI.a6 | exact hI.a7 | exact hI.a8 | exact hI.a9 | exact hI.a10 | exact hI.a11 | exact hI.a12 | exact hI.a13 | exact hI.a14 | exact hI.a15 | exact hI.d4 | exact hI.d9 | exact hI.d10 | exact hI.d14 | exact hI.d15
                      · intro vals w hI
                        have HO := Lib.hid (show OwnS w w1.heap.size (vals 15) (insL ss ct kk) from by
                          rw [hI.a15 rfl]
                          obtain ⟨e1, ⟨e2, e3⟩ | ⟨g, cap, cur, e2, e3, e4⟩⟩ := hI.a14 rfl
                          · exact ⟨e1, Or.inl ⟨e2, e3⟩⟩
                          · exact ⟨e1, Or.inr ⟨g, cap, cur, e2, Nat.le_trans HBy.out.size e3, e4⟩⟩)
                        have HBn := Lib.hid (HBy.out.trans (hI.bel.mono HBy.out.size))
                        have HIL := Lib.hid (insL_len ss ct kk (by rw [HM.out]; omega))
                        simp only [putsL, Act.put, List.setIfInBounds_toArray, List.set_cons_zero, List.set_cons_succ]
                        clear hI c1q HRq HAk HLT HRA HA
                        generalize vals 15 = va at HO ⊢
                        go_wp2_with fail
                        go_roundg (n - (i + 1))
                        case measure => omega
                        case rel => exact ⟨i + 1, insL ss ct kk, by omega, by omega, by go_num, by rw [HIL.out, HM.out]; omega, Lib.hid HASC2.out, HO, HBn⟩
                · have hklz : ¬ (kk : Int) < (m : Int) := by omega
                  have hkld : decide (kk < m) = false := decide_eq_false hkl
                  obtain rfl : kk = m := by omega
                  have HBx := Lib.hid (HBr.out.trans (HBk.out.mono hsz))
                  go_wp2_with fail
                  go_quiet (fail)
                  go_wp2_with fail
                  go_quiet (fail)
                  go_wp2_with fail
                  have HASC2 := Lib.hid (HASC.out.ins (c := ct) (k := kk) (by rw [HM.out]; omega) HSE.out (fun h => HLT.out (kk - 1) (by omega)) (fun h => by rw [HM.out] at h; omega))
                  have HBy := fun q1 q2 => below_drewN (below_drewN HBx.out q1) q2
                  have HRy := fun q1 q2 => HRA.out.below (below_drewN (below_drewN HBk.out q1) q2)
                  have hcy : ∀ q1 q2, ((wr.drewN q1).drewN q2).cell? ⟨b, o + i, none⟩ = some (.string ct) := fun _ _ => c1k
                  have hby : ∀ q1 q2, b < ((wr.drewN q1).drewN q2).heap.size := fun _ _ => Nat.lt_of_lt_of_le hbk HBk.out.size
                  generalize hwq : World.drewN (World.drewN wr _) _ = wq
                  have HBy := Lib.hid (show Below w1.heap.size w1 wq from hwq ▸ HBy _ _)
                  have HRq := Lib.hid (show Strs wq pa ss from hwq ▸ HRy _ _)
                  have c1q : wq.cell? ⟨b, o + i, none⟩ = some (.string ct) := hwq ▸ hcy _ _
                  have hbq : b < wq.heap.size := hwq ▸ hby _ _
                  clear hwq HRy hcy hby c1k c1
                  obtain ⟨ms, hms⟩ : ∃ ms, kk - kk = ms := ⟨_, rfl⟩
                  have HMS := Lib.hid hms
                  clear hms
                  refine wp_region_inv mx (by kernel_rfl) (InsI wq (.slice pa kk ca) (.slice (some ⟨b, o, none⟩) n c) (.slice pa kk ca) (.slice (hiP pa ca kk) ms (ca - kk)) ⟨b, o + i, none⟩ kk i ss ct) ?_ ?_ ?_
                  · intro vals
                    constructor <;> first | exact (Below.refl _ _).drew | (intro h; cases h)
                  · intro ix ox L vals w hi hL hdep hI
                    have hlt16 : ix < 16 := by
                      have := (List.getElem?_eq_some_iff.1 hi).1
                      simpa using this
                    generalize hA : frA _ _ L vals = a
                    have h0 : a.tmps.getD 0 undef = .slice (some ⟨b, o, none⟩) n c := by rw [← hA, frA_base (by kernel_rfl)]; rfl
                    have h6 : a.tmps.getD 6 undef = .int .i64 i := by rw [← hA, frA_base (by kernel_rfl)]; rfl
                    have h7 : a.tmps.getD 7 undef = .int .i64 kk := by rw [← hA, frA_base (by kernel_rfl)]; rfl
                    have H5 := Lib.hid (show L 15 = false → a.tmps.getD 5 undef = .slice pa kk ca from fun h15 => by rw [← hA, frA_wait (by kernel_rfl) (k := 15) rfl h15]; rfl)
                    have hD := Lib.hid (fun k t (hk : L k = true) (ht : dstOf _ k = some t) => hA ▸ frA_done (by kernel_rfl) (vals := vals) hk ht)
                    clear hA
                    have cx : w.cell? ⟨b, o + i, none⟩ = some (.string ct) := by rw [hI.bel.cell (p := ⟨b, o + i, none⟩) hbq]; exact c1q
                    have hsw := hI.bel.size
                    obtain rfl | rfl | rfl | rfl | rfl | rfl | rfl | rfl | rfl | rfl | rfl | rfl | rfl | rfl | rfl | rfl : ix = 0 ∨ ix = 1 ∨ ix = 2 ∨ ix = 3 ∨ ix = 4 ∨ ix = 5 ∨ ix = 6 ∨ ix = 7 ∨ ix = 8 ∨ ix = 9 ∨ ix = 10 ∨ ix = 11 ∨ ix = 12 ∨ ix = 13 ∨ ix = 14 ∨ ix = 15 := by omega
                    all_goals
                      injection hi with hi
                      subst hi
                      simp [Region.binds] at hdep
                    · have n4 : L 4 = false := no_of hI.d4 hL
                      have n10 : L 10 = false := no_of hI.d10 n4
                      have hbel := hI.bel.alloc hI.bel.size (.cells #[] 9)
                      have hnew := ownS_made w wq.heap.size hsw
                      have h9 : L 9 = true → ∃ g, vals 9 = .slice (some ⟨g, 0, none⟩) 1 1 ∧ g < w.heap.size + 1 ∧ (w.alloc (.cells #[] 9)).cell? ⟨g, 0, none⟩ = some (.string ct) ∧ ¬ w.heap.size = g := fun h => by
                        obtain ⟨g, e1, e2, e3, _⟩ := hI.a9 h n10
                        exact ⟨g, e1, by omega, by rw [World.cell?_alloc_lt _ _ ⟨g, 0, none⟩ e2]; exact e3, by omega⟩
                      have n14 : L 14 = false := no_of hI.d14 n10
                      have n15 : L 15 = false := no_of (fun h => (hI.d15 h).2.2) n14
                      refine step_run rfl (v := .slice (some ⟨w.heap.size, 0, none⟩) 0 0) (w' := w.alloc (.cells #[] 9)) (by go_simp) ?_
                      constructor <;> (try simp [updL, updV, n4, n10, n14, n15, Value.ownBlock]) <;> first | exact hbel | exact hnew | exact h9 | exact hI.a1 | exact hI.a2 | exact hI.a3 | exact hI.a5 | exact hI.a6 | exact hI.a7 | exact hI.a8 | exact hI.a11 | exact hI.a12 | exact hI.a13 | exact hI.a15 | exact hI.d4 | exact hI.d9 | exact hI.d10 | exact hI.d14 | exact hI.d15
                    · have n15 : L 15 = false := no_of (fun h => (hI.d15 h).1) hL
                      have h5 := H5.out n15
                      refine step_run rfl (v := .slice pa kk ca) (w' := w) (by go_simp) ?_
                      constructor <;> (try simp [updL, updV, n15]) <;> first | exact hI.bel | exact hI.a0 | exact hI.a1 | exact hI.a2 | exact hI.a3 | exact hI.a4 | exact hI.a5 | exact hI.a6 | exact hI.a7 | exact hI.a8 | exact hI.a9 | exact hI.a10 | exact hI.a11 | exact hI.a12 | exact hI.a13 | exact hI.a14 | exact hI.a15 | exact hI.d4 | exact hI.d9 | exact hI.d10 | exact hI.d14 | exact hI.d15
                    · refine step_run rfl (v := .int .i64 kk) (w' := w) (by go_simp) ?_
                      constructor <;> (try simp [updL, updV]) <;> first | exact hI.bel | exact hI.a0 | exact hI.a1 | exact hI.a2 | exact hI.a3 | exact hI.a4 | exact hI.a5 | exact hI.a6 | exact hI.a7 | exact hI.a8 | exact hI.a9 | exact hI.a10 | exact hI.a11 | exact hI.a12 | exact hI.a13 | exact hI.a14 | exact hI.a15 | exact hI.d4 | exact hI.d9 | exact hI.d10 | exact hI.d14 | exact hI.d15
                    · have e1 := hD.out 1 73 (by simp [hdep]) rfl
                      have e2 := hD.out 2 74 (by simp [hdep]) rfl
                      rw [hI.a1 (by simp [hdep])] at e1
                      rw [hI.a2 (by simp [hdep])] at e2
                      refine step_run rfl (v := .slice pa kk ca) (w' := w) (slice_lo pa kk ca kk (by omega) hla HPC.out _ a w 73 74 rfl e1 e2) ?_
                      constructor <;> (try simp [updL, updV]) <;> first | exact hI.bel | exact hI.a0 | exact hI.a1 | exact hI.a2 | exact hI.a3 | exact hI.a4 | exact hI.a5 | exact hI.a6 | exact hI.a7 | exact hI.a8 | exact hI.a9 | exact hI.a10 | exact hI.a11 | exact hI.a12 | exact hI.a13 | exact hI.a14 | exact hI.a15 | exact hI.d4 | exact hI.d9 | exact hI.d10 | exact hI.d14 | exact hI.d15
                    · have e1 := hD.out 0 72 (by simp [hdep]) rfl
                      have e2 := hD.out 3 75 (by simp [hdep]) rfl
                      rw [hI.a3 (by simp [hdep])] at e2
                      have n10 : L 10 = false := no_of hI.d10 hL
                      have hown := hI.a0 (by simp [hdep]) hL
                      refine stepI_app_str rfl _ _ rfl wq.heap.size (vals 0) [] e1 hown pa ca (ss.take kk) (by rw [show (ss.take kk).length = kk by rw [List.length_take, HM.out]; omega]; exact e2) (strs_take (HRq.out.below hI.bel) kk) HPC.out (by rw [List.length_take, HM.out]; simp; omega) hsw ?_
                      intro v' w' hown' hgr hat
                      have hbel := hI.bel.grown hgr hsw hown.lt
                      have h4 : OwnS w' wq.heap.size v' (ss.take kk) := hown'
                      have h9 : L 9 = true → ∃ g, vals 9 = .slice (some ⟨g, 0, none⟩) 1 1 ∧ g < w'.heap.size ∧ w'.cell? ⟨g, 0, none⟩ = some (.string ct) ∧ ¬ v'.ownBlock = some g := fun h => by
                        obtain ⟨g, f1, f2, f3, f4, _⟩ := hI.a9 h n10
                        have f5 := f4 (by simp [hdep]) hL
                        refine ⟨g, f1, Nat.lt_of_lt_of_le f2 hgr.size, hgr.cell f3 (fun hc => f5 hc.symm), ?_⟩
                        rcases hat with hat | hat
                        · rw [hat]; exact f5
                        · rw [hat]; intro hc; injection hc with hc; omega
                      have n14 : L 14 = false := no_of hI.d14 n10
                      have n15 : L 15 = false := no_of (fun h => (hI.d15 h).2.2) n14
                      have l0 : L 0 = true := by simp [hdep]
                      constructor <;> (try simp [updL, updV, n10, n14, n15, l0]) <;> first | exact hbel | exact h4 | exact h9 | exact hI.a1 | exact hI.a2 | exact hI.a3 | exact hI.a5 | exact hI.a6 | exact hI.a7 | exact hI.a8 | exact hI.a11 | exact hI.a12 | exact hI.a13 | exact hI.a15 | exact hI.d4 | exact hI.d9 | exact hI.d10 | exact hI.d14 | exact hI.d15
                    · refine step_run rfl (v := .slice (some ⟨b, o, none⟩) n c) (w' := w) (by go_simp) ?_
                      constructor <;> (try simp [updL, updV]) <;> first | exact hI.bel | exact hI.a0 | exact hI.a1 | exact hI.a2 | exact hI.a3 | exact hI.a4 | exact hI.a5 | exact hI.a6 | exact hI.a7 | exact hI.a8 | exact hI.a9 | exact hI.a10 | exact hI.a11 | exact hI.a12 | exact hI.a13 | exact hI.a14 | exact hI.a15 | exact hI.d4 | exact hI.d9 | exact hI.d10 | exact hI.d14 | exact hI.d15
                    · refine step_run rfl (v := .int .i64 i) (w' := w) (by go_simp) ?_
                      constructor <;> (try simp [updL, updV]) <;> first | exact hI.bel | exact hI.a0 | exact hI.a1 | exact hI.a2 | exact hI.a3 | exact hI.a4 | exact hI.a5 | exact hI.a6 | exact hI.a7 | exact hI.a8 | exact hI.a9 | exact hI.a10 | exact hI.a11 | exact hI.a12 | exact hI.a13 | exact hI.a14 | exact hI.a15 | exact hI.d4 | exact hI.d9 | exact hI.d10 | exact hI.d14 | exact hI.d15
                    · have e1 := hD.out 5 77 (by simp [hdep]) rfl
                      have e2 := hD.out 6 78 (by simp [hdep]) rfl
                      rw [hI.a5 (by simp [hdep])] at e1
                      rw [hI.a6 (by simp [hdep])] at e2
                      refine step_run rfl (v := .pointer (some ⟨b, o + i, none⟩)) (w' := w) (by go_simp) ?_
                      constructor <;> (try simp [updL, updV]) <;> first | exact hI.bel | exact hI.a0 | exact hI.a1 | exact hI.a2 | exact hI.a3 | exact hI.a4 | exact hI.a5 | exact hI.a6 | exact hI.a7 | exact hI.a8 | exact hI.a9 | exact hI.a10 | exact hI.a11 | exact hI.a12 | exact hI.a13 | exact hI.a14 | exact hI.a15 | exact hI.d4 | exact hI.d9 | exact hI.d10 | exact hI.d14 | exact hI.d15
                    · have e1 := hD.out 7 79 (by simp [hdep]) rfl
                      rw [hI.a7 (by simp [hdep])] at e1
                      refine step_run rfl (v := .string ct) (w' := w) (by go_simp) ?_
                      constructor <;> (try simp [updL, updV]) <;> first | exact hI.bel | exact hI.a0 | exact hI.a1 | exact hI.a2 | exact hI.a3 | exact hI.a4 | exact hI.a5 | exact hI.a6 | exact hI.a7 | exact hI.a8 | exact hI.a9 | exact hI.a10 | exact hI.a11 | exact hI.a12 | exact hI.a13 | exact hI.a14 | exact hI.a15 | exact hI.d4 | exact hI.d9 | exact hI.d10 | exact hI.d14 | exact hI.d15
                    · have e1 := hD.out 8 80 (by simp [hdep]) rfl
                      rw [hI.a8 (by simp [hdep])] at e1
                      have e1' : a.tmps[80]?.getD undef = .string ct := by rw [← Array.getD_eq_getD_getElem?]; exact e1
                      have n10 : L 10 = false := no_of hI.d9 hL
                      have n14 : L 14 = false := no_of hI.d14 n10
                      have n15 : L 15 = false := no_of (fun h => (hI.d15 h).2.2) n14
                      have hbel := hI.bel.alloc hI.bel.size (.cells #[.string ct] 9)
                      have q0 : L 0 = true → L 4 = false → ¬ (vals 0).ownBlock = some w.heap.size := fun h h' hc => by
                        have := (World.ownsRow.lt (hI.a0 h h') _ hc).2
                        omega
                      have q4 : L 4 = true → ¬ (vals 4).ownBlock = some w.heap.size := fun h hc => by
                        have := (World.ownsRow.lt (hI.a4 h n10) _ hc).2
                        omega
                      have h0' : L 0 = true → L 4 = false → OwnS (w.alloc (.cells #[.string ct] 9)) wq.heap.size (vals 0) [] := fun h h' => (hI.a0 h h').alloc _
                      have h4' : L 4 = true → OwnS (w.alloc (.cells #[.string ct] 9)) wq.heap.size (vals 4) (ss.take kk) := fun h => (hI.a4 h n10).alloc _
                      refine step_run rfl (v := .slice (some ⟨w.heap.size, 0, none⟩) 1 1) (w' := w.alloc (.cells #[.string ct] 9)) (by go_simp) ?_
                      have h9 : ∃ g, w.heap.size = g ∧ g < w.heap.size + 1 ∧ (w.alloc (.cells #[.string ct] 9)).cell? ⟨g, 0, none⟩ = some (.string ct) ∧ (L 0 = true → L 4 = false → ¬ (vals 0).ownBlock = some g) ∧ (L 4 = true → ¬ (vals 4).ownBlock = some g) := ⟨_, rfl, by omega, by rw [World.cell?_alloc_new]; rfl, q0, q4⟩
                      constructor <;> (try simp [updL, updV, n10, n14, n15]) <;> first | exact hbel | exact h0' | exact h4' | exact h9 | exact ⟨q0, q4⟩ | exact hI.a1 | exact hI.a2 | exact hI.a3 | exact hI.a5 | exact hI.a6 | exact hI.a7 | exact hI.a8 | exact hI.a11 | exact hI.a12 | exact hI.a13 | exact hI.a15 | exact hI.d4 | exact hI.d9 | exact hI.d10 | exact hI.d14 | exact hI.d15 | skip
                    · have e1 := hD.out 4 76 (by simp [hdep]) rfl
                      have e2 := hD.out 9 81 (by simp [hdep]) rfl
                      have l4 : L 4 = true := by simp [hdep]
                      have l9 : L 9 = true := by simp [hdep]
                      have n14 : L 14 = false := no_of hI.d14 hL
                      have n15 : L 15 = false := no_of (fun h => (hI.d15 h).2.2) n14
                      have hown := hI.a4 l4 hL
                      obtain ⟨g, f1, f2, f3, _, f4⟩ := hI.a9 l9 hL
                      rw [f1] at e2
                      refine stepI_app_str rfl _ _ rfl wq.heap.size (vals 4) (ss.take kk) e1 hown (some ⟨g, 0, none⟩) 1 [ct] e2 (strs_one f3) (fun h => by cases h) (by rw [List.length_take, HM.out]; simp; omega) hsw ?_
                      intro v' w' hown' hgr hat
                      have hbel := hI.bel.grown hgr hsw hown.lt
                      constructor <;> (try simp [updL, updV, n14, n15, l4, l9]) <;> first | exact hbel | exact hown' | exact hI.d4 l4 | exact hI.a1 | exact hI.a2 | exact hI.a3 | exact hI.a5 | exact hI.a6 | exact hI.a7 | exact hI.a8 | exact hI.a11 | exact hI.a12 | exact hI.a13 | exact hI.a15 | exact hI.d4 | exact hI.d9 | exact hI.d10 | exact hI.d14 | exact hI.d15
                    · have n15 : L 15 = false := no_of (fun h => (hI.d15 h).2.1) hL
                      have h5 := H5.out n15
                      refine step_run rfl (v := .slice pa kk ca) (w' := w) (by go_simp) ?_
                      constructor <;> (try simp [updL, updV, n15]) <;> first | exact hI.bel | exact hI.a0 | exact hI.a1 | exact hI.a2 | exact hI.a3 | exact hI.a4 | exact hI.a5 | exact hI.a6 | exact hI.a7 | exact hI.a8 | exact hI.a9 | exact hI.a10 | exact hI.a11 | exact hI.a12 | exact hI.a13 | exact hI.a14 | exact hI.a15 | exact hI.d4 | exact hI.d9 | exact hI.d10 | exact hI.d14 | exact hI.d15
                    · refine step_run rfl (v := .int .i64 kk) (w' := w) (by go_simp) ?_
                      constructor <;> (try simp [updL, updV]) <;> first | exact hI.bel | exact hI.a0 | exact hI.a1 | exact hI.a2 | exact hI.a3 | exact hI.a4 | exact hI.a5 | exact hI.a6 | exact hI.a7 | exact hI.a8 | exact hI.a9 | exact hI.a10 | exact hI.a11 | exact hI.a12 | exact hI.a13 | exact hI.a14 | exact hI.a15 | exact hI.d4 | exact hI.d9 | exact hI.d10 | exact hI.d14 | exact hI.d15
                    · have e1 := hD.out 11 83 (by simp [hdep]) rfl
                      have e2 := hD.out 12 84 (by simp [hdep]) rfl
                      rw [hI.a11 (by simp [hdep])] at e1
                      rw [hI.a12 (by simp [hdep])] at e2
                      refine step_run rfl (v := .slice (hiP pa ca kk) ms (ca - kk)) (w' := w) (by rw [← HMS.out]; exact slice_hi pa kk ca kk (by omega) hla HPC.out _ a w 83 84 rfl e1 e2) ?_
                      constructor <;> (try simp [updL, updV]) <;> first | exact hI.bel | exact hI.a0 | exact hI.a1 | exact hI.a2 | exact hI.a3 | exact hI.a4 | exact hI.a5 | exact hI.a6 | exact hI.a7 | exact hI.a8 | exact hI.a9 | exact hI.a10 | exact hI.a11 | exact hI.a12 | exact hI.a13 | exact hI.a14 | exact hI.a15 | exact hI.d4 | exact hI.d9 | exact hI.d10 | exact hI.d14 | exact hI.d15
                    · have e1 := hD.out 10 82 (by simp [hdep]) rfl
                      have e2 := hD.out 13 85 (by simp [hdep]) rfl
                      have l10 : L 10 = true := by simp [hdep]
                      have l4 := hI.d10 l10
                      have n15 : L 15 = false := no_of (fun h => (hI.d15 h).2.2) hL
                      rw [hI.a13 (by simp [hdep])] at e2
                      have hown := hI.a10 l10 hL
                      refine stepI_app_str rfl _ _ rfl wq.heap.size (vals 10) (ss.take kk ++ [ct]) e1 hown (hiP pa ca kk) (ca - kk) (ss.drop kk) (by rw [show (ss.drop kk).length = ms by rw [List.length_drop, HM.out]; exact HMS.out]; exact e2) (strs_hi (HRq.out.below hI.bel) (by rw [HM.out]; exact hla)) (fun h => by cases pa with | none => rw [HPC.out rfl, Nat.zero_sub] | some ad => cases h) (by rw [List.length_append, List.length_take, List.length_drop, HM.out]; simp; omega) hsw ?_
                      intro v' w' hown' hgr hat
                      have hbel := hI.bel.grown hgr hsw hown.lt
                      have hown2 : OwnS w' wq.heap.size v' (insL ss ct kk) := hown'
                      constructor <;> (try simp [updL, updV, n15, l10, l4]) <;> first | exact hbel | exact hown2 | exact hI.d4 l4 | exact hI.d9 l10 | exact hI.a1 | exact hI.a2 | exact hI.a3 | exact hI.a5 | exact hI.a6 | exact hI.a7 | exact hI.a8 | exact hI.a11 | exact hI.a12 | exact hI.a13 | exact hI.a15 | exact hI.d4 | exact hI.d9 | exact hI.d10 | exact hI.d14 | exact hI.d15
                    · have e1 := hD.out 14 86 (by simp [hdep]) rfl
                      refine step_run rfl (v := vals 14) (w' := w) (by go_simp) ?_
                      constructor <;> (try simp [updL, updV]) <;> first | exact ⟨by simp [hdep], by simp [hdep], by simp [hdep]⟩ | exact hI.bel | exact hI.a0 | exact hI.a1 | exact hI.a2 | exact hI.a3 | exact hI.a4 | exact hI.a5 | exact hI.a6 | exact hI.a7 | exact hI.a8 | exact hI.a9 | exact hI.a10 | exact hI.a11 | exact hI.a12 | exact hI.a13 | exact hI.a14 | exact hI.a15 | exact hI.d4 | exact hI.d9 | exact hI.d10 | exact hI.d14 | exact hI.d15
                  · intro vals w hI
                    have HO := Lib.hid (show OwnS w w1.heap.size (vals 15) (insL ss ct kk) from by
                      rw [hI.a15 rfl]
                      obtain ⟨e1, ⟨e2, e3⟩ | ⟨g, cap, cur, e2, e3, e4⟩⟩ := hI.a14 rfl
                      · exact ⟨e1, Or.inl ⟨e2, e3⟩⟩
                      · exact ⟨e1, Or.inr ⟨g, cap, cur, e2, Nat.le_trans HBy.out.size e3, e4⟩⟩)
                    have HBn := Lib.hid (HBy.out.trans (hI.bel.mono HBy.out.size))
                    have HIL := Lib.hid (insL_len ss ct kk (by rw [HM.out]; omega))
                    simp only [putsL, Act.put, List.setIfInBounds_toArray, List.set_cons_zero, List.set_cons_succ]
                    clear hI c1q HRq HAk HLT HRA HA
                    generalize vals 15 = va at HO ⊢
                    go_wp2_with fail
                    go_roundg (n - (i + 1))
                    case measure => omega
                    case rel => exact ⟨i + 1, insL ss ct kk, by omega, by omega, by go_num, by rw [HIL.out, HM.out]; omega, Lib.hid HASC2.out, HO, HBn⟩
        · obtain rfl : i = n := by omega
          have hltz : ¬ (i : Int) < (i : Int) := by omega
          have HBw := Lib.hid (HB1.out.trans (HBr.out.mono hs1))
          have HRr := Lib.hid (HRA.out)
          have hm30 : m ≤ 30 := by omega
          have CP := Lib.hid (parts_any ss pa ca wo HRA.out (by rw [HM.out]; omega))
          rw [HM.out] at CP
          clear HA HBr hsz HRA HS HXS hsi
          go_wp2_with fail
          refine CP.out.mono ?_
          rintro e w5 ⟨q, cq, rfl, hcq, hb5, hsp⟩
          have HB5 := Lib.hid (HBw.out.trans (hb5.mono HBw.out.size))
          have HR5 := Lib.hid (HRr.out.below hb5)
          have HSP := Lib.hid hsp
          have HPL := Lib.hid (show (partsL ss).length = m + 1 by rw [partsL_len, HM.out])
          rw [HM.out] at hcq ⊢
          clear hb5 hsp CP HBw HRr
          go_wp2_with fail
          go_loopg [9, 10] (m + 1) (fun gg vn vi wr => ∃ j : Nat, j ≤ m + 1 ∧ m + 1 - j ≤ gg ∧ vi = .int .i64 j ∧ vn = .int .i64 (cntN ss k j : Nat) ∧ cntN ss k j ≤ j ∧ Hid (Below w5.heap.size w5 wr))
          case atStart => exact ⟨0, by omega, by omega, rfl, by rw [cntN_zero]; rfl, by rw [cntN_zero]; omega, Lib.hid (Below.refl _ _)⟩
          case round =>
            obtain ⟨j, hjm, hjg, rfl, rfl, hcj, HBr⟩ := hrel
            obtain ⟨cj, hcjv⟩ : ∃ cj, cntN ss k j = cj := ⟨_, rfl⟩
            have HCJ := Lib.hid hcjv
            rw [hcjv] at hcj ⊢
            clear hcjv
            by_cases hjl : j < m + 1
            · have hjlz : (j : Int) < ((m + 1 : Nat) : Int) := by omega
              have hjlz' : (j : Int) < (m : Int) + 1 := by omega
              obtain ⟨b, o, rfl, hbl, c1, c2⟩ := span_cell HSP.out HBr.out (show j < (partsL ss).length by rw [HPL.out]; exact hjl)
              rw [partsL_at ss j (by rw [HM.out]; omega)] at c1 c2
              obtain ⟨r, hr⟩ : ∃ r, hasB (spAt ss j) k = r := ⟨_, rfl⟩
              have hst := cntN_step HASC.out k (i := j) (by rw [HM.out]; omega)
              rw [hr, HCJ.out] at hst
              obtain ⟨f, hf⟩ : ∃ f, (spAt ss j).f = f := ⟨_, rfl⟩
              obtain ⟨t, ht⟩ : ∃ t, (spAt ss j).t = t := ⟨_, rfl⟩
              rw [hf] at c1
              rw [ht] at c2
              have CH := Lib.hid (has_any f t k wr)
              rw [show hasB ⟨f, t⟩ k = r by rw [← hf, ← ht]; exact hr] at CH
              have HST := Lib.hid hst
              clear hr hf ht hst
              go_wp2_with fail
              refine CH.out.mono ?_
              rintro e w6 ⟨rfl, hb6⟩
              have HB6 := Lib.hid (HBr.out.trans (hb6.mono HBr.out.size))
              clear hb6 CH c1 c2
              cases r with
              | true =>
                go_wp2_with fail
                go_roundg (m + 1 - (j + 1))
                case measure => omega
                case rel => exact ⟨j + 1, by omega, by omega, by go_num, by rw [HST.out]; go_num, by rw [HST.out]; simp; omega, HB6⟩
              | false =>
                go_wp2_with fail
                go_roundg (m + 1 - (j + 1))
                case measure => omega
                case rel => exact ⟨j + 1, by omega, by omega, by go_num, by rw [HST.out]; simp, by rw [HST.out]; simp; omega, HB6⟩
            · obtain rfl : j = m + 1 := by omega
              have hjlz : ¬ ((m + 1 : Nat) : Int) < ((m + 1 : Nat) : Int) := by omega
              obtain rfl : cj = 1 := by
                rw [← HCJ.out]
                have := cntN_end ss k
                rw [HM.out] at this
                exact this
              have HBx := Lib.hid (HB5.out.trans (HBr.out.mono HB5.out.size))
              have HSx := Lib.hid (HSP.out.below HBr.out)
              have HRx := Lib.hid (HR5.out.below HBr.out)
              have CW := Lib.hid (whole_any (partsL ss) q cq wr HSx.out (by rw [HPL.out]; omega))
              rw [HASC.out.whole, HPL.out] at CW
              clear HBr HB5 HR5 HSP hcj
              go_wp2_with fail
              refine CW.out.mono ?_
              rintro e w7 ⟨rfl, hb7⟩
              have HB7 := Lib.hid (HBx.out.trans (hb7.mono HBx.out.size))
              have HS7 := Lib.hid (HSx.out.below hb7)
              have HR7 := Lib.hid (HRx.out.below hb7)
              clear hb7 CW HBx HSx HRx
              by_cases hm0 : m = 0
              · subst hm0
                go_wp2_with fail
                go_ret
                exact ⟨rfl, HB7.out⟩
              · obtain ⟨a0, r, rfl⟩ : ∃ a0 r, ss = a0 :: r := by
                  cases ss with
                  | nil => exact absurd HM.out.symm hm0
                  | cons a0 r => exact ⟨a0, r, rfl⟩
                obtain ⟨u, hu⟩ : ∃ u, r.length = u := ⟨_, rfl⟩
                have HU := Lib.hid hu
                obtain rfl : m = u + 1 := by have := HM.out; simp at this; omega
                clear hu
                obtain ⟨b, o, hpe0, _, _⟩ := str_cell HR7.out (Below.refl _ w7) (show 0 < (a0 :: r).length by simp)
                subst hpe0
                have z1 : (1 : Int) ≤ ((u + 1 : Nat) : Int) := by omega
                have z2 : ((u + 1 : Nat) : Int) ≤ (ca : Int) := by omega
                have z3 : (0 : Int) < ((u + 1 : Nat) : Int) := by omega
                have zw : ((1 : Int) != 1) = false := rfl
                by_cases hca : ca = 1
                · obtain rfl : u = 0 := by omega
                  subst hca
                  have hr0 : r = [] := List.eq_nil_of_length_eq_zero HU.out
                  have HR1 := Lib.hid (show Strs w7 (some ⟨b, o, none⟩) r from Or.inl hr0)
                  clear hr0
                  have CP2 := Lib.hid (parts_any r (some ⟨b, o, none⟩) 0 w7 HR1.out (by rw [HU.out]; omega))
                  rw [HU.out] at CP2
                  go_wp2_with fail
                  refine CP2.out.mono ?_
                  rintro e w8 ⟨q2, cq2, rfl, hcq2, hb8, hsp2⟩
                  rw [HU.out] at hcq2 ⊢
                  have HB8 := Lib.hid (HB7.out.trans (hb8.mono HB7.out.size))
                  have HS8 := Lib.hid (HS7.out.below hb8)
                  have HR8 := Lib.hid (HR7.out.below hb8)
                  have CW2 := Lib.hid (whole_any (partsL r) q2 cq2 w8 hsp2 (by rw [partsL_len, HU.out]; omega))
                  rw [HASC.out.tail.whole, partsL_len, HU.out] at CW2
                  clear hb8 hsp2 CP2 HB7 HS7 HR7 HR1
                  go_wp2_with fail
                  refine CW2.out.mono ?_
                  rintro e w9 ⟨rfl, hb9⟩
                  have HB9 := Lib.hid (HB8.out.trans (hb9.mono HB8.out.size))
                  have HS9 := Lib.hid (HS8.out.below hb9)
                  have HR9 := Lib.hid (HR8.out.below hb9)
                  clear hb9 CW2 HB8 HS8 HR8
                  obtain ⟨b', o', hpe, hbl, c9⟩ := str_cell HR9.out (Below.refl _ w9) (show 0 < (a0 :: r).length by simp)
                  injection hpe with hpe
                  injection hpe with hpe1 hpe2
                  subst hpe1; subst hpe2
                  rw [show (a0 :: r).getD 0 ByteArray.empty = a0 from rfl, Nat.add_zero] at c9
                  have HO := Lib.hid (ownS_one w9 w9.heap.size (Nat.le_refl _) a0)
                  have hba : Below w9.heap.size w9 (w9.alloc (.cells #[.string a0] 9)) := (Below.refl _ _).alloc (Nat.le_refl _) _
                  have HRa := Lib.hid (HR9.out.below hba)
                  have hu0 : (((1 : Nat) : Int) == 0) = false := by first | rfl | (simp; omega)
                  have hul : (a0 :: r).length = 1 := by simp [HU.out]
                  have HUL := Lib.hid hul
                  clear hul
                  go_wp2_with (at_builtin; refine wpList_app_str rfl _ _ rfl w9.heap.size _ _ rfl HO.out ⟨b, o, none⟩ _ (a0 :: r) (by first | (rw [HUL.out]; done) | (rw [HUL.out]; rfl)) HRa.out ?lenX ?belX ?_)
                  case lenX => rw [HUL.out]; first | (simp; done) | (simp; omega)
                  case belX => simp
                  intro v' w' hown' hgr
                  have hbA := (hba.grown hgr (by simp) HO.out.lt)
                  obtain ⟨pv, cv, hvv, _, _, hrv⟩ := hown'.row
                  have HBa := Lib.hid (HB9.out.trans (hbA.mono HB9.out.size))
                  have HSa := Lib.hid (HS9.out.below hbA)
                  have CP3 := Lib.hid (parts_any (a0 :: a0 :: r) pv cv w' hrv (by have := HU.out; simp; omega))
                  have hl3 : (a0 :: a0 :: r).length = 2 := by simp [HU.out]
                  rw [hl3] at hvv
                  subst hvv
                  have HTW := Lib.hid (show wholeB (partsL (a0 :: a0 :: r)) = false from twice_not (HASC.out.ne (i := 0) (by simp)))
                  have HL3 := Lib.hid (show (partsL (a0 :: a0 :: r)).length = 2 + 1 by rw [partsL_len, hl3])
                  rw [hl3] at CP3
                  unfold PartsP at CP3
                  rw [hl3] at CP3
                  generalize hgl : partsL (a0 :: a0 :: r) = L3 at CP3 HTW HL3
                  clear hgl hl3 hown' hgr hbA hrv hba HO HRa HR9 c9 HB9 HS9
                  go_wp2_with fail
                  refine CP3.out.mono ?_
                  rintro e w10 ⟨q3, cq3, rfl, hcq3, hb10, hsp3⟩
                  have HB10 := Lib.hid (HBa.out.trans (hb10.mono HBa.out.size))
                  have HS10 := Lib.hid (HSa.out.below hb10)
                  have CW3 := Lib.hid (whole_any L3 q3 cq3 w10 hsp3 (by rw [HL3.out]; omega))
                  rw [HTW.out, HL3.out] at CW3
                  clear hb10 hsp3 CP3 HBa HSa
                  go_wp2_with fail
                  refine CW3.out.mono ?_
                  rintro e w11 ⟨rfl, hb11⟩
                  have HB11 := Lib.hid (HB10.out.trans (hb11.mono HB10.out.size))
                  have HS11 := Lib.hid (HS10.out.below hb11)
                  clear hb11 CW3 HB10 HS10
                  obtain ⟨bq, oq, hqe, _, _, _⟩ := span_cell HS11.out (Below.refl _ w11) (show 0 < (partsL (a0 :: r)).length by rw [HPL.out]; omega)
                  subst hqe
                  have CW4 := Lib.hid (whole_any ((partsL (a0 :: r)).drop 1) (some ⟨bq, oq + 2, none⟩) (cq - 1) w11 (spans_drop HS11.out) (by rw [List.length_drop, HPL.out]; omega))
                  rw [drop_not HASC.out (by simp), List.length_drop, HPL.out, show 0 + 1 + 1 - 1 = 1 from rfl] at CW4
                  have hcq1 : ¬ cq = 1 := by omega
                  have hz1 : (1 : Int) ≤ ((0 + 1 + 1 : Nat) : Int) := by omega
                  have hz2 : ((0 + 1 + 1 : Nat) : Int) ≤ (cq : Int) := by omega
                  go_wp2_with fail
                  refine CW4.out.mono ?_
                  rintro e w12 ⟨rfl, hb12⟩
                  have HB12 := Lib.hid (HB11.out.trans (hb12.mono HB11.out.size))
                  have CW5 := Lib.hid (whole_any [] none 0 w12 (Or.inl rfl) (by simp))
                  rw [none_not] at CW5
                  clear hb12 CW4 HB11 HS11
                  go_wp2_with fail
                  refine CW5.out.mono ?_
                  rintro e w13 ⟨rfl, hb13⟩
                  have HB13 := Lib.hid (HB12.out.trans (hb13.mono HB12.out.size))
                  go_wp2_with fail
                  go_ret
                  exact ⟨rfl, HB13.out⟩
                · have HR1 := Lib.hid (strs_drop HR7.out 1)
                  have CP2 := Lib.hid (parts_any r (some ⟨b, o + 1, none⟩) (ca - 1) w7 HR1.out (by rw [HU.out]; omega))
                  rw [HU.out] at CP2
                  go_wp2_with fail
                  refine CP2.out.mono ?_
                  rintro e w8 ⟨q2, cq2, rfl, hcq2, hb8, hsp2⟩
                  rw [HU.out] at hcq2 ⊢
                  have HB8 := Lib.hid (HB7.out.trans (hb8.mono HB7.out.size))
                  have HS8 := Lib.hid (HS7.out.below hb8)
                  have HR8 := Lib.hid (HR7.out.below hb8)
                  have CW2 := Lib.hid (whole_any (partsL r) q2 cq2 w8 hsp2 (by rw [partsL_len, HU.out]; omega))
                  rw [HASC.out.tail.whole, partsL_len, HU.out] at CW2
                  clear hb8 hsp2 CP2 HB7 HS7 HR7 HR1
                  go_wp2_with fail
                  refine CW2.out.mono ?_
                  rintro e w9 ⟨rfl, hb9⟩
                  have HB9 := Lib.hid (HB8.out.trans (hb9.mono HB8.out.size))
                  have HS9 := Lib.hid (HS8.out.below hb9)
                  have HR9 := Lib.hid (HR8.out.below hb9)
                  clear hb9 CW2 HB8 HS8 HR8
                  obtain ⟨b', o', hpe, hbl, c9⟩ := str_cell HR9.out (Below.refl _ w9) (show 0 < (a0 :: r).length by simp)
                  injection hpe with hpe
                  injection hpe with hpe1 hpe2
                  subst hpe1; subst hpe2
                  rw [show (a0 :: r).getD 0 ByteArray.empty = a0 from rfl, Nat.add_zero] at c9
                  have HO := Lib.hid (ownS_one w9 w9.heap.size (Nat.le_refl _) a0)
                  have hba : Below w9.heap.size w9 (w9.alloc (.cells #[.string a0] 9)) := (Below.refl _ _).alloc (Nat.le_refl _) _
                  have HRa := Lib.hid (HR9.out.below hba)
                  have hu0 : (((u + 1 : Nat) : Int) == 0) = false := by first | rfl | (simp; omega)
                  have hul : (a0 :: r).length = u + 1 := by simp [HU.out]
                  have HUL := Lib.hid hul
                  clear hul
                  go_wp2_with (at_builtin; refine wpList_app_str rfl _ _ rfl w9.heap.size _ _ rfl HO.out ⟨b, o, none⟩ _ (a0 :: r) (by first | (rw [HUL.out]; done) | (rw [HUL.out]; rfl)) HRa.out ?lenX ?belX ?_)
                  case lenX => rw [HUL.out]; first | (simp; done) | (simp; omega)
                  case belX => simp
                  intro v' w' hown' hgr
                  have hbA := (hba.grown hgr (by simp) HO.out.lt)
                  obtain ⟨pv, cv, hvv, _, _, hrv⟩ := hown'.row
                  have HBa := Lib.hid (HB9.out.trans (hbA.mono HB9.out.size))
                  have HSa := Lib.hid (HS9.out.below hbA)
                  have CP3 := Lib.hid (parts_any (a0 :: a0 :: r) pv cv w' hrv (by have := HU.out; simp; omega))
                  have hl3 : (a0 :: a0 :: r).length = u + 2 := by simp [HU.out]
                  rw [hl3] at hvv
                  subst hvv
                  have HTW := Lib.hid (show wholeB (partsL (a0 :: a0 :: r)) = false from twice_not (HASC.out.ne (i := 0) (by simp)))
                  have HL3 := Lib.hid (show (partsL (a0 :: a0 :: r)).length = u + 2 + 1 by rw [partsL_len, hl3])
                  rw [hl3] at CP3
                  unfold PartsP at CP3
                  rw [hl3] at CP3
                  generalize hgl : partsL (a0 :: a0 :: r) = L3 at CP3 HTW HL3
                  clear hgl hl3 hown' hgr hbA hrv hba HO HRa HR9 c9 HB9 HS9
                  go_wp2_with fail
                  refine CP3.out.mono ?_
                  rintro e w10 ⟨q3, cq3, rfl, hcq3, hb10, hsp3⟩
                  have HB10 := Lib.hid (HBa.out.trans (hb10.mono HBa.out.size))
                  have HS10 := Lib.hid (HSa.out.below hb10)
                  have CW3 := Lib.hid (whole_any L3 q3 cq3 w10 hsp3 (by rw [HL3.out]; omega))
                  rw [HTW.out, HL3.out] at CW3
                  clear hb10 hsp3 CP3 HBa HSa
                  go_wp2_with fail
                  refine CW3.out.mono ?_
                  rintro e w11 ⟨rfl, hb11⟩
                  have HB11 := Lib.hid (HB10.out.trans (hb11.mono HB10.out.size))
                  have HS11 := Lib.hid (HS10.out.below hb11)
                  clear hb11 CW3 HB10 HS10
                  obtain ⟨bq, oq, hqe, _, _, _⟩ := span_cell HS11.out (Below.refl _ w11) (show 0 < (partsL (a0 :: r)).length by rw [HPL.out]; omega)
                  subst hqe
                  have CW4 := Lib.hid (whole_any ((partsL (a0 :: r)).drop 1) (some ⟨bq, oq + 2, none⟩) (cq - 1) w11 (spans_drop HS11.out) (by rw [List.length_drop, HPL.out]; omega))
                  rw [drop_not HASC.out (by simp), List.length_drop, HPL.out, show u + 1 + 1 - 1 = u + 1 from rfl] at CW4
                  have hcq1 : ¬ cq = 1 := by omega
                  have hz1 : (1 : Int) ≤ ((u + 1 + 1 : Nat) : Int) := by omega
                  have hz2 : ((u + 1 + 1 : Nat) : Int) ≤ (cq : Int) := by omega
                  go_wp2_with fail
                  refine CW4.out.mono ?_
                  rintro e w12 ⟨rfl, hb12⟩
                  have HB12 := Lib.hid (HB11.out.trans (hb12.mono HB11.out.size))
                  have CW5 := Lib.hid (whole_any [] none 0 w12 (Or.inl rfl) (by simp))
                  rw [none_not] at CW5
                  clear hb12 CW4 HB11 HS11
                  go_wp2_with fail
                  refine CW5.out.mono ?_
                  rintro e w13 ⟨rfl, hb13⟩
                  have HB13 := Lib.hid (HB12.out.trans (hb13.mono HB12.out.size))
                  go_wp2_with fail
                  go_ret
                  exact ⟨rfl, HB13.out⟩
end Go.Proofs.Ytafmglnjheeajaa
