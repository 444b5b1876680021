/-
  ParcelLists: the walk.
-/
import Derived.Test.YtkidahlhnhglfaaPcRdLst
import Derived.Test.YtkidahlhnhglfaaPcCuts
namespace Go.Proofs.Ytkidahlhnhglfaa
open Go.RowKit Go.Gz

def fineB (ls : List (List UInt8)) : Bool := ls.all (fun x => decide (x.length ≤ 3))
theorem fine_take (ls : List (List UInt8)) (k : Nat) (h : k < ls.length) : fineB (ls.take (k + 1)) = (fineB (ls.take k) && decide ((ls.getD k []).length ≤ 3)) := by
  have e : ls.getD k [] = ls[k] := by simp [List.getD, h]
  unfold fineB
  rw [List.take_succ_eq_append_getElem h, List.all_append, e]
  simp

theorem num_take (l : List (List UInt8)) (hn : l.length < 268435456) (k : Nat) : rdV numC 0 (.ok (((Codec.list textC).enc l).take k)) ≤ l.length := by
  have hl : (be4 l.length).length = 4 := rfl
  rw [encL_eq]
  by_cases h4 : k < 4
  · have hd : numC.dec ((be4 l.length).take k) = .error 7 := numC.cut l.length k hn (show k < (be4 l.length).length by rw [hl]; exact h4)
    rw [List.take_append_of_le_length (by omega), rdV_no hd]
    exact Nat.zero_le _
  · rw [List.take_append, List.take_of_length_le (by omega), hl, (num_front l.length ((encR textC l).take (k - 4)) hn).1]
    exact Nat.le_refl _

set_option maxHeartbeats 8000000 in
set_option maxRecDepth 1000000 in
theorem lists_walk (ls : List (List UInt8)) (p : Option Addr) (cap cut : Nat) (W0 : World) (hp : Strs W0 p (ls.map strB)) (hl : ls.length ≤ 9223372036854775807) (hx : ∀ l ∈ ls, l.length ≤ 140737488351232) (hc16 : cut < 65536) :
    Calls Try.prog 3 #[.slice p ls.length cap, .int .u16 cut] W0 fun e w' => e = .returned (.bool true) ∧ Below W0.heap.size W0 w' := by
  have C0 := Lib.hid (awake_yes W0)
  have HP := Lib.hid hp
  have HX := Lib.hid hx
  have HL0 := Lib.hid hl
  obtain ⟨n, hN⟩ : ∃ n, ls.length = n := ⟨_, rfl⟩
  have HN := Lib.hid hN
  rw [hN] at hl ⊢
  have HL := Lib.hid hl
  clear hp hl hx hN
  go_enter Try.func3, Try.ntmps3
  go_wp2_with fail
  refine C0.out.mono ?_
  rintro e w1 ⟨rfl, hb1⟩
  have HB1 := Lib.hid hb1
  clear hb1
  go_wp2_with fail
  go_loopw [5, 6, 7] (fun s f i wr => ∃ k : Nat, k ≤ n ∧ k ≤ 300 ∧ i = .int .i64 k ∧ s = .int .i64 (sumL3 (ls.take k) : Nat) ∧ f = .bool (fineB (ls.take k)) ∧ w1 = wr) (fun _ _ i _ => n - (intOf i).toNat)
  case atStart => exact ⟨0, Nat.zero_le _, by omega, rfl, rfl, rfl, rfl⟩
  case round =>
    obtain ⟨k, hk, hk3, rfl, rfl, rfl, rfl⟩ := hrel
    by_cases hlt : k < n
    · have hltz : (k : Int) < (n : Int) := by omega
      by_cases h3 : k < 300
      · have h3z : decide ((k : Int) < 300) = true := by simp; omega
        obtain ⟨b, o, rfl, hbl, hcell⟩ := str_cell HP.out HB1.out (show k < (ls.map strB).length by rw [List.length_map, HN.out]; exact hlt)
        obtain ⟨x, hxk⟩ : ∃ x, ls.getD k [] = x := ⟨_, rfl⟩
        have hgx : (ls.map strB).getD k ByteArray.empty = strB x := by
          rw [← hxk]; simp [List.getD, show k < ls.length by rw [HN.out]; exact hlt]
        rw [hgx] at hcell
        have hsz := strB_size x
        obtain ⟨s, hs⟩ : ∃ s, strB x = s := ⟨_, rfl⟩
        rw [hs] at hcell hsz
        obtain ⟨m, hm⟩ : ∃ m, x.length = m := ⟨_, rfl⟩
        rw [hm] at hsz
        obtain ⟨S, hS⟩ : ∃ S, sumL3 (ls.take k) = S := ⟨_, rfl⟩
        have HS1 := Lib.hid (show sumL3 (ls.take (k + 1)) = S + m by rw [sum_take ls k (by rw [HN.out]; exact hlt), hS, hxk, hm])
        have hsum : S + m ≤ 300 * 140737488351232 := by
          rw [← HS1.out]
          refine Nat.le_trans (sum_len _ 140737488351232 (fun y hy => HX.out y (List.mem_of_mem_take hy))) ?_
          exact Nat.mul_le_mul_right _ (by rw [List.length_take]; omega)
        have hw : IntKind.i64.wrap ((S : Int) + (m : Int)) = ((S + m : Nat) : Int) := by rw [IntKind.wrap_i64]; omega
        obtain ⟨F, hF⟩ : ∃ F, fineB (ls.take k) = F := ⟨_, rfl⟩
        have HF1 := Lib.hid (show fineB (ls.take (k + 1)) = (F && decide (m ≤ 3)) by rw [fine_take ls k (by rw [HN.out]; exact hlt), hF, hxk, hm])
        rw [hS, hF]
        clear hsum hm hs hgx hxk hbl hS hF
        cases F with
        | true =>
          go_wp2_with fail
          go_roundw
          case rel => exact ⟨k + 1, by omega, by omega, by go_num, by rw [HS1.out]; go_num, by rw [HF1.out]; simp <;> omega, by first | rfl | trivial⟩
          case measure => simp [intOf]; omega
        | false =>
          go_wp2_with fail
          go_roundw
          case rel => exact ⟨k + 1, by omega, by omega, by go_num, by rw [HS1.out]; go_num, by rw [HF1.out]; simp, by first | rfl | trivial⟩
          case measure => simp [intOf]; omega
      · have h3z : decide ((k : Int) < 300) = false := by simp; omega
        have h2z : decide ((n : Int) > 200) = true := by simp; omega
        clear hk hk3 h3
        go_wp2_with fail
        go_ret
        exact ⟨rfl, HB1.out⟩
    · obtain rfl : k = n := by omega
      have hltz : ¬ (k : Int) < (k : Int) := by omega
      rw [show ls.take k = ls by rw [← HN.out]; exact List.take_length]
      obtain ⟨S, hS⟩ : ∃ S, sumL3 ls = S := ⟨_, rfl⟩
      rw [hS]
      have HS := Lib.hid hS
      clear hS hk hk3
      by_cases h2 : k ≤ 200
      · have h2z : decide ((k : Int) > 200) = false := by simp; omega
        have H2 := Lib.hid h2
        clear h2
        by_cases h5 : S ≤ 5000
        · have h5z : decide ((S : Int) > 5000) = false := by simp; omega
          have H5 := Lib.hid h5
          clear h5
          have CL := Lib.hid (list_any ls p cap w1 (HP.out.below HB1.out) (by rw [HN.out]; have := H2.out; omega) (by rw [HS.out]; have := H5.out; omega))
          rw [HN.out] at CL
          go_wp2_with fail
          refine CL.out.mono ?_
          rintro e w2 ⟨v2, rfl, hown2, hb2⟩
          obtain ⟨q2, d2, rfl, hd2, -, hrow2⟩ := own_row hown2
          rw [nums_length] at hd2 hown2 ⊢
          have HLE := Lib.hid (encL_len ls)
          obtain ⟨N, hNN⟩ : ∃ N, ((Codec.list textC).enc ls).length = N := ⟨_, rfl⟩
          have HNN := Lib.hid hNN
          have HB12 := Lib.hid hb2
          have HB2 := Lib.hid (HB1.out.trans (hb2.mono HB1.out.size))
          have HD2 := Lib.hid (show N ≤ d2 by rw [← hNN]; exact hd2)
          have HO2 := Lib.hid (show Own w2 w1.heap.size 5 .u8 (.slice q2 N d2) (nums ((Codec.list textC).enc ls)) by rw [← hNN]; exact hown2)
          have CR := Lib.hid (readList_any ((Codec.list textC).enc ls) q2 d2 w2 hrow2 (by
            rw [HLE.out, HN.out, HS.out]
            have := H2.out
            have := H5.out
            omega))
          rw [hNN] at CR ⊢
          clear hNN hown2 hd2 hb2 CL
          go_wp2_with fail
          refine CR.out.mono ?_
          rintro e w3 ⟨q3, d3, l3, rfl, ha3, hn3, hs3, hb3⟩
          have HB3 := Lib.hid (HB2.out.trans (hb3.mono HB2.out.size))
          have HB23 := Lib.hid hb3
          obtain ⟨F, hF⟩ : ∃ F, fineB ls = F := ⟨_, rfl⟩
          rw [hF]
          cases F with
          | false =>
            have hE : rdListE ((Codec.list textC).enc ls) = 2 := by
              refine list_bad ls (by rw [HN.out]; have := H2.out; omega) (fun x hx => show x.length < 268435456 by have := sum_mem ls x hx; rw [HS.out] at this; have := H5.out; omega) ?_
              unfold fineB at hF
              obtain ⟨x, hx1, hx2⟩ := List.all_eq_false.1 hF
              exact ⟨x, hx1, by simpa using hx2⟩
            obtain rfl := hn3 (by rw [hE]; decide)
            rw [hE]
            clear hE hF ha3 hn3 hs3 hb3
            go_wp2_with fail
            go_ret
            exact ⟨rfl, HB3.out⟩
          | true =>
            have hall : ∀ x ∈ ls, x.length ≤ 3 := fun x hx => by
              unfold fineB at hF
              simpa using List.all_eq_true.1 hF x hx
            obtain ⟨hE, hV⟩ := list_ok ls (by rw [HN.out]; have := H2.out; omega) hall
            obtain rfl : ls = l3 := ((ha3 hE).trans hV).symm
            rw [hE, HN.out]
            have HALL := Lib.hid hall
            have HS3 := Lib.hid hs3
            have h2 := H2.out
            have h5 := H5.out
            have hN4 : ((N : Int) != 4 + 4 * (k : Int) + (S : Int)) = false := by
              have h1 := HLE.out
              rw [HNN.out, HN.out, HS.out] at h1
              simp; omega
            clear hE hV hF ha3 hn3 hs3 hb3 hall
            go_wp2_with fail
            clear hN4
            have hkk : k ≤ 200 := h2
            go_loopw [11] (fun i wr => ∃ j : Nat, j ≤ k ∧ i = .int .i64 j ∧ Hid (∃ m, wr = w3.drewN m)) (fun i _ => k - (intOf i).toNat)
            case atStart => exact ⟨0, Nat.zero_le _, rfl, Lib.hid ⟨0, rfl⟩⟩
            case round =>
              obtain ⟨j, hj, rfl, HM⟩ := hrel
              obtain ⟨m, rfl⟩ := HM.out
              by_cases hlt : j < k
              · have hltz : (j : Int) < (k : Int) := by omega
                obtain ⟨b, o, rfl, hbl, c1⟩ := str_cell HP.out HB3.out (show j < (ls.map strB).length by rw [List.length_map, HN.out]; exact hlt)
                obtain ⟨b', o', rfl, hbl', c2⟩ := str_cell HS3.out (Below.refl _ w3) (show j < (ls.map strB).length by rw [List.length_map, HN.out]; exact hlt)
                generalize (ls.map strB).getD j ByteArray.empty = s at c1 c2
                clear hbl hbl'
                go_wp2_with fail
                go_quiet (fail)
                go_wp2_with fail
                go_roundw
                case rel => exact ⟨j + 1, by omega, by go_num, Lib.hid ⟨_, rfl⟩⟩
                case measure => simp [intOf]; omega
              · obtain rfl : j = k := by omega
                have hltz : ¬ (j : Int) < (j : Int) := by omega
                obtain ⟨w4, hw4⟩ : ∃ w4, w3.drewN m = w4 := ⟨_, rfl⟩
                have HB4 := Lib.hid (show Below w3.heap.size w3 w4 from hw4 ▸ below_drewN (Below.refl _ _) m)
                rw [hw4]
                clear hw4
                have hN0 : 4 ≤ N := by have := HLE.out; rw [HNN.out] at this; omega
                have hNh : N ≤ 5804 := by
                  have h1 := HLE.out
                  rw [HNN.out, HN.out, HS.out] at h1
                  omega
                obtain ⟨g, rfl⟩ := own_some HO2.out (by
                  intro h0
                  have h3 := congrArg List.length h0
                  rw [nums_length, HNN.out] at h3
                  simp only [List.length_nil] at h3
                  omega)
                obtain ⟨K, hK⟩ : ∃ K, cut % N = K := ⟨_, rfl⟩
                have hKz : (cut : Int) % (N : Int) = (K : Int) := by rw [← hK]; simp
                have hKN : K < N := by rw [← hK]; exact Nat.mod_lt cut (by omega)
                have hNp : (0 : Int) < (N : Int) := by omega
                have hKNz : (K : Int) < (N : Int) := by omega
                have hNd : (N : Int) ≤ (d2 : Int) := by have := HD2.out; omega
                have hl26 : ls.length < 268435456 := by rw [HN.out]; omega
                have CX := Lib.hid (show ∀ wx, Below w2.heap.size w2 wx → Calls Try.prog 10 #[.slice (some ⟨g, 0, none⟩) (K : Nat) d2, .func (.func 11) #[] #[]] wx (RetRL wx (((Codec.list textC).enc ls).take K)) from fun wx hbx => by
                  have hrow := (own_in (below_own HO2.out hbx)).1
                  have := readList_any (((Codec.list textC).enc ls).take K) (some ⟨g, 0, none⟩) d2 wx (row_take hrow K) (by rw [List.length_take, HLE.out, HN.out, HS.out]; have := H2.out; have := H5.out; omega)
                  rwa [List.length_take, HNN.out, Nat.min_eq_left (by omega)] at this)
                have HEK := Lib.hid (list_cut ls hl26 HALL.out K (by rw [HNN.out]; exact hKN))
                have HEM := Lib.hid (list_more ls hl26 HALL.out)
                have HNB := Lib.hid hNh
                have HB24 := Lib.hid (show Below w2.heap.size w2 w4 from HB23.out.trans (HB4.out.mono HB23.out.size))
                clear hK hKN hNh hN0 hrow2
                go_wp2_with fail
                refine (CX.out w4 HB24.out).mono ?_
                rintro e w5 ⟨q5, d5, l5, rfl, -, hn5, -, hb5⟩
                obtain rfl := hn5 (by rw [HEK.out]; decide)
                rw [HEK.out]
                have HB25 := Lib.hid (HB24.out.trans (hb5.mono HB24.out.size))
                have HO5 := Lib.hid (below_own HO2.out HB25.out)
                clear hn5 hb5 CX
                go_wp2_with (at_builtin; refine wpList_own_row rfl _ _ 25 rfl 5 .u8 1 Try.underlying25 info_byte (by decide) w1.heap.size _ [] rfl (own_empty8 _ _ (by have := HB25.out.size; have := HB12.out.size; omega)) (some ⟨g, 0, none⟩) d2 (nums ((Codec.list textC).enc ls)) (by rw [nums_length, HNN.out]; rfl) (own_in (HO5.out.alloc _)).1 (own_in HO5.out).2 (by rw [nums_length, HNN.out]; have := HNB.out; simp; omega) (by have := HB25.out.size; have := HB12.out.size; simp; omega) ?_)
                intro v6 w6 hown6 hgrow6
                have HB15 := Lib.hid (HB12.out.trans (HB25.out.mono HB12.out.size))
                have HB6 := Lib.hid ((HB15.out.alloc HB15.out.size _).grown hgrow6 (by have := HB15.out.size; simp; omega) (fun g hg => by have := HB15.out.size; injection hg with hg; subst hg; simp; omega))
                have HO6 := Lib.hid hown6
                clear hown6 hgrow6
                go_wp2_with (at_builtin; refine wpList_own_push rfl _ _ 25 rfl 5 .u8 1 Try.underlying25 info_byte (by decide) w1.heap.size _ _ rfl (HO6.out.alloc _) w6.heap.size 1 1 [0] rfl rfl ?newCells (by rw [nums_length, HNN.out]; have := HNB.out; omega) (by have := HB6.out.size; simp; omega) ?_)
                case newCells =>
                  intro j hj
                  obtain rfl : j = 0 := by omega
                  simp
                intro v7 w7 hown7 hgrow7
                have HB7 := Lib.hid ((HB6.out.alloc HB6.out.size _).grown hgrow7 (by have := HB6.out.size; simp; omega) (fun g hg => HO6.out.lt g hg))
                have hown8 : Own w7 w1.heap.size 5 .u8 v7 (nums ((Codec.list textC).enc ls ++ [0])) := by rw [nums_append]; exact hown7
                obtain ⟨q7, d7, rfl, -, -, hrow7⟩ := own_row hown8
                have hl7 : (nums ((Codec.list textC).enc ls ++ [0])).length = N + 1 := by rw [nums_length, List.length_append, HNN.out]; rfl
                have hnm : ((Codec.list textC).enc ls ++ [0]).length ≤ 99999999 := by
                  rw [List.length_append, HLE.out, HN.out, HS.out, List.length_singleton]
                  have := H2.out
                  have := H5.out
                  omega
                have CY := Lib.hid (show Calls Try.prog 10 #[.slice q7 (N + 1 : Nat) d7, .func (.func 11) #[] #[]] w7 (RetRL w7 ((Codec.list textC).enc ls ++ [0])) from by
                  have := readList_any ((Codec.list textC).enc ls ++ [0]) q7 d7 w7 hrow7 hnm
                  rwa [← nums_length, hl7] at this)
                rw [hl7]
                clear hown7 hgrow7 hown8 hrow7 hl7 hnm
                go_wp2_with fail
                refine CY.out.mono ?_
                rintro e w8 ⟨q8, d8, l8, rfl, -, hn8, -, hb8⟩
                obtain rfl := hn8 (by rw [HEM.out]; decide)
                rw [HEM.out]
                have HB8 := Lib.hid (HB7.out.trans (hb8.mono HB7.out.size))
                have CZ := Lib.hid (readList_nil (some ⟨g, 0, none⟩) N d2 w8)
                clear hn8 hb8 CY
                go_wp2_with fail
                refine CZ.out.mono ?_
                rintro e w9 ⟨rfl, hb9⟩
                have HB9 := Lib.hid (HB8.out.trans (hb9.mono HB8.out.size))
                have CW := Lib.hid (list_nil p j cap w9)
                clear hb9 CZ
                go_wp2_with fail
                refine CW.out.mono ?_
                rintro e w10 ⟨rfl, hb10⟩
                have HB10 := Lib.hid (HB9.out.trans (hb10.mono HB9.out.size))
                clear hb10
                go_wp2_with fail
                go_ret
                exact ⟨rfl, HB1.out.trans (HB10.out.mono HB1.out.size)⟩
        · have h5z : decide ((S : Int) > 5000) = true := by simp; omega
          clear h5
          go_wp2_with fail
          go_ret
          exact ⟨rfl, HB1.out⟩
      · have h2z : decide ((k : Int) > 200) = true := by simp; omega
        clear h2
        go_wp2_with fail
        go_ret
        exact ⟨rfl, HB1.out⟩
theorem lists_int (ls : List (List UInt8)) (p : Option Addr) (cap : Nat) (z : Int) (hz : ∃ k : Nat, k < 65536 ∧ z = k) (W0 : World) (hp : Strs W0 p (ls.map strB)) (hl : ls.length ≤ 9223372036854775807) (hx : ∀ l ∈ ls, l.length ≤ 140737488351232) :
    Calls Try.prog 3 #[.slice p ls.length cap, .int .u16 z] W0 fun e w' => e = .returned (.bool true) ∧ Below W0.heap.size W0 w' := by
  obtain ⟨k, hk, rfl⟩ := hz
  exact lists_walk ls p cap k W0 hp hl hx hk
end Go.Proofs.Ytkidahlhnhglfaa
