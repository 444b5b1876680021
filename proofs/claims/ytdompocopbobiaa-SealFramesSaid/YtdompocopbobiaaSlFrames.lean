/-
  SealFrames: the walk.
-/
import Derived.Test.YtdompocopbobiaaSlAwake
import Derived.Test.YtdompocopbobiaaSlRef
namespace Go.Proofs.Ytdompocopbobiaa
open Go.RowKit Go.Gz

set_option maxHeartbeats 4000000 in
set_option maxRecDepth 100000 in
theorem frames_walk (kind : UInt8) (l m : List UInt8) (p pm : Option Addr) (c cm : Nat) (W : World) (hp : Row W .u8 p (nums l)) (hm : Row W .u8 pm (nums m)) (hc : l.length ≤ c) (hcm : m.length ≤ cm) (hpc : p = none → c = 0) (hpm : pm = none → cm = 0)
    (hl1 : l.length ≤ 9223372036854775807) (hm1 : m.length ≤ 9223372036854775807) :
    Calls Try.prog 3 #[.int .u8 kind.toNat, .slice p l.length c, .slice pm m.length cm] W fun e w' => e = .returned (.bool true) ∧ Below W.heap.size W w' := by
  have HP := Lib.hid (And.intro hp (And.intro hc hpc))
  have HM := Lib.hid (And.intro hm (And.intro hcm hpm))
  have C0 := Lib.hid (awake_yes W)
  obtain ⟨n, hn⟩ : ∃ n, l.length = n := ⟨_, rfl⟩
  obtain ⟨nm, hnm⟩ : ∃ nm, m.length = nm := ⟨_, rfl⟩
  rw [hn, hnm]
  have HN := Lib.hid (And.intro hn hnm)
  rw [hn] at hl1
  rw [hnm] at hm1
  clear hp hm hc hcm hpc hpm hn hnm
  by_cases hbig : 33000 < n
  · have hbz : (33000 : Int) < (n : Int) := by omega
    clear hl1 hm1
    go_enter Try.func3, Try.ntmps3
    go_wp2_with fail
    refine C0.out.mono ?_
    rintro e w1 ⟨rfl, hb1⟩
    go_wp2_with fail
    go_ret
    exact ⟨rfl, hb1⟩
  · have hbz : decide ((33000 : Int) < (n : Int)) = false := decide_eq_false (by omega)
    by_cases hmb : 1000 < nm
    · have hmz : (1000 : Int) < (nm : Int) := by omega
      clear hl1 hm1
      go_enter Try.func3, Try.ntmps3
      go_wp2_with fail
      refine C0.out.mono ?_
      rintro e w1 ⟨rfl, hb1⟩
      go_wp2_with fail
      go_ret
      exact ⟨rfl, hb1⟩
    · have hmz : decide ((1000 : Int) < (nm : Int)) = false := decide_eq_false (by omega)
      have CS := Lib.hid (show ∀ w1, Below W.heap.size W w1 → Calls Try.prog 10 #[.slice p n c] w1 fun e w' => e = .returned (.int .u32 (sumL l : Nat)) ∧ Below w1.heap.size w1 w' from fun w1 hb => by
        have := sum_any l (by rw [HN.out.1]; omega) p c w1 (HP.out.1.below hb) HP.out.2.1
        rwa [HN.out.1] at this)
      have CT := Lib.hid (show ∀ w1, Below W.heap.size W w1 → Calls Try.prog 11 #[.slice p n c] w1 fun e w' => e = .returned (.int .u32 (sumL l : Nat)) ∧ w1 = w' from fun w1 hb => by
        have := refSum_any l (by rw [HN.out.1]; omega) p c w1 (HP.out.1.below hb)
        rwa [HN.out.1] at this)
      obtain ⟨S, hS⟩ : ∃ S, sumL l = S := ⟨_, rfl⟩
      rw [hS] at CS CT
      clear hS
      by_cases hlong : 32768 < n
      · have C1 := Lib.hid (fun w1 => frame_long kind n hlong p c w1)
        have C2 := Lib.hid (fun w1 => refFrame_long kind n hlong p c w1)
        have hs := fun w1 : World => run_string w1 [] none 0 (Or.inl rfl)
        simp only [List.length_nil] at hs
        clear hl1 hm1 hlong hbig hmb
        go_enter Try.func3, Try.ntmps3
        go_wp2_with fail
        refine C0.out.mono ?_
        rintro e w1 ⟨rfl, hb1⟩
        have HB1 := Lib.hid hb1; clear hb1
        go_wp2_with fail
        refine (C1.out w1).mono ?_
        rintro e w2 ⟨rfl, rfl⟩
        go_wp2_with fail
        refine (C2.out w1).mono ?_
        rintro e w2 ⟨rfl, rfl⟩
        go_wp2_with fail
        refine (CS.out w1 HB1.out).mono ?_
        rintro e w2 ⟨rfl, hb2⟩
        have HB2 := Lib.hid (HB1.out.trans (hb2.mono HB1.out.size)); clear hb2
        go_wp2_with fail
        refine (CT.out w2 HB2.out).mono ?_
        rintro e w3 ⟨rfl, rfl⟩
        go_wp2_with fail
        go_ret
        exact ⟨rfl, HB2.out⟩
      · have C1 := Lib.hid (show ∀ w1, Below W.heap.size W w1 → Calls Try.prog 8 #[.int .u8 kind.toNat, .slice p n c] w1 (RetFr w1 (frameL kind l)) from fun w1 hb => by
          have := frame_ok kind l (by rw [HN.out.1]; omega) p c w1 (HP.out.1.below hb) HP.out.2.1 HP.out.2.2
          rwa [HN.out.1] at this)
        have C2 := Lib.hid (show ∀ w1, Below W.heap.size W w1 → Calls Try.prog 9 #[.int .u8 kind.toNat, .slice p n c] w1 (RetFr w1 (frameL kind l)) from fun w1 hb => by
          have := refFrame_ok kind l (by rw [HN.out.1]; omega) p c w1 (HP.out.1.below hb) HP.out.2.2
          rwa [HN.out.1] at this)
        have HL := Lib.hid (And.intro hlong hmb)
        obtain ⟨F, hF⟩ : ∃ F, frameL kind l = F := ⟨_, rfl⟩
        have hFl : F.length = 7 + n := by rw [← hF, frameL_length, HN.out.1]
        have HFL := Lib.hid (And.intro hF hFl)
        rw [hF] at C1 C2
        clear hl1 hm1 hlong hbig hmb hF hFl
        go_enter Try.func3, Try.ntmps3
        go_wp2_with fail
        refine C0.out.mono ?_
        rintro e w1 ⟨rfl, hb1⟩
        have HB1 := Lib.hid hb1; clear hb1
        go_wp2_with fail
        refine (C1.out w1 HB1.out).mono ?_
        rintro e w2 ⟨v2, rfl, hown2, hb2⟩
        obtain ⟨q2, d2, rfl, hd2, hqd2, hrow2⟩ := own_row hown2
        rw [nums_length, HFL.out.2] at hd2 ⊢
        have HB2 := Lib.hid (HB1.out.trans (hb2.mono HB1.out.size))
        have HR2 := Lib.hid (And.intro hrow2 (And.intro hd2 hqd2))
        clear hown2 hb2 hrow2 hd2 hqd2
        go_wp2_with fail
        refine (C2.out w2 HB2.out).mono ?_
        rintro e w3 ⟨v3, rfl, hown3, hb3⟩
        obtain ⟨q3, d3, rfl, -, -, hrow3⟩ := own_row hown3
        rw [nums_length, HFL.out.2]
        have HB3 := Lib.hid (HB2.out.trans (hb3.mono HB2.out.size))
        have HR3 := Lib.hid (And.intro (HR2.out.1.below hb3) HR2.out.2)
        have hs2 := run_string w3 F q2 d2 HR3.out.1
        have hs3 := run_string w3 F q3 d3 hrow3
        rw [HFL.out.2] at hs2 hs3
        clear hown3 hb3 hrow3 HR2
        go_wp2_with fail
        refine (CS.out w3 HB3.out).mono ?_
        rintro e w4 ⟨rfl, hb4⟩
        have HB4 := Lib.hid (HB3.out.trans (hb4.mono HB3.out.size))
        have HR4 := Lib.hid (show Row w4 .u8 q2 (nums F) from HR3.out.1.below hb4)
        clear hb4 hs2 hs3
        go_wp2_with fail
        refine (CT.out w4 HB4.out).mono ?_
        rintro e w5 ⟨rfl, rfl⟩
        have HO5 := Lib.hid (own_empty8 w4 W.heap.size HB4.out.size)
        go_wp2_with (at_builtin; refine wpList_own_row rfl _ _ 22 rfl 5 .u8 1 Try.underlying22 info_byte (by decide) W.heap.size _ [] rfl HO5.out q2 d2 (nums F) (by rw [nums_length, HFL.out.2]; rfl) (HR4.out.below ((Below.refl _ _).alloc (Nat.le_refl _) _)) HR3.out.2.2 (by rw [nums_length, HFL.out.2]; have := HL.out; simp; omega) (by have := HB4.out.size; simp; omega) ?_)
        intro v5 w5 hown5 hgrow5
        have HB5 := Lib.hid ((HB4.out.alloc HB4.out.size (.cells #[] 5)).grown hgrow5 (by have := HB4.out.size; simp; omega) (fun g hg => HO5.out.lt g hg))
        have HO5' := Lib.hid (show Own w5 W.heap.size 5 .u8 v5 (nums F) from hown5)
        clear hown5 hgrow5 HO5
        go_wp2_with (at_builtin; refine wpList_own_row rfl _ _ 22 rfl 5 .u8 1 Try.underlying22 info_byte (by decide) W.heap.size _ _ rfl HO5'.out pm cm (nums m) (by rw [nums_length, HN.out.2]; rfl) (HM.out.1.below HB5.out) HM.out.2.2 (by rw [nums_length, nums_length, HFL.out.2, HN.out.2]; have := HL.out; omega) HB5.out.size ?_)
        intro v6 w6 hown6 hgrow6
        have HB6 := Lib.hid (HB5.out.grown hgrow6 HB5.out.size (fun g hg => HO5'.out.lt g hg))
        have hown6' : Own w6 W.heap.size 5 .u8 v6 (nums (F ++ m)) := by rw [nums_append]; exact hown6
        obtain ⟨q6, d6, rfl, hd6, -, hrow6⟩ := own_row hown6'
        have hl6 : (nums (F ++ m)).length = 7 + n + nm := by rw [nums_length, List.length_append, HFL.out.2, HN.out.2]
        rw [hl6] at hd6 ⊢
        have C6 := Lib.hid (open_frame kind l m (by rw [HN.out.1]; have := HL.out; omega) (by rw [HN.out.2]; have := HL.out; omega) (7 + n + nm) (by rw [HN.out.1, HN.out.2]) q6 d6 w6 (by rw [HFL.out.1]; exact hrow6) hd6)
        rw [HN.out.1] at C6
        clear hown6 hgrow6 hown6' hl6 hd6 hrow6 HO5'
        go_wp2_with fail
        refine C6.out.mono ?_
        rintro e w7 ⟨v7, rfl, hown7, hb7⟩
        obtain ⟨q7, d7, rfl, -, -, hrow7⟩ := own_row hown7
        rw [nums_length, HN.out.1]
        have HB7 := Lib.hid (HB6.out.trans (hb7.mono HB6.out.size))
        have hs7 := run_string w7 l q7 d7 hrow7
        have hs8 := run_string w7 l p c (HP.out.1.below HB7.out)
        rw [HN.out.1] at hs7 hs8
        clear hown7 hb7 hrow7
        go_wp2_with fail
        go_ret
        exact ⟨rfl, HB7.out⟩
theorem frames_int (k : Int) (hk : ∃ x : UInt8, k = (x.toNat : Int)) (l m : List UInt8) (p pm : Option Addr) (c cm : Nat) (W : World) (hp : Row W .u8 p (nums l)) (hm : Row W .u8 pm (nums m)) (hc : l.length ≤ c) (hcm : m.length ≤ cm) (hpc : p = none → c = 0) (hpm : pm = none → cm = 0)
    (hl1 : l.length ≤ 9223372036854775807) (hm1 : m.length ≤ 9223372036854775807) :
    Calls Try.prog 3 #[.int .u8 k, .slice p l.length c, .slice pm m.length cm] W fun e w' => e = .returned (.bool true) ∧ Below W.heap.size W w' := by
  obtain ⟨x, rfl⟩ := hk
  exact frames_walk x l m p pm c cm W hp hm hc hcm hpc hpm hl1 hm1
end Go.Proofs.Ytdompocopbobiaa
