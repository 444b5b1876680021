/-
  ScalarWrites: the walk: any runes: their bytes, or that one may not be; written and read they are the same; which text is less.
-/
import Derived.Test.YtligebpjeolpmaaDoorScAwake
import Derived.Test.YtligebpjeolpmaaDoorScRefMay
import Derived.Test.YtligebpjeolpmaaDoorScRefCompare
namespace Go.Proofs.YtligebpjeolpmaaDoor
open Go.RowKit Go.Gz

theorem refMay_same (r : Int) (w : World) : Calls Tryd.prog 17 #[.int .i32 r] w fun e w' => e = .returned (.bool (Lib.validRune r)) ∧ w' = w :=
  (refMay_any r w).mono fun _ _ ⟨h1, h2⟩ => ⟨h1, h2.symm⟩
theorem compare_any' (a b : ByteArray) (w : World) : Calls Tryd.prog 14 #[.string a, .string b] w fun e w' => e = .returned (.int .i64 (Lib.compareBytes a.data.toList b.data.toList)) ∧ w = w' :=
  (compare_any a b w).mono fun _ _ ⟨h1, h2⟩ => ⟨h1, h2.symm⟩

set_option maxHeartbeats 4000000 in
theorem writes_walk (rs : List Int) (p : Option Addr) (c : Nat) (a b : ByteArray) (W : World) (hT : Lib.Utf8Tabs 1 2 W) (hp : Row W .i32 p rs) (hc : rs.length ≤ c) (hm : rs.length ≤ 9223372036854775807) (ha : a.size ≤ 9223372036854775807) (hb : b.size ≤ 9223372036854775807) :
    Calls Tryd.prog 4 #[.slice p rs.length c, .string a, .string b] W fun e w' => e = .returned (.bool true) ∧ Below W.heap.size W w' := by
  have HT := Lib.hid hT
  have HP := Lib.hid hp
  have C0 := Lib.hid (awake_true W hT)
  clear hT hp
  by_cases h1 : 1000 < rs.length
  · have h1' : (1000 : Int) < (rs.length : Int) := by omega
    go_enter Tryd.func4, Tryd.ntmps4
    go_wp2_with fail
    refine C0.out.mono ?_
    rintro e w1 ⟨rfl, hb1⟩
    go_wp2
    go_ret
    exact ⟨rfl, hb1⟩
  have h1' : (rs.length : Int) ≤ 1000 := by omega
  by_cases h2 : 1000 < a.size
  · have h2' : (1000 : Int) < (a.size : Int) := by omega
    go_enter Tryd.func4, Tryd.ntmps4
    go_wp2_with fail
    refine C0.out.mono ?_
    rintro e w1 ⟨rfl, hb1⟩
    go_wp2
    go_ret
    exact ⟨rfl, hb1⟩
  have h2' : (a.size : Int) ≤ 1000 := by omega
  by_cases h3 : 1000 < b.size
  · have h3' : (1000 : Int) < (b.size : Int) := by omega
    go_enter Tryd.func4, Tryd.ntmps4
    go_wp2_with fail
    refine C0.out.mono ?_
    rintro e w1 ⟨rfl, hb1⟩
    go_wp2
    go_ret
    exact ⟨rfl, hb1⟩
  have h3' : (b.size : Int) ≤ 1000 := by omega
  have hl : rs.length ≤ 1000 := by omega
  clear h1 h2 h3 ha hb hm
  have C2 := Lib.hid fun w1 (hb : Below W.heap.size W w1) => refWrite_any rs p c w1 (HP.out.below hb) (by omega)
  by_cases hv : ∀ r ∈ rs, V r
  · have C1 := Lib.hid fun w1 (hb : Below W.heap.size W w1) => write_ok rs hv p c w1 (HP.out.below hb) (by omega) hc
    have hlen := enc_le4 rs
    have C3 := Lib.hid fun w1 hT1 => read_ok rs hv (⟨(encAll rs).toArray⟩ : ByteArray) (by simp) w1 hT1 (by simp [ByteArray.size]; omega)
    have HV := Lib.hid hv; clear hv
    go_enter Tryd.func4, Tryd.ntmps4
    go_wp2_with fail
    refine C0.out.mono ?_
    rintro e w1 ⟨rfl, hb1⟩
    go_wp2_with fail
    refine (C1.out w1 hb1).mono ?_
    rintro e w2 ⟨rfl, hb2⟩
    have hb02 := hb1.trans (hb2.mono hb1.size)
    go_wp2_with fail
    refine (C2.out w2 hb02).mono ?_
    rintro e w3 ⟨hy, hn, hb3⟩
    obtain rfl := hy HV.out
    have hb03 := hb02.trans (hb3.mono hb02.size)
    clear hy hn hb1 hb2 hb3 hb02
    go_wp2_with fail
    refine (compare_any' a b w3).mono ?_
    rintro e w4 ⟨rfl, rfl⟩
    go_wp2_with fail
    refine (refCompare_any a b w3).mono ?_
    rintro e w5 ⟨rfl, rfl⟩
    go_wp2_with fail
    go_loopw [11] (fun i wr => ∃ k : Nat, k ≤ rs.length ∧ i = .int .i64 k ∧ Below W.heap.size W wr) (fun i _ => rs.length - (intOf i).toNat)
    case atStart => exact ⟨0, Nat.zero_le _, rfl, hb03⟩
    case round =>
      clear hb03
      obtain ⟨k, hk, rfl, hb⟩ := hrel
      by_cases hlt : k < rs.length
      · obtain ⟨bp, op, rfl, hbp, hcell⟩ := row_cell HP.out hb hlt
        generalize rs.getD k 0 = r at hcell
        have hne : (Lib.validRune r != Lib.validRune r) = false := by simp
        have hlt' : (k : Int) < (rs.length : Int) := by omega
        go_wp2
        go_quiet ((first | (go_at_call 16; exact Calls.quiet_of_same (may_any _ _)) | (go_at_call 17; exact Calls.quiet_of_same (refMay_same _ _))))
        go_wp2
        go_roundw
        case rel => exact ⟨k + 1, by omega, by go_num, below_drewN hb _⟩
        case measure => simp [intOf]; omega
      · have hge : ¬ (k : Int) < (rs.length : Int) := by omega
        clear hlt
        go_wp2_with fail
        refine (C3.out wr (tabs_below HT.out hb)).mono ?_
        rintro e w6 ⟨q, d, rfl, hd, hb6, hr⟩
        have hb06 := hb.trans (hb6.mono hb.size)
        have CS := Lib.hid (same_yes rs p q c d w6 (by omega) (HP.out.below hb06) hr)
        clear hr
        go_wp2_with fail
        refine CS.out.mono ?_
        rintro e w7 ⟨rfl, hb7⟩
        go_wp2
        go_ret
        exact ⟨rfl, hb06.trans (hb7.mono hb06.size)⟩
  · have C1 := Lib.hid fun w1 (hb : Below W.heap.size W w1) => write_bad rs hv p c w1 (HP.out.below hb) (by omega) hc
    have HV := Lib.hid hv; clear hv
    go_enter Tryd.func4, Tryd.ntmps4
    go_wp2_with fail
    refine C0.out.mono ?_
    rintro e w1 ⟨rfl, hb1⟩
    go_wp2_with fail
    refine (C1.out w1 hb1).mono ?_
    rintro e w2 ⟨rfl, hb2⟩
    have hb02 := hb1.trans (hb2.mono hb1.size)
    go_wp2_with fail
    refine (C2.out w2 hb02).mono ?_
    rintro e w3 ⟨hy, hn, hb3⟩
    obtain rfl := hn HV.out
    have hb03 := hb02.trans (hb3.mono hb02.size)
    clear hy hn hb1 hb2 hb3 hb02
    go_wp2_with fail
    refine (compare_any' a b w3).mono ?_
    rintro e w4 ⟨rfl, rfl⟩
    go_wp2_with fail
    refine (refCompare_any a b w3).mono ?_
    rintro e w5 ⟨rfl, rfl⟩
    go_wp2_with fail
    go_loopw [11] (fun i wr => ∃ k : Nat, k ≤ rs.length ∧ i = .int .i64 k ∧ Below W.heap.size W wr) (fun i _ => rs.length - (intOf i).toNat)
    case atStart => exact ⟨0, Nat.zero_le _, rfl, hb03⟩
    case round =>
      clear hb03
      obtain ⟨k, hk, rfl, hb⟩ := hrel
      by_cases hlt : k < rs.length
      · obtain ⟨bp, op, rfl, hbp, hcell⟩ := row_cell HP.out hb hlt
        generalize rs.getD k 0 = r at hcell
        have hne : (Lib.validRune r != Lib.validRune r) = false := by simp
        have hlt' : (k : Int) < (rs.length : Int) := by omega
        go_wp2
        go_quiet ((first | (go_at_call 16; exact Calls.quiet_of_same (may_any _ _)) | (go_at_call 17; exact Calls.quiet_of_same (refMay_same _ _))))
        go_wp2
        go_roundw
        case rel => exact ⟨k + 1, by omega, by go_num, below_drewN hb _⟩
        case measure => simp [intOf]; omega
      · have hge : ¬ (k : Int) < (rs.length : Int) := by omega
        clear hlt
        go_wp2
        go_ret
        exact ⟨rfl, hb⟩
end Go.Proofs.YtligebpjeolpmaaDoor
