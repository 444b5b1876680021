/-
  MediumNone: the walk.
-/
import Derived.Test.YtbolmfpcddgpgaaMdAwake
namespace Go.Proofs.Ytbolmfpcddgpgaa
open Go.RowKit Go.Gz

set_option maxHeartbeats 4000000 in
set_option maxRecDepth 100000 in
theorem none_walk (W : World) : Calls Try.prog 5 #[] W fun e w' => e = .returned (.bool true) ∧ Below W.heap.size W w' := by
  have CA := Lib.hid (awake_yes W)
  go_enter Try.func5, Try.ntmps5
  go_wp2_with fail
  refine CA.out.mono ?_
  rintro e w ⟨rfl, hb0⟩
  have HB0 := Lib.hid hb0
  have C0 := Lib.hid (med_new w)
  have HZ0 := Lib.hid hb0.size
  clear hb0 CA
  go_wp2_with fail
  refine C0.out.mono ?_
  rintro e w1 ⟨rfl, hm, hb⟩
  have C1 := Lib.hid (med_append hm [] (by decide) 0 rfl none 0 (Or.inl rfl) (fun _ => rfl))
  have HB1 := Lib.hid (HB0.out.trans (hb.mono HZ0.out))
  clear hm hb
  go_wp2_with fail
  refine C1.out.mono ?_
  rintro e w2 ⟨rfl, hm, hb⟩
  have C2 := Lib.hid (med_crash hm (by decide) 5 0 (by decide))
  have HB2 := Lib.hid (HB1.out.trans (hb.mono HZ0.out))
  clear hm hb
  go_wp2_with fail
  refine C2.out.mono ?_
  rintro e w3 ⟨rfl, hm, hb⟩
  have C3 := Lib.hid (med_bytes hm (by decide) (by decide) 0 rfl)
  have HB3 := Lib.hid (HB2.out.trans (hb.mono HZ0.out))
  have HZ3 := Lib.hid (show W.heap.size ≤ w3.heap.size from HB3.out.size)
  clear hm hb
  go_wp2_with fail
  refine C3.out.mono ?_
  rintro e w4 ⟨q4, d4, rfl, -, hm, hb⟩
  have C4 := Lib.hid (med_swap (hm.alloc (.cells #[.int .u8 97, .int .u8 98, .int .u8 99] 5 (3, 4))) [97, 98, 99] (by decide) 3 rfl (some ⟨w4.heap.size, 0, none⟩) 3 (row_lit8 w4 [97, 98, 99] [.int .u8 97, .int .u8 98, .int .u8 99] (3, 4) rfl) (by intro h; cases h))
  have HB4 := Lib.hid ((HB3.out.trans (hb.mono HZ3.out)).alloc (by have := HZ3.out; have := hb.size; omega) (.cells #[.int .u8 97, .int .u8 98, .int .u8 99] 5 (3, 4)))
  have hcv := Lib.run_convert_bytes_const (P := Try.prog) w4 28 5 #[.int .u8 97, .int .u8 98, .int .u8 99] 3 3 Try.underlying28 Try.underlying5
  simp only [List.size_toArray, List.length_cons, List.length_nil] at hcv
  clear hm hb
  go_wp2_with fail
  refine C4.out.mono ?_
  rintro e w5 ⟨rfl, hm, hb⟩
  have C5 := Lib.hid (med_crash hm (by decide) 0 0 (by decide))
  have HB5 := Lib.hid (HB4.out.trans (hb.mono HZ0.out))
  clear hm hb hcv
  go_wp2_with fail
  refine C5.out.mono ?_
  rintro e w6 ⟨rfl, hm, hb⟩
  have C6 := Lib.hid (med_bytes hm (by decide) (by decide) 3 rfl)
  have HB6 := Lib.hid (HB5.out.trans (hb.mono HZ0.out))
  have HZ6 := Lib.hid (show W.heap.size ≤ w6.heap.size from HB6.out.size)
  clear hm hb
  go_wp2_with fail
  refine C6.out.mono ?_
  rintro e w7 ⟨q7, d7, rfl, ho, hm, hb⟩
  obtain ⟨q', d', e, hs⟩ := own_string (X := [97, 98, 99]) ho (Below.refl _ _)
  have C7 := Lib.hid (med_append (hm.alloc (.cells #[.int .u8 100] 5 (1, 2))) [100] (by decide) 1 rfl (some ⟨w7.heap.size, 0, none⟩) 1 (row_lit8 w7 [100] [.int .u8 100] (1, 2) rfl) (by intro h; cases h))
  have HB7 := Lib.hid ((HB6.out.trans (hb.mono HZ6.out)).alloc (by have := HZ6.out; have := hb.size; omega) (.cells #[.int .u8 100] 5 (1, 2)))
  have hcv := Lib.run_convert_bytes_const (P := Try.prog) w7 28 5 #[.int .u8 100] 1 1 Try.underlying28 Try.underlying5
  simp only [List.size_toArray, List.length_cons, List.length_nil] at hcv
  clear hm hb ho e
  go_wp2_with fail
  refine C7.out.mono ?_
  rintro e w8 ⟨rfl, hm, hb⟩
  have C8 := Lib.hid (med_append (hm.alloc (.cells #[.int .u8 101] 5 (1, 2))) [101] (by decide) 1 rfl (some ⟨w8.heap.size, 0, none⟩) 1 (row_lit8 w8 [101] [.int .u8 101] (1, 2) rfl) (by intro h; cases h))
  have hb8 := HB7.out.trans (hb.mono HZ0.out)
  have HB8 := Lib.hid (hb8.alloc hb8.size (.cells #[.int .u8 101] 5 (1, 2)))
  have hcv8 := Lib.run_convert_bytes_const (P := Try.prog) w8 28 5 #[.int .u8 101] 1 1 Try.underlying28 Try.underlying5
  simp only [List.size_toArray, List.length_cons, List.length_nil] at hcv8
  clear hm hb hb8 hs hcv
  go_wp2_with fail
  refine C8.out.mono ?_
  rintro e w9 ⟨rfl, hm, hb⟩
  have C9 := Lib.hid (med_loose hm 2 rfl)
  have CS := Lib.hid (med_swap hm [] (by decide) 0 rfl none 0 (Or.inl rfl) (fun _ => rfl))
  have HB9 := Lib.hid (HB8.out.trans (hb.mono HZ0.out))
  clear hm hb hcv8
  go_wp2_with fail
  refine C9.out.mono ?_
  rintro e w10 ⟨rfl, rfl⟩
  go_wp2_with fail
  refine CS.out.mono ?_
  rintro e w11 ⟨rfl, hm, hb⟩
  have C11 := Lib.hid (med_bytes hm (by decide) (by decide) 0 rfl)
  have HB11 := Lib.hid (HB9.out.trans (hb.mono HZ0.out))
  have HZ11 := Lib.hid (show W.heap.size ≤ w11.heap.size from HB11.out.size)
  clear hm hb
  go_wp2_with fail
  refine C11.out.mono ?_
  rintro e w12 ⟨q, d, rfl, -, hm, hb⟩
  have C12 := Lib.hid (med_loose hm 0 rfl)
  have HB12 := Lib.hid (HB11.out.trans (hb.mono HZ11.out))
  clear hm hb
  go_wp2_with fail
  refine C12.out.mono ?_
  rintro e w13 ⟨rfl, rfl⟩
  go_wp2_with fail
  go_ret
  exact ⟨rfl, HB12.out⟩
end Go.Proofs.Ytbolmfpcddgpgaa
