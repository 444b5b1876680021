/-
  JournalKnown: the walk.
-/
import Derived.Test.YtkidahlhnhglfaaJnData
import Derived.Test.YtkidahlhnhglfaaSlRef
import Derived.Test.YtkidahlhnhglfaaSlKnown
namespace Go.Proofs.Ytkidahlhnhglfaa
open Go.RowKit

set_option maxHeartbeats 4000000 in
set_option maxRecDepth 100000 in
theorem jawake_yes (w : World) : Calls Try.prog 19 #[] w fun e w' => e = .returned (.bool true) ∧ Below w.heap.size w w' := by
  have C0 := Lib.hid (med_new w)
  go_enter Try.func19, Try.ntmps19
  go_wp2_with fail
  refine C0.out.mono ?_
  rintro e w1 ⟨rfl, hm, hb⟩
  have C1 := Lib.hid (show Calls Try.prog 21 #[.pointer (some ⟨w.heap.size, 0, none⟩), .agg #[.int .i64 3, .int .i64 0, .int .i64 0, .int .i64 0, .string ⟨#[]⟩, .string ⟨#[]⟩, .string ⟨#[]⟩, .string ⟨#[]⟩, .int .i64 0, .int .i64 0, .string ⟨#[]⟩, .string ⟨#[]⟩, .int .i64 9, .slice none 0 0]] w1 fun e w' => e = .returned (.int .i64 0) ∧ Med w' w.heap.size w.heap.size [] (frameL 7 yA) ∧ Below w.heap.size w1 w' from
    add_ok deedA yA none 0 hm (Or.inl rfl) (by decide) (by decide) (by decide) (by decide) pack_A (by decide) (by decide))
  have HB := Lib.hid hb
  clear hm hb
  go_wp2_with fail
  refine C1.out.mono ?_
  rintro e w2 ⟨rfl, hm, hb⟩
  have C2 := Lib.hid (recover_one deedA yA [] fits_A (by decide) (Or.inl (by decide)) (by decide) hm (by rw [List.append_nil, List.nil_append]))
  have HB2 := Lib.hid (HB.out.trans hb)
  have HZ := Lib.hid hm.hB
  clear hm hb C1
  go_wp2_with fail
  refine C2.out.mono ?_
  rintro e w3 ⟨v, q, k, rfl, hone, hown, hm, hb⟩
  obtain ⟨g, c, rfl, hg, cur, hcur, hcs⟩ := hone
  have HB3 := Lib.hid (HB2.out.trans hb)
  have k0 : w3.cell? ⟨g, 0, none⟩ = some (.int .i64 3) := by rw [cell_at hcur 0]; exact hcs 0 _ rfl
  have k12 : w3.cell? ⟨g, 12, none⟩ = some (.int .i64 9) := by rw [cell_at hcur 12]; exact hcs 12 _ rfl
  clear hown hm hb hcur hcs C2
  simp only [List.length_nil]
  go_wp2_with fail
  go_ret
  exact ⟨rfl, HB3.out⟩
theorem recs_one {w : World} {G : Nat} {a b : List UInt8} (h0 : w.cell? ⟨G, 0, none⟩ = some (.string (strB a))) (h1 : w.cell? ⟨G, 1, none⟩ = some (.string (strB b))) : Recs w (some ⟨G, 0, none⟩) [(a, b)] :=
  Or.inr ⟨G, 0, rfl, World.block_lt_of_cell? w _ h0, fun j hj => by
    obtain rfl : j = 0 := by simpa using hj
    exact ⟨h0, h1⟩⟩
def otherL : List UInt8 := [111, 116, 104, 101, 114]
theorem rest_kind (F2 : List UInt8) : kindL (frameL 8 otherL ++ F2) ≠ 7 := by rw [kind_frame]; decide

set_option maxHeartbeats 8000000 in
set_option maxRecDepth 100000 in
theorem jknown_walk (w : World) : Calls Try.prog 6 #[] w fun e w' => e = .returned (.bool true) ∧ Below w.heap.size w w' := by
  have CA := Lib.hid (jawake_yes w)
  have CN := Lib.hid (fun w1 => med_new w1)
  go_enter Try.func6, Try.ntmps6
  go_wp2_with fail
  refine CA.out.mono ?_
  rintro e w1 ⟨rfl, hb1⟩
  have HB1 := Lib.hid hb1
  clear hb1 CA
  go_wp2_with fail
  refine (CN.out w1).mono ?_
  rintro e w2 ⟨rfl, hm, hb⟩
  obtain ⟨B, hB⟩ : ∃ B, w1.heap.size = B := ⟨_, rfl⟩
  rw [hB] at hm hb
  obtain ⟨w3, hw3⟩ : ∃ w3, w2.alloc (.cells #[.string ⟨#[120]⟩, .string ⟨#[121]⟩] 57) = w3 := ⟨_, rfl⟩
  have hb3 : Below w2.heap.size w2 w3 := hw3 ▸ (Below.refl _ _).alloc (Nat.le_refl _) _
  obtain ⟨F1, hF1⟩ : ∃ F, frameL 7 y1 = F := ⟨_, rfl⟩
  have hl1 : F1.length = 87 := by rw [← hF1, frameL_length]; decide
  have C3 := Lib.hid (show Calls Try.prog 21 #[.pointer (some ⟨B, 0, none⟩), .agg #[.int .i64 1, .int .i64 0, .int .i64 0, .int .i64 0, .string ⟨#[]⟩, .string ⟨#[]⟩, .string ⟨#[]⟩, .string ⟨#[]⟩, .int .i64 0, .int .i64 0, .string ⟨#[97]⟩, .string ⟨#[98]⟩, .int .i64 0, .slice (some ⟨w2.heap.size, 0, none⟩) 1 1]] w3 fun e w' => e = .returned (.int .i64 0) ∧ Med w' B B [] F1 ∧ Below B w3 w' from
    hF1 ▸ add_ok deed1 y1 (some ⟨w2.heap.size, 0, none⟩) 1 (hm.below hb3) (recs_one (by rw [← hw3]; exact cell_at (new_block w2 _ _) 0) (by rw [← hw3]; exact cell_at (new_block w2 _ _) 1)) (by decide) (by decide) (by decide) (by decide) pack_1 (by decide) (by decide))
  have HB3 := Lib.hid (show Below w.heap.size w w3 from HB1.out.trans ((hb.trans (hb3.mono hm.hB)).mono (by rw [← hB]; exact HB1.out.size)))
  have HBz := Lib.hid (show w.heap.size ≤ B by rw [← hB]; exact HB1.out.size)
  have HF1 := Lib.hid (And.intro hF1 hl1)
  clear hm hb hb3 CN hF1 hl1
  go_wp2_with fail
  clear hw3
  refine C3.out.mono ?_
  rintro e w4 ⟨rfl, hm4, hb4⟩
  have HB4 := Lib.hid (HB3.out.trans (hb4.mono HBz.out))
  have HM4 := Lib.hid hm4
  have hal5 : Below w4.heap.size w4 (w4.alloc (.cells #[.int .u8 111, .int .u8 116, .int .u8 104, .int .u8 101, .int .u8 114] 5 (5, 6))) := (Below.refl _ _).alloc (Nat.le_refl _) _
  have CF := Lib.hid (show Calls Try.prog 22 #[.int .u8 8, .slice (some ⟨w4.heap.size, 0, none⟩) 5 5] (w4.alloc (.cells #[.int .u8 111, .int .u8 116, .int .u8 104, .int .u8 101, .int .u8 114] 5 (5, 6))) (RetFr (w4.alloc (.cells #[.int .u8 111, .int .u8 116, .int .u8 104, .int .u8 101, .int .u8 114] 5 (5, 6))) (frameL 8 otherL)) from
    refFrame_ok 8 otherL (by decide) (some ⟨w4.heap.size, 0, none⟩) 5 _ (row_lit8 w4 otherL [.int .u8 111, .int .u8 116, .int .u8 104, .int .u8 101, .int .u8 114] (5, 6) rfl) (fun h => nomatch h))
  have hcv := Lib.run_convert_bytes_const (P := Try.prog) w4 25 5 #[.int .u8 111, .int .u8 116, .int .u8 104, .int .u8 101, .int .u8 114] 5 5 Try.underlying25 Try.underlying5
  simp only [List.size_toArray, List.length_cons, List.length_nil] at hcv
  have HAL := Lib.hid hal5
  clear hm4 hb4 hal5 C3
  go_wp2_with fail
  refine CF.out.mono ?_
  rintro e w5 ⟨v5, rfl, ho5, hb5⟩
  obtain ⟨q5, d5, rfl, hd5, hq5, hr5⟩ := own_row ho5
  have hl8 : (frameL 8 otherL).length = 12 := by rw [frameL_length]; decide
  rw [nums_length, hl8]
  have hb45 : Below w4.heap.size w4 w5 := HAL.out.trans (hb5.mono HAL.out.size)
  have HB5 := Lib.hid (HB4.out.trans (hb45.mono HB4.out.size))
  have HM5 := Lib.hid (HM4.out.below hb45)
  have HR5 := Lib.hid (And.intro hr5 hq5)
  have HL8 := Lib.hid hl8
  have CB := Lib.hid (med_bytes HM5.out (by decide) (by rw [HF1.out.2]; decide) 87 (by rw [List.nil_append, HF1.out.2]))
  clear ho5 hb5 hd5 hq5 hr5 hl8 hb45 hcv CF
  go_wp2_with fail
  refine CB.out.mono ?_
  rintro e w6 ⟨q6, d6, rfl, -, hm6, hb6⟩
  have HB6 := Lib.hid (HB5.out.trans (hb6.mono HB5.out.size))
  have CP := Lib.hid (med_append hm6 (frameL 8 otherL) (by rw [HF1.out.2, HL8.out]; decide) 12 HL8.out q5 d5 (HR5.out.1.below hb6) HR5.out.2)
  clear hm6 hb6 CB
  go_wp2_with fail
  refine CP.out.mono ?_
  rintro e w7 ⟨rfl, hm7, hb7⟩
  have HB7 := Lib.hid (HB6.out.trans (hb7.mono HBz.out))
  have C7 := Lib.hid (show Calls Try.prog 21 #[.pointer (some ⟨B, 0, none⟩), .agg #[.int .i64 2, .int .i64 0, .int .i64 0, .int .i64 0, .string ⟨#[]⟩, .string ⟨#[]⟩, .string ⟨#[]⟩, .string ⟨#[]⟩, .int .i64 0, .int .i64 0, .string ⟨#[]⟩, .string ⟨#[]⟩, .int .i64 0, .slice none 0 0]] w7 fun e w' => e = .returned (.int .i64 0) ∧ Med w' B B [] ((F1 ++ frameL 8 otherL) ++ frameL 7 y2) ∧ Below B w7 w' from
    add_ok deed2 y2 none 0 hm7 (Or.inl rfl) (by decide) (by decide) (by decide) (by decide) pack_2 (by decide) (by rw [List.length_append, HF1.out.2, HL8.out]; decide))
  clear hm7 hb7 CP
  go_wp2_with fail
  refine C7.out.mono ?_
  rintro e w8 ⟨rfl, hm8, hb8⟩
  have HB8 := Lib.hid (HB7.out.trans (hb8.mono HBz.out))
  have HM8 := Lib.hid hm8
  have HL2 := Lib.hid (show (frameL 7 y2).length = 71 by rw [frameL_length]; decide)
  have CB8 := Lib.hid (med_bytes HM8.out (by decide) (by rw [List.length_append, List.length_append, HF1.out.2, HL8.out, HL2.out]; decide) 170 (by rw [List.nil_append, List.length_append, List.length_append, HF1.out.2, HL8.out, HL2.out]))
  clear hm8 hb8 C7
  go_wp2_with fail
  refine CB8.out.mono ?_
  rintro e w9 ⟨q9, d9, rfl, -, hm9, hb9⟩
  have HB9 := Lib.hid (HB8.out.trans (hb9.mono HB8.out.size))
  have CR := Lib.hid (recover_one deed1 y1 (frameL 8 otherL ++ frameL 7 y2) fits_1 (by decide) (Or.inr (rest_kind _)) (by rw [List.length_append, HL8.out, HL2.out]; decide) hm9 (by rw [List.nil_append, HF1.out.1, List.append_assoc]))
  rw [List.length_append, HL8.out, HL2.out, HF1.out.1] at CR
  clear hm9 hb9 CB8
  go_wp2_with fail
  refine CR.out.mono ?_
  rintro e w10 ⟨v10, qx, kx, rfl, hone, -, hm10, hb10⟩
  have HB10 := Lib.hid (HB9.out.trans (hb10.mono HBz.out))
  have HM10 := Lib.hid hm10
  obtain ⟨g, c, rfl, -, cur, hcur, hcs⟩ := hone
  have HC0 := Lib.hid (show g < w10.heap.size ∧ w10.cell? ⟨g, 0, none⟩ = some (.int .i64 1) ∧ w10.cell? ⟨g, 13, none⟩ = some (.slice qx 1 kx) from ⟨(Array.getElem?_eq_some_iff.1 hcur).1, by rw [cell_at hcur 0]; exact hcs 0 _ rfl, by rw [cell_at hcur 13]; exact hcs 13 _ rfl⟩)
  have C11 := Lib.hid (show Calls Try.prog 26 #[.agg #[.int .i64 (-1), .int .i64 0, .int .i64 0, .int .i64 0, .string ⟨#[]⟩, .string ⟨#[]⟩, .string ⟨#[]⟩, .string ⟨#[]⟩, .int .i64 0, .int .i64 0, .string ⟨#[]⟩, .string ⟨#[]⟩, .int .i64 0, .slice none 0 0]] w10 (RetPk w10.heap.size none w10) from pack_M ▸ pack_any deedM none 0 w10 (Or.inl rfl) (by decide) (by decide) (by decide) (by decide))
  clear hm10 hb10 hcur hcs CR
  go_wp2_with fail
  refine C11.out.mono ?_
  rintro e w11 ⟨v11, rfl, -, hb11⟩
  rw [errP_none]
  have HBA := Lib.hid hb11
  have C12 := Lib.hid (show Calls Try.prog 26 #[.agg #[.int .i64 0, .int .i64 0, .int .i64 0, .int .i64 0, .string ⟨#[]⟩, .string ⟨#[]⟩, .string ⟨#[]⟩, .string ⟨#[]⟩, .int .i64 0, .int .i64 0, .string ⟨#[]⟩, .string ⟨#[]⟩, .int .i64 268435456, .slice none 0 0]] w11 (RetPk w11.heap.size none w11) from pack_E ▸ pack_any deedE none 0 w11 (Or.inl rfl) (by decide) (by decide) (by decide) (by decide))
  clear hb11 C11
  go_wp2_with fail
  refine C12.out.mono ?_
  rintro e w12 ⟨v12, rfl, -, hb12⟩
  rw [errP_none]
  have HBB := Lib.hid (HBA.out.trans (hb12.mono HBA.out.size))
  have C13 := Lib.hid (show Calls Try.prog 21 #[.pointer (some ⟨B, 0, none⟩), .agg #[.int .i64 0, .int .i64 0, .int .i64 0, .int .i64 (-1), .string ⟨#[]⟩, .string ⟨#[]⟩, .string ⟨#[]⟩, .string ⟨#[]⟩, .int .i64 0, .int .i64 0, .string ⟨#[]⟩, .string ⟨#[]⟩, .int .i64 0, .slice none 0 0]] w12 fun e w' => e = .returned (.int .i64 1) ∧ Below w12.heap.size w12 w' from add_bad deedS none 0 w12 B (Or.inl rfl) (by decide) (by decide) (by decide) (by decide) pack_S)
  clear hb12 C12
  go_wp2_with fail
  refine C13.out.mono ?_
  rintro e w13 ⟨rfl, hb13⟩
  have HBC := Lib.hid (HBB.out.trans (hb13.mono HBB.out.size))
  have C14 := Lib.hid (read_short [] (by decide) 0 rfl (by decide) none 0 w13 (Or.inl rfl) (Nat.le_refl _))
  clear hb13 C13
  go_wp2_with fail
  refine C14.out.mono ?_
  rintro e w14 ⟨rfl, hb14⟩
  have HBD := Lib.hid (HBC.out.trans (hb14.mono HBC.out.size))
  clear hb14 C14
  have hal15 : Below w14.heap.size w14 (w14.alloc (.cells #[.int .i64 0, .int .i64 0, .int .i64 0, .int .i64 0, .string ⟨#[]⟩, .string ⟨#[]⟩, .string ⟨#[]⟩, .string ⟨#[]⟩, .int .i64 0, .int .i64 0, .string ⟨#[]⟩, .string ⟨#[]⟩, .int .i64 0, .slice none 0 0] 59)) := (Below.refl _ _).alloc (Nat.le_refl _) _
  have hz15 : (w14.alloc (.cells #[.int .i64 0, .int .i64 0, .int .i64 0, .int .i64 0, .string ⟨#[]⟩, .string ⟨#[]⟩, .string ⟨#[]⟩, .string ⟨#[]⟩, .int .i64 0, .int .i64 0, .string ⟨#[]⟩, .string ⟨#[]⟩, .int .i64 0, .slice none 0 0] 59)).heap.size = w14.heap.size + 1 := by simp
  obtain ⟨w16, hmk, hr16, hb16⟩ := make_zeros 32768 (by decide) (w14.alloc (.cells #[.int .i64 0, .int .i64 0, .int .i64 0, .int .i64 0, .string ⟨#[]⟩, .string ⟨#[]⟩, .string ⟨#[]⟩, .string ⟨#[]⟩, .int .i64 0, .int .i64 0, .string ⟨#[]⟩, .string ⟨#[]⟩, .int .i64 0, .slice none 0 0] 59))
  have hmk : (Instr.makeSlice 25 (.int .i64 32768) (.int .i64 32768)).run Try.prog (w14.alloc (.cells #[.int .i64 0, .int .i64 0, .int .i64 0, .int .i64 0, .string ⟨#[]⟩, .string ⟨#[]⟩, .string ⟨#[]⟩, .string ⟨#[]⟩, .int .i64 0, .int .i64 0, .string ⟨#[]⟩, .string ⟨#[]⟩, .int .i64 0, .slice none 0 0] 59)) = .ok (.slice (some ⟨w14.heap.size + 1, 0, none⟩) 32768 32768) w16 := by rw [← hz15]; exact hmk
  rw [hz15] at hr16
  obtain ⟨Z, hZ⟩ : ∃ Z, List.replicate 32768 (0 : UInt8) = Z := ⟨_, rfl⟩
  have hZl : Z.length = 32768 := by rw [← hZ, List.length_replicate]
  rw [hZ] at hr16
  have hst : (convert 25 9 (.slice (some ⟨w14.heap.size + 1, 0, none⟩) 32768 32768)).run Try.prog w16 = .ok (.string (strB Z)) w16 := by
    have := run_string w16 Z (some ⟨w14.heap.size + 1, 0, none⟩) 32768 hr16
    rw [hZl] at this
    exact this
  obtain ⟨YF, hpk, hyl⟩ := pack_F Z hZl
  have C17 := Lib.hid (show Calls Try.prog 21 #[.pointer (some ⟨B, 0, none⟩), .agg #[.int .i64 0, .int .i64 0, .int .i64 0, .int .i64 0, .string ⟨#[]⟩, .string ⟨#[]⟩, .string ⟨#[]⟩, .string ⟨#[]⟩, .int .i64 0, .int .i64 0, .string (strB Z), .string ⟨#[]⟩, .int .i64 0, .slice none 0 0]] w16 fun e w' => e = .returned (.int .i64 3) ∧ Below w16.heap.size w16 w' from
    add_long (deedF Z) YF none 0 w16 B (Or.inl rfl) (show 0 ≤ 1000 by decide) (show 0 ≤ 100000 by decide) (by show Z.length ≤ 100000; omega) (show 0 ≤ 100000 by decide) hpk (by omega))
  have HBE := Lib.hid (HBD.out.trans ((hal15.trans (hb16.mono (by rw [hz15]; omega))).mono HBD.out.size))
  obtain ⟨sz, hsz⟩ : ∃ s, strB Z = s := ⟨_, rfl⟩
  rw [hsz] at C17 hst
  clear hr16 hb16 hal15 hZ hZl hpk hyl hsz
  go_wp2_with fail
  clear hmk hst
  refine C17.out.mono ?_
  rintro e w17 ⟨rfl, hb17⟩
  have HBF := Lib.hid (HBE.out.trans (hb17.mono HBE.out.size))
  have CZ := Lib.hid (med_bytes (HM10.out.below HBF.out) (by rw [HF1.out.2]; decide) (by decide) 87 (by rw [List.append_nil, HF1.out.2]))
  have k0 : w17.cell? ⟨g, 0, none⟩ = some (.int .i64 1) := (HBF.out.cell (p := ⟨g, 0, none⟩) HC0.out.1).trans HC0.out.2.1
  have k13 : w17.cell? ⟨g, 13, none⟩ = some (.slice qx 1 kx) := (HBF.out.cell (p := ⟨g, 13, none⟩) HC0.out.1).trans HC0.out.2.2
  have HBG := Lib.hid (HB10.out.trans (HBF.out.mono HB10.out.size))
  clear hb17 C17 hz15
  go_wp2_with fail
  refine CZ.out.mono ?_
  rintro e w18 ⟨q18, d18, rfl, -, -, hb18⟩
  have HBH := Lib.hid (HBG.out.trans (hb18.mono HBG.out.size))
  clear hb18
  go_wp2_with fail
  go_ret
  exact ⟨rfl, HBH.out⟩
end Go.Proofs.Ytkidahlhnhglfaa
