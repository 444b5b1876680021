/-
  Layer atlas: the walk of AtlasKnown, of a program that answers as is asked.
-/
import Derived.Test.YtodcnemnajlbdaaAtAwake
import Derived.Test.YtodcnemnajlbdaaAtKnM
import Derived.Laws.IdiomStrings
import Derived.Deep.CutBlock
namespace Go.Proofs.Ytodcnemnajlbdaa
open Go.RowKit Go.Gz

def boxK (ep : Int) (p : Option Addr) (n c : Nat) : List Value := [.int .i64 ep, .slice p n c]
structure KnI (W : World) (o i : Nat) (wr : World) : Prop where
  bel : Below W.heap.size W wr
  st : ∃ p c, wr.heap[o]? = some (.cells (boxK ((i : Int) + 1) p (i + 1) c).toArray 26 (0, 0)) ∧ RowK KS wr p (knL i) ∧ TyP wr p 40
theorem KnI.below {W wr w' : World} {o i : Nat} (h : KnI W o i wr) (hb : Below wr.heap.size wr w') : KnI W o i w' := by
  obtain ⟨h1, p, c, h2, h3, h4⟩ := h
  exact ⟨h1.trans (hb.mono h1.size), p, c, (hb.block _ (Array.getElem?_eq_some_iff.1 h2).1).trans h2, h3.below hb, h4.below hb⟩
theorem ret_err {w : World} {n : Int} {e : Ending} {w' : World} (h : RetO w (errA n) e w') : ∃ p c q d, e = .returned (.tuple #[.agg #[.int .i64 0, .slice p 0 c], .slice q 0 d, .int .i64 n]) ∧ Below w.heap.size w w' := by
  obtain ⟨p, c, q, d, h1, -, -, -, h2⟩ := h
  exact ⟨p, c, q, d, h1, h2⟩
theorem kn_conv (w : World) (b x : Nat) (hx : x < 256) (h : w.cell? ⟨b, 0, none⟩ = some (.int .u8 (x : Int))) : (convert 33 9 (.slice (some ⟨b, 0, none⟩) 1 1)).run Try.prog w = .ok (.string ⟨#[UInt8.ofNat x]⟩) w := by
  refine run_convert_bytes_back w _ _ 5 ⟨b, 0, none⟩ 1 [UInt8.ofNat x] Try.underlying33 Try.underlying5 Try.underlying9 (fun j hj => ?_)
  have e2 : (UInt8.ofNat x).toNat = x := by rw [UInt8.toNat_ofNat']; omega
  match j, hj with
  | 0, _ => simp [Addr.add, h, e2]

set_option maxHeartbeats 4000000 in
set_option maxRecDepth 100000 in
theorem known_walk (HP : ProgA) (w : World) : Calls Try.prog 4 #[] w fun e w' => e = .returned (.bool true) ∧ Below w.heap.size w w' := by
  have HH := Lib.hid HP
  clear HP
  have CA := Lib.hid (fun w => awake_yes HH.out w)
  go_enter Try.func4, Try.ntmps4
  go_wp2_with fail
  refine (CA.out _).mono ?_
  rintro e w1 ⟨rfl, hb1⟩
  have H1 := Lib.hid hb1
  clear hb1
  go_wp2_with fail
  refine (HH.out.first 2 _).mono ?_
  rintro e w2 ⟨q0, c0, rfl, hrow2, hty2, hb2⟩
  obtain ⟨w3, hw3⟩ : ∃ w3, w2.alloc (.cells #[.int .i64 1, .slice q0 1 c0] 26) = w3 := ⟨_, rfl⟩
  have hb3 : Below w2.heap.size w2 w3 := hw3 ▸ below_alloc _ _
  have HI0 := Lib.hid (show KnI w w2.heap.size 0 w3 from ⟨H1.out.trans ((hb2.trans (hb3.mono hb2.size)).mono H1.out.size), q0, c0, hw3 ▸ alloc_at _ _, hrow2.below hb3, hty2.below hb3⟩)
  have HO := Lib.hid (show w.heap.size ≤ w2.heap.size from Nat.le_trans H1.out.size hb2.size)
  have HW3 := Lib.hid hw3
  obtain ⟨o, ho⟩ : ∃ o, w2.heap.size = o := ⟨_, rfl⟩
  have HOW := Lib.hid ho
  rw [ho] at HI0 HO
  clear hrow2 hty2 hb2 hb3 hw3 ho
  go_wp2_with fail
  rw [HW3.out, HOW.out]
  clear HW3 HOW
  go_loopg [2, 3, 4, 5] 12 (fun gg s2 s3 s4 s5 wr => ∃ i : Nat, i ≤ 11 ∧ 11 - i ≤ gg ∧ s2 = .int .i64 ((i : Int) + 1) ∧ Hid (KnI w o i wr))
  case atStart => exact ⟨0, by omega, by omega, rfl, HI0⟩
  case round =>
    obtain ⟨i, hi, hg, rfl, HI⟩ := hrel
    obtain ⟨lp, lc, hob, hrow, hty⟩ := HI.out.st
    have ho3 : o < wr.heap.size := (Array.getElem?_eq_some_iff.1 hob).1
    have HOB := Lib.hid hob
    have HRW := Lib.hid hrow
    have HTY := Lib.hid hty
    rcases Nat.lt_or_ge i 11 with hlt | hge
    · have hltz : (i : Int) + 1 < 12 := by omega
      have hi0 : (0 : Int) ≤ (i : Int) := by omega
      have x0 : wr.cell? ⟨o, 0, none⟩ = some (.int .i64 ((i : Int) + 1)) := by simp [World.cell?, hob, boxK]
      have x1 : wr.cell? ⟨o, 1, none⟩ = some (.slice lp (i + 1) lc) := by simp [World.cell?, hob, boxK]
      have hw8 : IntKind.u8.wrap ((i : Int) + 1) = (i : Int) + 1 := by simp only [IntKind.wrap, IntKind.bits, IntKind.signed]; simp; omega
      have hw9 : IntKind.u8.wrap (97 + ((i : Int) + 1)) = 97 + ((i : Int) + 1) := by simp only [IntKind.wrap, IntKind.bits, IntKind.signed]; simp; omega
      obtain ⟨wb, hwb⟩ : ∃ wb, wr.alloc (.cells #[.int .u8 (97 + ((i : Int) + 1))] 5) = wb := ⟨_, rfl⟩
      have HBb := Lib.hid (show Below wr.heap.size wr wb from hwb ▸ below_alloc _ _)
      have HWb := Lib.hid hwb
      have hcv : (convert 33 9 (.slice (some ⟨wr.heap.size, 0, none⟩) 1 1)).run Try.prog (wr.alloc (.cells #[.int .u8 (97 + ((i : Int) + 1))] 5)) = .ok (.string (chK (i + 1))) (wr.alloc (.cells #[.int .u8 (97 + ((i : Int) + 1))] 5)) :=
        kn_conv _ wr.heap.size (97 + (i + 1)) (by omega) (by rw [hwb, ← hwb]; simp)
      obtain ⟨key, hkey⟩ : ∃ key, chK (i + 1) = key := ⟨_, rfl⟩
      rw [hkey] at hcv
      have CS := Lib.hid (HH.out.split ((i : Int) + 1) (knL i) lp lc key wb (HRW.out.below HBb.out) (by rw [knL_len]; omega))
      rw [← hkey, kn_split hlt, hkey, knL_len] at CS
      clear hwb hob hrow hty hkey
      go_wp2_with fail
      rw [HWb.out]
      refine CS.out.mono ?_
      rintro e w4 ⟨p4, c4, q4, d4, rfl, hr4, -, ⟨ht4, -⟩, hb4⟩
      simp only [knL_len] at hr4 ⊢
      have HB4 := Lib.hid (HBb.out.trans (hb4.mono HBb.out.size))
      have HOB4 := Lib.hid ((HB4.out.block o ho3).trans HOB.out)
      have k0 := (HB4.out.cell (p := ⟨o, 0, none⟩) ho3).trans x0
      have k1 := (HB4.out.cell (p := ⟨o, 1, none⟩) ho3).trans x1
      have f0 : ∀ j, w4.frozen? ⟨o, j, none⟩ = false := fun j => by simp [World.frozen?, HOB4.out]
      have f0' := f0 0
      have f1' := f0 1
      have ho4 : o < w4.heap.size := Nat.lt_of_lt_of_le ho3 HB4.out.size
      have HF := Lib.hid (show KnI w o (i + 1) (layCells w4 o 0 (boxK (((i + 1 : Nat) : Int) + 1) p4 (i + 1 + 1) c4)) from
        ⟨layCells_below o HO.out _ _ _ (HI.out.bel.trans (HB4.out.mono HI.out.bel.size)), p4, c4, layCells_all _ HOB4.out rfl, hr4.layCells (ht4.ne HOB4.out (by decide)) _ _, ht4.layCells HOB4.out (by decide) _ _⟩)
      clear hr4 ht4 hb4 x0 x1 hcv f0
      go_wp2_with fail
      go_roundg (11 - (i + 1))
      case measure => omega
      case rel => exact ⟨i + 1, by omega, by omega, by go_num, Lib.hid (HF.out.below (below_alloc _ _))⟩
    · obtain rfl : i = 11 := by omega
      have x0 : wr.cell? ⟨o, 0, none⟩ = some (.int .i64 12) := by simp [World.cell?, hob, boxK]
      have x1 : wr.cell? ⟨o, 1, none⟩ = some (.slice lp 12 lc) := by simp [World.cell?, hob, boxK]
      have hl : (knL 11).length ≤ 1000000 := by rw [knL_len]; omega
      have el : (knL 11).length = 12 := knL_len 11
      have C1 := Lib.hid (fun w h => ((el ▸ kn_full ▸ HH.out.split 12 (knL 11) lp lc (sx 122) w h hl : Calls Try.prog 9 #[.agg #[.int .i64 12, .slice lp 12 lc], .string (sx 122)] w (RetO w (errA 8)))).mono fun _ _ h => ret_err h)
      have C2 := Lib.hid (fun w h => ((el ▸ kn_dup ▸ HH.out.split 12 (knL 11) lp lc (sx 99) w h hl : Calls Try.prog 9 #[.agg #[.int .i64 12, .slice lp 12 lc], .string (sx 99)] w (RetO w (errA 1)))).mono fun _ _ h => ret_err h)
      have C3 := Lib.hid (fun w h => ((el ▸ kn_merge0 ▸ HH.out.merge 12 (knL 11) lp lc 11 w h hl : Calls Try.prog 10 #[.agg #[.int .i64 12, .slice lp 12 lc], .int .i64 11] w (RetO w (errA 1)))).mono fun _ _ h => ret_err h)
      have C4 := Lib.hid (fun w h => ((el ▸ kn_merge1 ▸ HH.out.merge 12 (knL 11) lp lc 10 w h hl : Calls Try.prog 10 #[.agg #[.int .i64 12, .slice lp 12 lc], .int .i64 10] w (RetO w ⟨13, mergeM 12 (knL 11) 10, [10, 11], 0⟩))).mono (R' := fun e w' => ∃ p c q d, e = .returned (.tuple #[.agg #[.int .i64 13, .slice p 11 c], .slice q 2 d, .int .i64 0]) ∧ Row w' .i64 q [10, 11] ∧ Below w.heap.size w w') fun _ _ ⟨p, c, q, d, h1, _, h3, _, h5⟩ => ⟨p, c, q, d, by rw [h1]; simp only [kn_merge_len, List.length_cons, List.length_nil], h3, h5⟩)
      have C5 := Lib.hid (fun w h => ((el ▸ kn_move0 ▸ HH.out.move 12 (knL 11) lp lc 0 2 5 w h hl : Calls Try.prog 11 #[.agg #[.int .i64 12, .slice lp 12 lc], .int .i64 0, .int .i64 2, .int .i64 5] w (RetO w (errA 1)))).mono fun _ _ h => ret_err h)
      have C6 := Lib.hid (fun w h => ((el ▸ kn_move1 ▸ HH.out.move 12 (knL 11) lp lc 3 1 5 w h hl : Calls Try.prog 11 #[.agg #[.int .i64 12, .slice lp 12 lc], .int .i64 3, .int .i64 1, .int .i64 5] w (RetO w ⟨13, moveM 12 (knL 11) 3 1, [3], 0⟩))).mono (R' := fun e w' => ∃ p c q d, e = .returned (.tuple #[.agg #[.int .i64 13, .slice p 12 c], .slice q 1 d, .int .i64 0]) ∧ RowK KS w' p (moveM 12 (knL 11) 3 1) ∧ Row w' .i64 q [3] ∧ Below w.heap.size w w') fun _ _ ⟨p, c, q, d, h1, h2, h3, _, h5⟩ => ⟨p, c, q, d, h1, h2, h3, h5⟩)
      have C7 := Lib.hid (fun w h => ((el ▸ kn_move2 ▸ HH.out.move 12 (knL 11) lp lc 3 1 1 w h hl : Calls Try.prog 11 #[.agg #[.int .i64 12, .slice lp 12 lc], .int .i64 3, .int .i64 1, .int .i64 1] w (RetO w (errA 1)))).mono fun _ _ h => ret_err h)
      have C8 := Lib.hid (fun w => ((kn_none (sx 120) ▸ HH.out.split 0 [] none 0 (sx 120) w (Or.inl rfl) (by simp) : Calls Try.prog 9 #[.agg #[.int .i64 0, .slice none 0 0], .string (sx 120)] w (RetO w (errA 1)))).mono fun _ _ h => ret_err h)
      have C10 := Lib.hid (fun w h => (el ▸ kn_may1 ▸ HH.out.may 12 (knL 11) lp lc 1 w h hl : Calls Try.prog 12 #[.agg #[.int .i64 12, .slice lp 12 lc], .int .i64 1] w fun e w' => e = .returned (.bool false) ∧ Below w.heap.size w w'))
      have C11 := Lib.hid (fun w h => (el ▸ kn_may2 ▸ HH.out.may 12 (knL 11) lp lc 2 w h hl : Calls Try.prog 12 #[.agg #[.int .i64 12, .slice lp 12 lc], .int .i64 2] w fun e w' => e = .returned (.bool true) ∧ Below w.heap.size w w'))
      have hb8 := fun w => (show (Instr.build 26 #[]).run Try.prog w = .ok (.agg #[.int .i64 0, .slice none 0 0]) w by kernel_rfl)
      have X0 := Lib.hid x0
      have X1 := Lib.hid x1
      clear hob hrow hty
      go_wp2_with fail
      refine (C1.out _ HRW.out).mono ?_
      rintro e w4 ⟨p4, c4, q4, d4, rfl, hb4⟩
      have H_w4 := Lib.hid hb4
      clear hb4 x0 x1
      have hz_w4 : o < w4.heap.size := Nat.lt_of_lt_of_le ho3 H_w4.out.size
      have x0 := (H_w4.out.cell (p := ⟨o, 0, none⟩) ho3).trans X0.out
      have x1 := (H_w4.out.cell (p := ⟨o, 1, none⟩) ho3).trans X1.out
      go_wp2_with fail
      refine (C2.out _ (HRW.out.below (H_w4.out.alloc H_w4.out.size _))).mono ?_
      rintro e w5 ⟨p_w5, c_w5, q_w5, d_w5, rfl, hb_w5⟩
      have H_w5 := Lib.hid ((H_w4.out.alloc H_w4.out.size _).trans (hb_w5.mono (H_w4.out.alloc H_w4.out.size _).size))
      clear hb_w5
      clear x0 x1
      have hz_w5 : o < w5.heap.size := Nat.lt_of_lt_of_le ho3 H_w5.out.size
      have x0 := (H_w5.out.cell (p := ⟨o, 0, none⟩) ho3).trans X0.out
      have x1 := (H_w5.out.cell (p := ⟨o, 1, none⟩) ho3).trans X1.out
      go_wp2_with fail
      refine (C3.out _ (HRW.out.below (H_w5.out.alloc H_w5.out.size _))).mono ?_
      rintro e w6 ⟨p_w6, c_w6, q_w6, d_w6, rfl, hb_w6⟩
      have H_w6 := Lib.hid ((H_w5.out.alloc H_w5.out.size _).trans (hb_w6.mono (H_w5.out.alloc H_w5.out.size _).size))
      clear hb_w6
      clear x0 x1
      have hz_w6 : o < w6.heap.size := Nat.lt_of_lt_of_le ho3 H_w6.out.size
      have x0 := (H_w6.out.cell (p := ⟨o, 0, none⟩) ho3).trans X0.out
      have x1 := (H_w6.out.cell (p := ⟨o, 1, none⟩) ho3).trans X1.out
      go_wp2_with fail
      refine (C4.out _ (HRW.out.below (H_w6.out.alloc H_w6.out.size _))).mono ?_
      rintro e w7 ⟨p7, c7, q7, d7, rfl, hg7, hb7⟩
      have H_w7 := Lib.hid ((H_w6.out.alloc H_w6.out.size _).trans (hb7.mono (H_w6.out.alloc H_w6.out.size _).size))
      clear hb7 x0 x1
      obtain ⟨w8, hw8⟩ : ∃ w8, w7.alloc (.cells #[.int .i64 13, .slice p7 11 c7] 26) = w8 := ⟨_, rfl⟩
      have hb8' : Below w7.heap.size w7 w8 := hw8 ▸ below_alloc _ _
      have H_w8 := Lib.hid (H_w7.out.trans (hb8'.mono H_w7.out.size))
      have HG8 := Lib.hid (hg7.below hb8')
      have HBX := Lib.hid (show BoxA w8 w7.heap.size 13 (.slice p7 11 c7) from hw8 ▸ BoxA.new w7 _ _ _)
      have HR8 := Lib.hid (HRW.out.below H_w8.out)
      have HW8 := Lib.hid hw8
      have HI8 := Lib.hid (HI.out.bel.trans (H_w8.out.mono HI.out.bel.size))
      have ho8 : o < w8.heap.size := Nat.lt_of_lt_of_le ho3 H_w8.out.size
      have Y0 := Lib.hid ((H_w8.out.cell (p := ⟨o, 0, none⟩) ho3).trans X0.out)
      have Y1 := Lib.hid ((H_w8.out.cell (p := ⟨o, 1, none⟩) ho3).trans X1.out)
      clear hw8 hb8' hg7
      have hz_w7 : o < w7.heap.size := Nat.lt_of_lt_of_le ho3 H_w7.out.size
      have x0 := (H_w7.out.cell (p := ⟨o, 0, none⟩) ho3).trans X0.out
      have x1 := (H_w7.out.cell (p := ⟨o, 1, none⟩) ho3).trans X1.out
      go_wp2_with fail
      rw [HW8.out]
      refine (C5.out _ HR8.out).mono ?_
      rintro e w9 ⟨p9, c9, q9, d9, rfl, hb9⟩
      have H_w9 := Lib.hid hb9
      clear hb9 x0 x1
      have hz_w9 : o < w9.heap.size := Nat.lt_of_lt_of_le ho8 H_w9.out.size
      have x0 := (H_w9.out.cell (p := ⟨o, 0, none⟩) ho8).trans Y0.out
      have x1 := (H_w9.out.cell (p := ⟨o, 1, none⟩) ho8).trans Y1.out
      go_wp2_with fail
      refine (C6.out _ (HR8.out.below (H_w9.out.alloc H_w9.out.size _))).mono ?_
      rintro e w10 ⟨p10, c10, q10, d10, rfl, hr10, hg10, hb10⟩
      have H_w10 := Lib.hid ((H_w9.out.alloc H_w9.out.size _).trans (hb10.mono (H_w9.out.alloc H_w9.out.size _).size))
      clear hb10 x0 x1
      obtain ⟨w11, hw11⟩ : ∃ w11, w10.alloc (.cells #[.int .i64 13, .slice p10 12 c10] 26) = w11 := ⟨_, rfl⟩
      have hb11 : Below w10.heap.size w10 w11 := hw11 ▸ below_alloc _ _
      have H_w11 := Lib.hid (H_w10.out.trans (hb11.mono H_w10.out.size))
      have HG11 := Lib.hid (hg10.below hb11)
      have HRM := Lib.hid (hr10.below hb11)
      have HBC := Lib.hid (show BoxA w11 w10.heap.size 13 (.slice p10 12 c10) from hw11 ▸ BoxA.new w10 _ _ _)
      have HR11 := Lib.hid (HR8.out.below H_w11.out)
      have HW11 := Lib.hid hw11
      have HBX2 := Lib.hid (HBX.out.below H_w11.out)
      have HGA := Lib.hid (HG8.out.below H_w11.out)
      have HI11 := Lib.hid (HI8.out.trans (H_w11.out.mono HI8.out.size))
      have ho11 : o < w11.heap.size := Nat.lt_of_lt_of_le ho8 H_w11.out.size
      have Z0 := Lib.hid ((H_w11.out.cell (p := ⟨o, 0, none⟩) ho8).trans Y0.out)
      have Z1 := Lib.hid ((H_w11.out.cell (p := ⟨o, 1, none⟩) ho8).trans Y1.out)
      clear hw11 hb11 hr10 hg10
      have hz_w10 : o < w10.heap.size := Nat.lt_of_lt_of_le ho8 H_w10.out.size
      have x0 := (H_w10.out.cell (p := ⟨o, 0, none⟩) ho8).trans Y0.out
      have x1 := (H_w10.out.cell (p := ⟨o, 1, none⟩) ho8).trans Y1.out
      go_wp2_with fail
      rw [HW11.out]
      refine (C7.out _ HR11.out).mono ?_
      rintro e w12 ⟨p12, c12, q12, d12, rfl, hb12⟩
      have H_w12 := Lib.hid hb12
      clear hb12 x0 x1
      go_wp2_with fail
      refine (C8.out _).mono ?_
      rintro e w13 ⟨p13, c13, q13, d13, rfl, hb13⟩
      have H_w13 := Lib.hid ((H_w12.out.alloc H_w12.out.size _).trans (hb13.mono (H_w12.out.alloc H_w12.out.size _).size))
      clear hb13
      obtain ⟨hz_c, u0, u1⟩ := HBC.out.below H_w13.out
      go_wp2_with fail
      clear u0 u1
      have elm : (moveM 12 (knL 11) 3 1).length = 12 := by rfl
      have CO := Lib.hid (show ∀ w, RowK KS w p10 (moveM 12 (knL 11) 3 1) → Calls Try.prog 13 #[.agg #[.int .i64 13, .slice p10 12 c10], .string ⟨#[100, 100]⟩] w fun e w' => e = .returned (.tuple #[.agg #[.string (chK 3), .string (chK 4), .int .i64 1, .int .i64 13], .bool true]) ∧ Below w.heap.size w w' from fun w h => by
        have h2 := HH.out.owner 13 (moveM 12 (knL 11) 3 1) p10 c10 ⟨#[100, 100]⟩ w h (by rw [elm]; omega)
        rw [kn_owner, elm] at h2
        exact h2)
      refine (CO.out _ (HRM.out.below (H_w13.out.alloc H_w13.out.size _))).mono ?_
      rintro e w14 ⟨rfl, hb14⟩
      have H_w14 := Lib.hid ((H_w13.out.alloc H_w13.out.size _).trans (hb14.mono (H_w13.out.alloc H_w13.out.size _).size))
      clear hb14
      obtain ⟨sf, hsf⟩ : ∃ sf, chK 3 = sf := ⟨_, rfl⟩
      obtain ⟨st, hst⟩ : ∃ st, chK 4 = st := ⟨_, rfl⟩
      rw [hsf, hst]
      clear CO hsf hst
      obtain ⟨w15, hw15⟩ : ∃ w15, w14.alloc (.cells #[.string sf, .string st, .int .i64 1, .int .i64 13] 40) = w15 := ⟨_, rfl⟩
      have H_w15 := Lib.hid (show Below w11.heap.size w11 w15 from H_w14.out.trans ((hw15 ▸ below_alloc _ _).mono H_w14.out.size))
      have HS15 := Lib.hid (show w14.heap.size < w15.heap.size ∧ w15.cell? ⟨w14.heap.size, 2, none⟩ = some (.int .i64 1) ∧ w15.cell? ⟨w14.heap.size, 3, none⟩ = some (.int .i64 13) by rw [← hw15]; exact ⟨by simp, by simp [go_sem], by simp [go_sem]⟩)
      have HZ15 := Lib.hid (show w15.heap.size = w14.heap.size + 1 by rw [← hw15]; simp)
      have HW15 := Lib.hid hw15
      clear hw15
      obtain ⟨w16, hw16⟩ : ∃ w16, w15.alloc (.cells #[.int .i64 10, .int .i64 11] 3) = w16 := ⟨_, rfl⟩
      have h56 : Below w15.heap.size w15 w16 := hw16 ▸ below_alloc _ _
      have H_w16 := Lib.hid (H_w15.out.trans (h56.mono H_w15.out.size))
      have HN16 := Lib.hid (show Row w16 .i64 (some ⟨w15.heap.size, 0, none⟩) [10, 11] from Or.inr ⟨_, _, rfl, by rw [← hw16]; simp, fun j hj => by
        have hj : j < 2 := hj
        obtain rfl | rfl : j = 0 ∨ j = 1 := by omega
        · rw [← hw16]; simp [go_sem]
        · rw [← hw16]; simp [go_sem]⟩)
      have HW16 := Lib.hid hw16
      have CG := Lib.hid (same_ints [10, 11] [10, 11] q7 (some ⟨w15.heap.size, 0, none⟩) d7 2 w16 (HGA.out.below H_w16.out) HN16.out (by decide) (by decide))
      rw [show decide (([10, 11] : List Int) = [10, 11]) = true from rfl] at CG
      simp only [List.length_cons, List.length_nil, Nat.zero_add] at CG
      rw [HZ15.out] at CG
      obtain ⟨hz_b, v0, v1⟩ := HBX2.out.below H_w14.out
      have HS16 := Lib.hid (show w14.heap.size < w16.heap.size ∧ w16.cell? ⟨w14.heap.size, 2, none⟩ = some (.int .i64 1) ∧ w16.cell? ⟨w14.heap.size, 3, none⟩ = some (.int .i64 13) from ⟨Nat.lt_of_lt_of_le HS15.out.1 h56.size, (h56.cell (p := ⟨w14.heap.size, 2, none⟩) HS15.out.1).trans HS15.out.2.1, (h56.cell (p := ⟨w14.heap.size, 3, none⟩) HS15.out.1).trans HS15.out.2.2⟩)
      clear hw16 h56
      go_wp2_with fail
      rw [HW15.out, HW16.out]
      refine CG.out.mono ?_
      rintro e w17 ⟨rfl, hb17⟩
      have H_w17 := Lib.hid (H_w16.out.trans (hb17.mono H_w16.out.size))
      have HS17 := Lib.hid (show w14.heap.size < w17.heap.size ∧ w17.cell? ⟨w14.heap.size, 2, none⟩ = some (.int .i64 1) ∧ w17.cell? ⟨w14.heap.size, 3, none⟩ = some (.int .i64 13) from ⟨Nat.lt_of_lt_of_le HS16.out.1 hb17.size, (hb17.cell (p := ⟨w14.heap.size, 2, none⟩) HS16.out.1).trans HS16.out.2.1, (hb17.cell (p := ⟨w14.heap.size, 3, none⟩) HS16.out.1).trans HS16.out.2.2⟩)
      clear hb17 v0 v1
      obtain ⟨w18, hw18⟩ : ∃ w18, w17.alloc (.cells #[.int .i64 3] 3) = w18 := ⟨_, rfl⟩
      have h78 : Below w17.heap.size w17 w18 := hw18 ▸ below_alloc _ _
      have H_w18 := Lib.hid (H_w17.out.trans (h78.mono H_w17.out.size))
      have HN18 := Lib.hid (show Row w18 .i64 (some ⟨w17.heap.size, 0, none⟩) [3] from Or.inr ⟨_, _, rfl, by rw [← hw18]; simp, fun j hj => by
        obtain rfl : j = 0 := by simpa using hj
        rw [← hw18]; simp [go_sem]⟩)
      have HS18 := Lib.hid (show w14.heap.size < w18.heap.size ∧ w18.cell? ⟨w14.heap.size, 2, none⟩ = some (.int .i64 1) ∧ w18.cell? ⟨w14.heap.size, 3, none⟩ = some (.int .i64 13) from ⟨Nat.lt_of_lt_of_le HS17.out.1 h78.size, (h78.cell (p := ⟨w14.heap.size, 2, none⟩) HS17.out.1).trans HS17.out.2.1, (h78.cell (p := ⟨w14.heap.size, 3, none⟩) HS17.out.1).trans HS17.out.2.2⟩)
      have HW18 := Lib.hid hw18
      have CG2 := Lib.hid (same_ints [3] [3] q10 (some ⟨w17.heap.size, 0, none⟩) d10 1 w18 (HG11.out.below H_w18.out) HN18.out (by decide) (by decide))
      rw [show decide (([3] : List Int) = [3]) = true from rfl] at CG2
      simp only [List.length_cons, List.length_nil, Nat.zero_add] at CG2
      clear hw18 h78
      go_wp2_with fail
      rw [HW18.out]
      refine CG2.out.mono ?_
      rintro e w19 ⟨rfl, hb19⟩
      have H_w19 := Lib.hid (H_w18.out.trans (hb19.mono H_w18.out.size))
      have s2 := (hb19.cell (p := ⟨w14.heap.size, 2, none⟩) HS18.out.1).trans HS18.out.2.1
      have s3 := (hb19.cell (p := ⟨w14.heap.size, 3, none⟩) HS18.out.1).trans HS18.out.2.2
      clear hb19
      obtain ⟨_, u0, u1⟩ := HBC.out.below H_w19.out
      have x0 := (H_w19.out.cell (p := ⟨o, 0, none⟩) ho11).trans Z0.out
      have x1 := (H_w19.out.cell (p := ⟨o, 1, none⟩) ho11).trans Z1.out
      go_wp2_with fail
      refine (C10.out _ (HR11.out.below H_w19.out)).mono ?_
      rintro e w20 ⟨rfl, hb20⟩
      have H_w20 := Lib.hid (H_w19.out.trans (hb20.mono H_w19.out.size))
      clear hb20 x0 x1
      have x0 := (H_w20.out.cell (p := ⟨o, 0, none⟩) ho11).trans Z0.out
      have x1 := (H_w20.out.cell (p := ⟨o, 1, none⟩) ho11).trans Z1.out
      go_wp2_with fail
      refine (C11.out _ (HR11.out.below H_w20.out)).mono ?_
      rintro e w21 ⟨rfl, hb21⟩
      have H_w21 := Lib.hid (H_w20.out.trans (hb21.mono H_w20.out.size))
      clear hb21 x0 x1
      go_wp2_with fail
      go_ret
      exact ⟨rfl, HI11.out.trans (H_w21.out.mono HI11.out.size)⟩
end Go.Proofs.Ytodcnemnajlbdaa
