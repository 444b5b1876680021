/-
  SealKnown: the walk, up to its last region.
-/
import Derived.Test.YtdompocopbobiaaSlAwake
import Derived.Test.YtdompocopbobiaaSlStep
import Derived.Laws.OwnMore
import Derived.Lib.SlBytesConst
namespace Go.Proofs.Ytdompocopbobiaa
open Go.RowKit Go.Gz

theorem row_of_block {w : World} {b : Nat} {cur : Array Value} {t : TypeId} {l : List UInt8} {k : Nat × Nat} (h : w.heap[b]? = some (.cells cur t k)) (hc : ∀ j, j < l.length → cur[j]? = some (.int .u8 ((l.getD j 0).toNat : Int))) : Row w .u8 (some ⟨b, 0, none⟩) (nums l) := by
  refine Or.inr ⟨b, 0, rfl, (Array.getElem?_eq_some_iff.1 h).1, fun j hj => ?_⟩
  rw [nums_length] at hj
  simp only [World.cell?, h, Nat.zero_add]
  rw [nums_getD _ _ hj]
  exact hc j hj
theorem make_zeros (n : Nat) (hn : n ≤ 1000000) (w : World) : ∃ w', (Instr.makeSlice 22 (.int .i64 (n : Int)) (.int .i64 (n : Int))).run Try.prog w = .ok (.slice (some ⟨w.heap.size, 0, none⟩) n n) w' ∧
    Row w' .u8 (some ⟨w.heap.size, 0, none⟩) (nums (List.replicate n 0)) ∧ Below w.heap.size w w' := by
  obtain ⟨i0, hi, hz0, hz1, hz2⟩ := info_parts info_byte
  have hb : (i0.bytes : Int) * (n : Int) ≤ 281474976710656 := by rw [hz2]; omega
  have hr := run_make (P := Try.prog) w 22 5 i0 (.int .u8 0) Try.underlying22 hi hz0 .i64 .i64 n n (by omega) (by omega) hb (by omega)
  simp only [Int.toNat_natCast] at hr
  refine ⟨_, hr, row_of_block (by show (w.heap.push _)[w.heap.size]? = _; rw [Array.getElem?_push_size]) (fun j hj => ?_), (Below.refl _ _).alloc (Nat.le_refl _) _⟩
  rw [List.length_replicate] at hj
  have : (List.replicate n (0 : UInt8)).getD j 0 = 0 := by simp [List.getD, hj]
  rw [this, hz1, Nat.mul_one]
  simp [madeCells, hj, Value.cells, Nat.mod_one]

def wikiL : List UInt8 := [87, 105, 107, 105, 112, 101, 100, 105, 97]
def wikiC : Obj := .cells #[.int .u8 87, .int .u8 105, .int .u8 107, .int .u8 105, .int .u8 112, .int .u8 101, .int .u8 100, .int .u8 105, .int .u8 97] 5 (9, 10)
theorem wiki_row (w : World) : Row (w.alloc wikiC) .u8 (some ⟨w.heap.size, 0, none⟩) (nums wikiL) :=
  row_of_block (by show (w.heap.push _)[w.heap.size]? = _; rw [Array.getElem?_push_size]; rfl) (fun j hj => by
    have hj : j < 9 := hj
    match j, hj with
    | 0, _ => rfl | 1, _ => rfl | 2, _ => rfl | 3, _ => rfl | 4, _ => rfl | 5, _ => rfl | 6, _ => rfl | 7, _ => rfl | 8, _ => rfl)
def badL : List UInt8 := [255, 255, 1, 0, 0, 0, 0]
def badC : Obj := .cells #[.int .u8 255, .int .u8 255, .int .u8 1, .int .u8 0, .int .u8 0, .int .u8 0, .int .u8 0] 5
theorem bad_row (w : World) : Row (w.alloc badC) .u8 (some ⟨w.heap.size, 0, none⟩) (nums badL) := row_lit w .u8 5 (nums badL)
theorem bad_err : errL badL = 3 := by decide

set_option maxHeartbeats 8000000 in
set_option maxRecDepth 100000 in
theorem known_walk (W : World) : Calls Try.prog 4 #[] W fun e w' => e = .returned (.bool true) ∧ Below W.heap.size W w' := by
  have C0 := Lib.hid (awake_yes W)
  go_enter Try.func4, Try.ntmps4
  go_wp2_with fail
  refine C0.out.mono ?_
  rintro e w1 ⟨rfl, hb1⟩
  have HB1 := Lib.hid hb1; clear hb1
  have C1 := Lib.hid (show Calls Try.prog 8 #[.int .u8 9, .slice (some ⟨w1.heap.size, 0, none⟩) 9 9] (w1.alloc wikiC) (RetFr (w1.alloc wikiC) (frameL 9 wikiL)) from
    frame_ok 9 wikiL (by decide) (some ⟨w1.heap.size, 0, none⟩) 9 (w1.alloc wikiC) (wiki_row w1) (by decide) (fun h => by cases h))
  have HB1a := Lib.hid (HB1.out.alloc HB1.out.size wikiC)
  obtain ⟨w2, hw2⟩ : ∃ w2, w1.alloc wikiC = w2 := ⟨_, rfl⟩
  have hcv : (convert 22 22 (.slice (some ⟨w1.heap.size, 0, none⟩) 9 9)).run Try.prog (w1.alloc (.cells #[.int .u8 87, .int .u8 105, .int .u8 107, .int .u8 105, .int .u8 112, .int .u8 101, .int .u8 100, .int .u8 105, .int .u8 97] 5)) = .ok (.slice (some ⟨w1.heap.size, 0, none⟩) 9 9) w2 := by
    rw [← hw2]
    exact Lib.run_convert_bytes_const (P := Try.prog) w1 22 5 #[.int .u8 87, .int .u8 105, .int .u8 107, .int .u8 105, .int .u8 112, .int .u8 101, .int .u8 100, .int .u8 105, .int .u8 97] 9 9 Try.underlying22 Try.underlying5
  rw [hw2] at C1 HB1a
  clear hw2
  go_wp2_with fail
  refine C1.out.mono ?_
  rintro e w3 ⟨v3, rfl, hown3, hb3⟩
  obtain ⟨q, d, rfl, hd, hqd, -⟩ := own_row hown3
  have hl3 : (nums (frameL 9 wikiL)).length = 16 := by rw [nums_length, frameL_length]; rfl
  rw [hl3] at hown3 hd ⊢
  have HO3 := Lib.hid hown3
  have HD := Lib.hid (And.intro hd hqd)
  have HB3 := Lib.hid (HB1a.out.trans (hb3.mono HB1a.out.size))
  clear hown3 hb3 hl3 C1 hd hqd HB1a hcv
  obtain ⟨w4, hm4, hr4, hb4⟩ := make_zeros 32768 (by decide) w3
  have hm4' : (Instr.makeSlice 22 (.int .i64 32768) (.int .i64 32768)).run Try.prog w3 = .ok (.slice (some ⟨w3.heap.size, 0, none⟩) 32768 32768) w4 := hm4
  have HB4 := Lib.hid (HB3.out.trans (hb4.mono HB3.out.size))
  have HO4 := Lib.hid (below_own HO3.out hb4)
  have hzl : (List.replicate 32768 (0 : UInt8)).length = 32768 := List.length_replicate
  obtain ⟨Z, hZ⟩ : ∃ Z, List.replicate 32768 (0 : UInt8) = Z := ⟨_, rfl⟩
  rw [hZ] at hr4 hzl
  clear hZ hm4
  have C4 := Lib.hid (show Calls Try.prog 8 #[.int .u8 1, .slice (some ⟨w3.heap.size, 0, none⟩) 32768 32768] w4 (RetFr w4 (frameL 1 Z)) from by
    have := frame_ok 1 Z (by omega) (some ⟨w3.heap.size, 0, none⟩) 32768 w4 hr4 (by omega) (fun h => by cases h)
    rw [hzl] at this
    exact this)
  have HZ := Lib.hid hzl
  clear hzl hr4 hb4
  go_wp2_with fail
  refine C4.out.mono ?_
  rintro e w5 ⟨v5, rfl, hown5, hb5⟩
  obtain ⟨q5, d5, rfl, hd5, -, hrow5⟩ := own_row hown5
  have hl5 : (nums (frameL 1 Z)).length = 32775 := by rw [nums_length, frameL_length, HZ.out]
  rw [hl5] at hd5 ⊢
  have HR5 := Lib.hid (And.intro hrow5 hd5)
  have HB5 := Lib.hid (HB4.out.trans (hb5.mono HB4.out.size))
  have HO5 := Lib.hid (below_own HO4.out hb5)
  clear hown5 hb5 hl5 hrow5 hd5 C4 hm4'
  obtain ⟨w6, hm6, -, hb6⟩ := make_zeros 32769 (by decide) w5
  have hm6' : (Instr.makeSlice 22 (.int .i64 32769) (.int .i64 32769)).run Try.prog w5 = .ok (.slice (some ⟨w5.heap.size, 0, none⟩) 32769 32769) w6 := hm6
  have C6 := Lib.hid (show Calls Try.prog 8 #[.int .u8 1, .slice (some ⟨w5.heap.size, 0, none⟩) 32769 32769] w6 fun e w' => e = .returned (.tuple #[.slice none 0 0, .int .i64 3]) ∧ w6 = w' from
    frame_long 1 32769 (by decide) (some ⟨w5.heap.size, 0, none⟩) 32769 w6)
  have HB6 := Lib.hid (HB5.out.trans (hb6.mono HB5.out.size))
  have HO6 := Lib.hid (below_own HO5.out hb6)
  have HR6 := Lib.hid (And.intro (HR5.out.1.below hb6) HR5.out.2)
  clear hb6 hm6
  go_wp2_with fail
  refine C6.out.mono ?_
  rintro e w7 ⟨rfl, rfl⟩
  clear hm6' C6
  have C7 := Lib.hid (show Calls Try.prog 12 #[.slice q5 32775 d5] w6 _ from by
    refine open_frame 1 Z [] (by rw [HZ.out]; omega) (by simp) 32775 (by rw [HZ.out]; rfl) q5 d5 w6 (by rw [List.append_nil]; exact HR6.out.1) HR6.out.2)
  rw [HZ.out] at C7
  go_wp2_with fail
  refine C7.out.mono ?_
  rintro e w7 ⟨v7, rfl, hown7, hb7⟩
  obtain ⟨q7, d7, rfl, -, -, -⟩ := own_row hown7
  rw [nums_length, HZ.out]
  simp only [u8_one]
  have HB7 := Lib.hid (HB6.out.trans (hb7.mono HB6.out.size))
  have HO7 := Lib.hid (below_own HO6.out hb7)
  clear hown7 hb7 C7
  have C8 := Lib.hid (show Calls Try.prog 12 #[.slice (some ⟨w7.heap.size, 0, none⟩) 7 7] (w7.alloc badC) _ from
    open_bad badL 3 bad_err (by decide) (by decide) 7 rfl (some ⟨w7.heap.size, 0, none⟩) 7 (w7.alloc badC) (bad_row w7) (by decide))
  go_wp2_with fail
  refine C8.out.mono ?_
  rintro e w8 ⟨rfl, hb8⟩
  have HB8 := Lib.hid ((HB7.out.alloc HB7.out.size badC).trans (hb8.mono (by have := HB7.out.size; simp; omega)))
  have HO8 := Lib.hid (below_own HO7.out (((Below.refl _ _).alloc (Nat.le_refl _) badC).trans (hb8.mono (by simp))))
  clear hb8 C8
  have hd16 : (6 : Int) ≤ (d : Int) := by have := HD.out.1; omega
  have C9 := Lib.hid (show Calls Try.prog 12 #[.slice q 6 d] w8 _ from by
    obtain ⟨q', d', he, _, _, hrow⟩ := own_row HO8.out
    injection he with h1 h2 h3
    subst h1 h3
    exact open_bad ((frameL 9 wikiL).take 6) 7 (err_cut 9 wikiL (by decide) 6 (by decide)) (by decide) (by rw [List.length_take]; omega) 6 (by rw [List.length_take, frameL_length]; rfl) q d w8 (row_take hrow 6) (by have := HD.out.1; omega))
  go_wp2_with fail
  refine C9.out.mono ?_
  rintro e w9 ⟨rfl, hb9⟩
  have HB9 := Lib.hid (HB8.out.trans (hb9.mono HB8.out.size))
  have HO9 := Lib.hid (below_own HO8.out hb9)
  clear hb9 C9
  have hall : AllIs (frameL 9 wikiL ++ (frameL 9 wikiL).take 9) [9 :: wikiL] 16 := all_frame (kind := 9) (l := wikiL) (by decide) (.stop (by rw [err_cut 9 wikiL (by decide) 9 (by decide)]; decide))
  have hF16 : (frameL 9 wikiL).length = 16 := by rw [frameL_length]; rfl
  obtain ⟨F, hF⟩ : ∃ F, frameL 9 wikiL = F := ⟨_, rfl⟩
  rw [hF] at HO9 hall hF16
  have HFF := Lib.hid hF
  have HFL := Lib.hid hF16
  have HAL := Lib.hid hall
  have HR9 := Lib.hid (show Row w9 .u8 q (nums F) from by
    obtain ⟨q', d', he, _, _, hrow⟩ := own_row HO9.out
    injection he with h1 h2 h3
    rw [h1]; exact hrow)
  clear hF hF16 hall HO3 HO4 HO5 HO6 HO7 HO8 HR5 HR6 HB1 HB3 HB4 HB5 HB6 HB7 HB8 C0
  have mx := mixedSl
  go_wp2_with fail
  refine wp_region_invC mx (by kernel_rfl) (KnI q d F [9 :: wikiL] w9) ?_ ?_ ?_
  · intro vals
    exact ⟨fun h => (by cases h), fun h => (by cases h), fun h => (by cases h), fun h => (by cases h), fun h => (by cases h), fun h => (by cases h), (Below.refl _ _).drew, fun h => (by cases h)⟩
  · intro i o L vals x hi hL hdep hC hI
    have hlt : i < 12 := by have := (List.getElem?_eq_some_iff.1 hi).1; simpa using this
    generalize hA : frA _ _ L vals = a'
    have hT1 : a'.tmps.getD 1 undef = .slice q 16 d := by rw [← hA, frA_base (by kernel_rfl)]; rfl
    have hD := Lib.hid (fun k t (hk : L k = true) (ht : dstOf _ k = some t) => hA ▸ frA_done (by kernel_rfl) (vals := vals) hk ht)
    clear hA
    have hrow := HR9.out.below hI.bl
    have hsz := hI.bl.size
    obtain rfl | rfl | rfl | rfl | rfl | rfl | rfl | rfl | rfl | rfl | rfl | rfl : i = 0 ∨ i = 1 ∨ i = 2 ∨ i = 3 ∨ i = 4 ∨ i = 5 ∨ i = 6 ∨ i = 7 ∨ i = 8 ∨ i = 9 ∨ i = 10 ∨ i = 11 := by omega
    all_goals
      injection hi with hi
      subst hi
      try simp [Region.binds] at hdep
    · exact step_run rfl (v := .slice (some ⟨x.heap.size, 0, none⟩) 0 0) (w' := x.alloc (.cells #[] 5)) (by go_simp)
        ⟨fun _ _ => own_empty8 x _ hsz, hI.v1, fun h => absurd (hC.path [2, 0] (by kernel_rfl) 2 rfl h 0 rfl) (by simp [hL]), hI.v3, hI.v4, fun h => absurd (hC.path [5, 2, 0] (by kernel_rfl) 5 rfl h 0 rfl) (by simp [hL]), hI.bl.alloc hsz _, fun h => absurd (hC.path [6, 5, 2, 0] (by kernel_rfl) 6 rfl h 0 rfl) (by simp [hL])⟩
    · exact step_run rfl (v := .slice q 16 d) (w' := x) (by go_simp) ⟨hI.v0, fun _ => rfl, hI.v2, hI.v3, hI.v4, hI.v5, hI.bl, hI.post⟩
    · have d69 := hD.out 0 69 (by simp [hdep]) rfl
      have d70 := hD.out 1 70 (by simp [hdep]) rfl
      rw [hI.v1 (by simp [hdep])] at d70
      have ho := hI.v0 (by simp [hdep]) hL
      refine stepI_own_row rfl (.tmp 69) (.tmp 70) rfl w9.heap.size (vals 0) [] d69 ho q d (nums F) (by rw [nums_length, HFL.out]; exact d70) hrow HD.out.2 (by rw [nums_length, HFL.out]; decide) hsz ?_
      intro v' x' ho' hg'
      exact ⟨fun _ h => absurd h (by simp [updL]), hI.v1, fun _ _ => ho', hI.v3, hI.v4, fun h => absurd (hC.path [5, 2] (by kernel_rfl) 5 rfl h 2 rfl) (by simp [hL]), hI.bl.grown hg' hsz (fun g hg => ho.lt g hg), fun h => absurd (hC.path [6, 5, 2] (by kernel_rfl) 6 rfl h 2 rfl) (by simp [hL])⟩
    · exact step_run rfl (v := .slice q 16 d) (w' := x) (by go_simp) ⟨hI.v0, hI.v1, hI.v2, fun _ => rfl, hI.v4, hI.v5, hI.bl, hI.post⟩
    · have d72 := hD.out 3 72 (by simp [hdep]) rfl
      rw [hI.v3 (by simp [hdep])] at d72
      have hd9 : (9 : Int) ≤ (d : Int) := by have := HD.out.1; omega
      exact step_run rfl (v := .slice q 9 d) (w' := x) (by go_simp) ⟨hI.v0, hI.v1, hI.v2, hI.v3, fun _ => rfl, hI.v5, hI.bl, hI.post⟩
    · have d71 := hD.out 2 71 (by simp [hdep]) rfl
      have d73 := hD.out 4 73 (by simp [hdep]) rfl
      rw [hI.v4 (by simp [hdep])] at d73
      have h2 : L 2 = true := by simp [hdep]
      have ho := hI.v2 h2 hL
      have hl9 : (F.take 9).length = 9 := by rw [List.length_take, HFL.out]; rfl
      refine stepI_own_row rfl (.tmp 71) (.tmp 73) rfl w9.heap.size (vals 2) (nums F) d71 ho q d (nums (F.take 9)) (by rw [nums_length, hl9]; exact d73) (row_take hrow 9) HD.out.2 (by rw [nums_length, nums_length, HFL.out, hl9]; decide) hsz ?_
      intro v' x' ho' hg'
      rw [← nums_append] at ho'
      exact ⟨fun _ h => absurd h (by simp [updL, h2]), hI.v1, fun _ h => absurd h (by simp [updL]), hI.v3, hI.v4, fun _ => ho', hI.bl.grown hg' hsz (fun g hg => ho.lt g hg), fun h => absurd (hC.path [6, 5] (by kernel_rfl) 6 rfl h 5 rfl) (by simp [hL])⟩
    · have d74 := hD.out 5 74 (by simp [hdep]) rfl
      have h5 : L 5 = true := by simp [hdep]
      have h2 : L 2 = true := hC.path [5, 2] (by kernel_rfl) 5 rfl h5 2 rfl
      have n7 : L 7 = false := by
        cases h : L 7 with
        | false => rfl
        | true => exact absurd (hC.path [7, 6] (by kernel_rfl) 7 rfl h 6 rfl) (by simp [hL])
      have n8 : L 8 = false := by
        cases h : L 8 with
        | false => rfl
        | true => exact absurd (hC.path [8, 7] (by kernel_rfl) 8 rfl h 7 rfl) (by simp [n7])
      have n9 : L 9 = false := by
        cases h : L 9 with
        | false => rfl
        | true => exact absurd (hC.path [9, 7] (by kernel_rfl) 9 rfl h 7 rfl) (by simp [n7])
      have n10 : L 10 = false := by
        cases h : L 10 with
        | false => rfl
        | true => exact absurd (hC.path [10, 8] (by kernel_rfl) 10 rfl h 8 rfl) (by simp [n8])
      have n11 : L 11 = false := by
        cases h : L 11 with
        | false => rfl
        | true => exact absurd (hC.path [11, 9] (by kernel_rfl) 11 rfl h 9 rfl) (by simp [n9])
      refine step_enter rfl (w' := x) (by go_simp) ((all_own _ (by rw [List.length_append, List.length_take, HFL.out]; decide) _ _ HAL.out _ _ x (hI.v5 h5)).mono ?_)
      rintro e x' ⟨va, vs, rfl, hol, hit, hb⟩
      exact ⟨_, rfl, fun _ h => absurd h (by simp [updL, h2]), hI.v1, fun _ h => absurd h (by simp [updL, h5]), hI.v3, hI.v4, fun _ => below_own (hI.v5 h5) hb, hI.bl.trans (hb.mono hsz),
        fun _ => ⟨va, vs, rfl, fun h => absurd h (by simp [updL, n7]), fun h => absurd h (by simp [updL, n8]), fun h => absurd h (by simp [updL, n9]), fun h => absurd h (by simp [updL, n10]), fun h => absurd h (by simp [updL, n11]), ownL_mono hol hsz, hit.mono hsz⟩⟩
    · have h6 : L 6 = true := by simp [hdep]
      obtain ⟨va, vs, e6, e7, e8, e9, e10, e11, hol, hit⟩ := hI.post h6
      have d75 := hD.out 6 75 h6 rfl
      rw [e6] at d75
      exact step_run rfl (v := .tuple #[va, .int .i64 16]) (w' := x) (by go_simp) ⟨hI.v0, hI.v1, hI.v2, hI.v3, hI.v4, hI.v5, hI.bl, fun _ => ⟨va, vs, e6, fun _ => rfl, e8, e9, e10, e11, hol, hit⟩⟩
    · have h7 : L 7 = true := by simp [hdep]
      have h6 : L 6 = true := hC.path [7, 6] (by kernel_rfl) 7 rfl h7 6 rfl
      obtain ⟨va, vs, e6, e7, e8, e9, e10, e11, hol, hit⟩ := hI.post h6
      have d68 := hD.out 7 68 h7 rfl
      rw [e7 h7] at d68
      exact step_run rfl (v := va) (w' := x) (by go_simp) ⟨hI.v0, hI.v1, hI.v2, hI.v3, hI.v4, hI.v5, hI.bl, fun _ => ⟨va, vs, e6, e7, fun _ => rfl, e9, e10, e11, hol, hit⟩⟩
    · have h7 : L 7 = true := by simp [hdep]
      have h6 : L 6 = true := hC.path [7, 6] (by kernel_rfl) 7 rfl h7 6 rfl
      obtain ⟨va, vs, e6, e7, e8, e9, e10, e11, hol, hit⟩ := hI.post h6
      have d68 := hD.out 7 68 h7 rfl
      rw [e7 h7] at d68
      exact step_run rfl (v := .int .i64 16) (w' := x) (by go_simp) ⟨hI.v0, hI.v1, hI.v2, hI.v3, hI.v4, hI.v5, hI.bl, fun _ => ⟨va, vs, e6, e7, e8, fun _ => rfl, e10, e11, hol, hit⟩⟩
    · have h8 : L 8 = true := by simp [hdep]
      have h6 : L 6 = true := hC.path [8, 7, 6] (by kernel_rfl) 8 rfl h8 6 rfl
      obtain ⟨va, vs, e6, e7, e8, e9, e10, e11, hol, hit⟩ := hI.post h6
      have d76 := hD.out 8 76 h8 rfl
      rw [e8 h8] at d76
      exact step_run rfl (v := va) (w' := x) (by go_simp) ⟨hI.v0, hI.v1, hI.v2, hI.v3, hI.v4, hI.v5, hI.bl, fun _ => ⟨va, vs, e6, e7, e8, e9, fun _ => rfl, e11, hol, hit⟩⟩
    · have h9 : L 9 = true := by simp [hdep]
      have h6 : L 6 = true := hC.path [9, 7, 6] (by kernel_rfl) 9 rfl h9 6 rfl
      obtain ⟨va, vs, e6, e7, e8, e9, e10, e11, hol, hit⟩ := hI.post h6
      have d77 := hD.out 9 77 h9 rfl
      rw [e9 h9] at d77
      exact step_run rfl (v := .int .i64 16) (w' := x) (by go_simp) ⟨hI.v0, hI.v1, hI.v2, hI.v3, hI.v4, hI.v5, hI.bl, fun _ => ⟨va, vs, e6, e7, e8, e9, e10, fun _ => rfl, hol, hit⟩⟩
  · intro vals x hI
    obtain ⟨va, vs, e6, e7, e8, e9, e10, e11, hol, hit⟩ := hI.post rfl
    have hrow := HR9.out.below hI.bl
    have HBX := Lib.hid (HB9.out.trans (hI.bl.mono HB9.out.size))
    have f10 := e10 rfl
    have f11 := e11 rfl
    simp only [putsL, Act.put, List.setIfInBounds_toArray, List.set_cons_zero, List.set_cons_succ, f10, f11]
    clear e6 e7 e8 e9 e10 e11 f10 f11 hI
    obtain ⟨qa, ca, rfl, -, -, hcells⟩ := hol.row
    have hvl : vs.length = 1 := hit.1
    rw [hvl]
    obtain ⟨u, hu, hou⟩ := hit.2 0 (by decide)
    obtain ⟨qu, du, rfl, -, -, hrowu⟩ := own_row hou
    have hrowu' : Row x .u8 qu (nums (9 :: wikiL)) := hrowu
    have hu' : vs[0]? = some (.slice qu 10 du) := hu
    obtain ⟨g, rfl, hg, hcg⟩ : ∃ g, qa = some ⟨g, 0, none⟩ ∧ g < x.heap.size ∧ x.cell? ⟨g, 0, none⟩ = some (.slice qu 10 du) := by
      rcases hcells with h | ⟨g, h1, h2, h3⟩
      · rw [h] at hu'; simp at hu'
      · exact ⟨g, h1, h2, h3 0 _ hu'⟩
    obtain ⟨b, o, rfl, hbx⟩ := row_some hrow (by intro h; have := HFL.out; rw [h] at this; simp at this)
    obtain ⟨x2, hx2⟩ : ∃ x2, x.alloc wikiC = x2 := ⟨_, rfl⟩
    have hcv : (convert 22 22 (.slice (some ⟨x.heap.size, 0, none⟩) 9 9)).run Try.prog (x.alloc (.cells #[.int .u8 87, .int .u8 105, .int .u8 107, .int .u8 105, .int .u8 112, .int .u8 101, .int .u8 100, .int .u8 105, .int .u8 97] 5)) = .ok (.slice (some ⟨x.heap.size, 0, none⟩) 9 9) x2 := by
      rw [← hx2]
      exact Lib.run_convert_bytes_const (P := Try.prog) x 22 5 #[.int .u8 87, .int .u8 105, .int .u8 107, .int .u8 105, .int .u8 112, .int .u8 101, .int .u8 100, .int .u8 105, .int .u8 97] 9 9 Try.underlying22 Try.underlying5
    have hb2 : Below x.heap.size x x2 := hx2 ▸ (Below.refl _ _).alloc (Nat.le_refl _) _
    have CS := Lib.hid (show Calls Try.prog 10 #[.slice (some ⟨x.heap.size, 0, none⟩) 9 9] x2 fun e w' => e = .returned (.int .u32 300286872) ∧ Below x2.heap.size x2 w' from by
      have := sum_any wikiL (by decide) (some ⟨x.heap.size, 0, none⟩) 9 x2 (hx2 ▸ wiki_row x) (by decide)
      rw [show sumL wikiL = 300286872 by decide] at this
      exact this)
    have CN := Lib.hid (show ∀ w', Calls Try.prog 10 #[.slice none 0 0] w' fun e w'' => e = .returned (.int .u32 1) ∧ Below w'.heap.size w' w'' from fun w' => by
      have := sum_any [] (by decide) none 0 w' (Or.inl rfl) (Nat.le_refl _)
      rw [show sumL [] = 1 by decide] at this
      exact this)
    have HRW := Lib.hid hrow
    have HRU := Lib.hid hrowu'
    have HGC := Lib.hid (And.intro hg hcg)
    have HB2 := Lib.hid hb2
    have HZX := Lib.hid hx2
    clear hol hit hcells hvl hu hou hrowu hrowu' hu' hrow hg hcg hx2 hb2
    go_wp2_with fail
    refine CS.out.mono ?_
    rintro e y ⟨rfl, hy⟩
    have HY := Lib.hid (HB2.out.trans (hy.mono HB2.out.size))
    clear hy hcv
    go_wp2_with fail
    refine (CN.out y).mono ?_
    rintro e z ⟨rfl, hz⟩
    have HZW := Lib.hid (HY.out.trans (hz.mono HY.out.size))
    clear hz
    have hcb : ∀ j, j < 16 → z.cell? ⟨b, o + j, none⟩ = some (.int .u8 ((F.getD j 0).toNat : Int)) := fun j hj => by
      obtain ⟨b', o', e, _, hc⟩ := byte_cell HRW.out HZW.out (show j < F.length by rw [HFL.out]; exact hj)
      injection e with e; injection e with e1 e2; subst e1; subst e2
      exact hc
    have c0 : z.cell? ⟨b, o, none⟩ = some (.int .u8 0) := by
      have := hcb 0 (by decide)
      rw [← HFF.out] at this
      exact this
    have c1 : z.cell? ⟨b, o + 1, none⟩ = some (.int .u8 9) := by
      have := hcb 1 (by decide)
      rw [← HFF.out] at this
      exact this
    have c2 : z.cell? ⟨b, o + 2, none⟩ = some (.int .u8 9) := by
      have := hcb 2 (by decide)
      rw [← HFF.out] at this
      exact this
    have cg : z.cell? ⟨g, 0, none⟩ = some (.slice qu 10 du) := by rw [HZW.out.cell (p := ⟨g, 0, none⟩) HGC.out.1]; exact HGC.out.2
    have hst : (convert 22 9 (.slice qu 10 du)).run Try.prog z = .ok (.string ⟨#[9, 87, 105, 107, 105, 112, 101, 100, 105, 97]⟩) z := run_string z (9 :: wikiL) qu du (HRU.out.below HZW.out)
    have HE := Lib.hid (HBX.out.trans (HZW.out.mono (by have := HBX.out.size; omega)))
    clear hcb
    go_wp2_with fail
    go_ret
    exact ⟨rfl, HE.out⟩
end Go.Proofs.Ytdompocopbobiaa
