/-
  SortkeyKnown: the walk.
-/
import Derived.Test.YtcocmmndonlhkaaDoorSkKnM
import Derived.Deep.RegionHeld3
namespace Go.Proofs.YtcocmmndonlhkaaDoor
open Go.RowKit Go.Gz Go.Sort

def knO (w : World) : Array Obj := #[.cells #[.int .i32 32] 21, .cells #[.int .i64 5, .int .i64 32, .int .i64 2] 26, .cells #[.int .i32 97] 21, .cells #[.int .i64 10, .int .i64 32, .int .i64 2] 26, .cells #[.int .i32 769] 21, .cells #[.int .i64 0, .int .i64 41, .int .i64 2] 26,
  .cells #[.slice (some ⟨w.heap.size, 0, none⟩) 1 1, .slice (some ⟨w.heap.size + 1, 0, none⟩) 1 1, .slice (some ⟨w.heap.size + 1 + 1, 0, none⟩) 1 1, .slice (some ⟨w.heap.size + 1 + 1 + 1, 0, none⟩) 1 1, .slice (some ⟨w.heap.size + 1 + 1 + 1 + 1, 0, none⟩) 1 1, .slice (some ⟨w.heap.size + 1 + 1 + 1 + 1 + 1, 0, none⟩) 1 1] 29,
  .cells #[.slice none 0 0, .slice (some ⟨w.heap.size + 1 + 1 + 1 + 1 + 1 + 1, 0, none⟩) 3 3, .int .i64 9, .bool true] 33]
def knW (w : World) : World := grow w (knO w)
theorem knW_at (w : World) (k : Nat) : (knW w).heap[w.heap.size + k]? = (knO w)[k]? := by
  unfold knW grow
  rw [Array.getElem?_append_right (by omega), Nat.add_sub_cancel_left]
theorem knT_at (w : World) (top : Int) : TabIn (knW w) (knT w.heap.size top) := by
  have at_ : ∀ k h, w.heap.size + k = h → (knW w).heap[h]? = (knO w)[k]? := fun k h e => e ▸ knW_at w k
  refine ⟨Or.inl rfl, wrs_lit _ _ 29 (0, 0) _ (by rw [at_ 6 _ (by omega)]; rfl) fun x hx => ?_, by simp [knT], by simp [knT], by simp [knT, knR], fun x hx => ?_⟩
  · simp only [knT, knR, List.mem_cons, List.not_mem_nil, or_false] at hx
    rcases hx with rfl | rfl | rfl
    · exact ⟨⟨row_heap _ _ _ 21 (0, 0) _ (by rw [at_ 0 _ (by omega)]; rfl), Nat.le_refl 1, fun h => by cases h⟩, ⟨els_lit _ _ 26 (0, 0) _ (by rw [at_ 1 _ (by omega)]; rfl), Nat.le_refl 1, fun h => by cases h⟩⟩
    · exact ⟨⟨row_heap _ _ _ 21 (0, 0) _ (by rw [at_ 2 _ (by omega)]; rfl), Nat.le_refl 1, fun h => by cases h⟩, ⟨els_lit _ _ 26 (0, 0) _ (by rw [at_ 3 _ (by omega)]; rfl), Nat.le_refl 1, fun h => by cases h⟩⟩
    · exact ⟨⟨row_heap _ _ _ 21 (0, 0) _ (by rw [at_ 4 _ (by omega)]; rfl), Nat.le_refl 1, fun h => by cases h⟩, ⟨els_lit _ _ 26 (0, 0) _ (by rw [at_ 5 _ (by omega)]; rfl), Nat.le_refl 1, fun h => by cases h⟩⟩
  · simp only [knT, knR, List.mem_cons, List.not_mem_nil, or_false] at hx
    rcases hx with rfl | rfl | rfl <;> exact ⟨by simp, by simp⟩
theorem build_el12 (a b : Int) (w : World) : (Instr.build 26 #[(1, .int .i64 a), (2, .int .i64 b)]).run Tryd.prog w = .ok (.agg #[.int .i64 0, .int .i64 a, .int .i64 b]) w := by kernel_rfl
theorem build_tabK (q : Option Addr) (m l : Nat) (t : Int) (w : World) : (Instr.build 33 #[(2, .int .i64 t), (3, .bool true), (1, .slice q m l)]).run Tryd.prog w = .ok (.agg #[.slice none 0 0, .slice q m l, .int .i64 t, .bool true]) w := by kernel_rfl

/-- four rows in a block, and the first number of the last. -/
structure LvAt (w : World) (g : Nat) (s0 s1 s2 s3 : Option Addr) (d0 d1 d2 d3 : Nat) (g3 o3 : Nat) : Prop where
  lt : g < w.heap.size
  lt3 : g3 < w.heap.size
  c0 : w.cell? ⟨g, 0, none⟩ = some (.slice s0 1 d0)
  c1 : w.cell? ⟨g, 1, none⟩ = some (.slice s1 2 d1)
  c2 : w.cell? ⟨g, 2, none⟩ = some (.slice s2 2 d2)
  c3 : w.cell? ⟨g, 3, none⟩ = some (.slice s3 3 d3)
  c5 : w.cell? ⟨g3, o3, none⟩ = some (.int .i64 5)
theorem LvAt.below {w w' : World} {g : Nat} {s0 s1 s2 s3 : Option Addr} {d0 d1 d2 d3 : Nat} {g3 o3 : Nat} (h : LvAt w g s0 s1 s2 s3 d0 d1 d2 d3 g3 o3) (hb : Below w.heap.size w w') : LvAt w' g s0 s1 s2 s3 d0 d1 d2 d3 g3 o3 :=
  ⟨Nat.lt_of_lt_of_le h.lt hb.size, Nat.lt_of_lt_of_le h.lt3 hb.size, by rw [hb.cell (p := ⟨g, 0, none⟩) h.lt]; exact h.c0, by rw [hb.cell (p := ⟨g, 1, none⟩) h.lt]; exact h.c1, by rw [hb.cell (p := ⟨g, 2, none⟩) h.lt]; exact h.c2, by rw [hb.cell (p := ⟨g, 3, none⟩) h.lt]; exact h.c3, by rw [hb.cell (p := ⟨g3, o3, none⟩) h.lt3]; exact h.c5⟩
def Z64 : Obj := .cells (madeCells #[.int .u8 0] 64) 5
theorem make64 (w : World) : (Instr.makeSlice 22 (.int .i64 64) (.int .i64 64)).run Tryd.prog w = .ok (.slice (some ⟨w.heap.size, 0, none⟩) 64 64) (w.alloc Z64) := by
  obtain ⟨i0, hi, hz0, hz1, hz2⟩ := info_parts info_byte
  have := run_make (P := Tryd.prog) w 22 5 i0 (.int .u8 0) Tryd.underlying22 hi hz0 .i64 .i64 64 64 (by omega) (by omega) (by rw [hz2]; decide) (by omega)
  rw [hz1] at this
  exact this
theorem conv64 (w : World) : (convert 22 9 (.slice (some ⟨w.heap.size, 0, none⟩) 64 64)).run Tryd.prog (w.alloc Z64) = .ok (.string ⟨(List.replicate 64 (0 : UInt8)).toArray⟩) (w.alloc Z64) := by
  refine Sc.run_string (w.alloc Z64) (List.replicate 64 (0 : UInt8)) (some ⟨w.heap.size, 0, none⟩) 64 (row_heap _ _ _ 5 (0, 0) _ ?_)
  show (w.heap.push _)[w.heap.size]? = _
  rw [Array.getElem?_push_size]
  exact congrArg some (by kernel_rfl)

set_option maxHeartbeats 8000000 in
set_option maxRecDepth 100000 in
theorem sknown_walk (W : World) (hU : Lib.Utf8Tabs 1 2 W) : Calls Tryd.prog 6 #[] W fun e w' => e = .returned (.bool true) ∧ Below W.heap.size W w' := by
  have C0 := Lib.hid (awake_yes W hU)
  have HU := Lib.hid hU; clear hU
  have b3 := fun (a b c : Int) (w : World) => build_el3 a b c w
  have b4 := fun (a b : Int) (w : World) => build_el12 a b w
  have b0 := build_el0
  have br := build_row
  have bt := build_tabK
  go_enter Tryd.func6, Tryd.ntmps6
  go_wp2_with fail
  refine C0.out.mono ?_
  rintro e w1 ⟨rfl, hb1⟩
  have HB1 := Lib.hid hb1
  have hU1 := Lib.hid (Sc.tabs_below HU.out hb1)
  clear hb1 C0
  go_wp2_with fail
  simp only [alloc_eq_grow, grow_grow]
  generalize hw2 : grow w1 _ = w2
  have hk : knW w1 = w2 := by rw [← hw2]; rfl
  have hsz : w1.heap.size + 7 < w2.heap.size := by
    have e : (knW w1).heap.size = w1.heap.size + 8 := by unfold knW; rw [size_grow]; rfl
    rw [← hk, e]; omega
  have HT := Lib.hid (show ∀ top, TabIn w2 (knT w1.heap.size top) from fun top => hk ▸ knT_at w1 top)
  have HX := Lib.hid (show BoxAt w2 (w1.heap.size + 1 + 1 + 1 + 1 + 1 + 1 + 1) (knT w1.heap.size 9) from by
    have e : w2.heap[w1.heap.size + 1 + 1 + 1 + 1 + 1 + 1 + 1]? = (knO w1)[7]? := by
      have := knW_at w1 7
      rw [hk] at this
      rwa [show w1.heap.size + 7 = w1.heap.size + 1 + 1 + 1 + 1 + 1 + 1 + 1 by omega] at this
    refine ⟨by omega, ?_, ?_, ?_, ?_⟩ <;> (unfold World.cell?; rw [e]; rfl))
  have HB2 := Lib.hid (HB1.out.trans ((show Below w1.heap.size w1 w2 from hk ▸ grow_below w1 0 _).mono HB1.out.size))
  have HU2 := Lib.hid (Sc.tabs_below HU.out HB2.out)
  clear hw2 hk hU1
  generalize hx : w1.heap.size + 1 + 1 + 1 + 1 + 1 + 1 + 1 = x at HX ⊢
  generalize hh : w1.heap.size = h at HX HT hsz hx ⊢
  have HXE := Lib.hid hx
  have HHE := Lib.hid hh
  clear hx hh
  have CM := Lib.hid (fun top s w (hb : Below w2.heap.size w2 w) hs => make_any (knT h top) s w ((HT.out top).below hb) (by simp [knT]) (by simp [knT, knR]) (Sc.tabs_below HU2.out hb) hs)
  obtain ⟨_, t0, t1, t2, t3⟩ := HX.out
  refine (CM.out 9 ⟨#[97, 32, 204, 129, 97]⟩ w2 (Below.refl _ _) (by decide)).mono ?_
  rintro e w3 ⟨k1, e1, rfl, hb3, hm1⟩
  obtain ⟨rfl, rfl⟩ := kn_make hm1
  have HX3 := Lib.hid (HX.out.below hb3)
  have HB3 := Lib.hid hb3
  clear hb3 hm1 t0 t1 t2 t3 hsz
  obtain ⟨_, t0, t1, t2, t3⟩ := HX3.out
  go_wp2_with fail
  have hels : Els (w3.alloc (.cells #[.int .i64 5, .int .i64 1, .int .i64 1, .int .i64 0, .int .i64 3, .int .i64 3, .int .i64 0, .int .i64 0, .int .i64 0, .int .i64 20, .int .i64 1, .int .i64 1, .int .i64 0, .int .i64 3, .int .i64 3] 26)) (some ⟨w3.heap.size, 0, none⟩) [⟨5, 1, 1⟩, ⟨0, 3, 3⟩, ⟨0, 0, 0⟩, ⟨20, 1, 1⟩, ⟨0, 3, 3⟩] := els_lit _ _ 26 (0, 0) _ (by show (w3.heap.push _)[w3.heap.size]? = _; simp; rfl)
  have CL := Lib.hid (levels_any (knT h 9) [⟨5, 1, 1⟩, ⟨0, 3, 3⟩, ⟨0, 0, 0⟩, ⟨20, 1, 1⟩, ⟨0, 3, 3⟩] (some ⟨w3.heap.size, 0, none⟩) 5 _ hels (by simp))
  rw [kn_lev] at CL
  have hb34 : Below w3.heap.size w3 (w3.alloc (.cells #[.int .i64 5, .int .i64 1, .int .i64 1, .int .i64 0, .int .i64 3, .int .i64 3, .int .i64 0, .int .i64 0, .int .i64 0, .int .i64 20, .int .i64 1, .int .i64 1, .int .i64 0, .int .i64 3, .int .i64 3] 26)) := (Below.refl _ _).alloc (Nat.le_refl _) _
  have HX4 := Lib.hid (HX3.out.below hb34)
  have HB4 := Lib.hid (HB3.out.trans (hb34.mono HB3.out.size))
  clear hels hb34
  generalize w3.alloc (.cells #[.int .i64 5, .int .i64 1, .int .i64 1, .int .i64 0, .int .i64 3, .int .i64 3, .int .i64 0, .int .i64 0, .int .i64 0, .int .i64 20, .int .i64 1, .int .i64 1, .int .i64 0, .int .i64 3, .int .i64 3] 26) = w4 at CL HX4 HB4 ⊢
  refine CL.out.mono ?_
  rintro e w5 ⟨vs, rfl, hb5, hown⟩
  have HX5 := Lib.hid (HX4.out.below hb5)
  have HB5 := Lib.hid (HB4.out.trans (hb5.mono HB4.out.size))
  obtain ⟨s0, d0, hv0, _, _⟩ := Own.row (hown 0 (by omega))
  obtain ⟨s1, d1, hv1, _, _⟩ := Own.row (hown 1 (by omega))
  obtain ⟨s2, d2, hv2, _, _⟩ := Own.row (hown 2 (by omega))
  obtain ⟨s3, d3, hv3, _, r3⟩ := Own.row (hown 3 (by omega))
  rw [hv0, hv1, hv2, hv3]
  simp only [List.getD_cons_zero, List.getD_cons_succ, List.length_cons, List.length_nil] at r3 ⊢
  obtain ⟨g3, o3, rfl, hg3, c3⟩ := row_cell r3 (Below.refl _ _) (show 0 < 3 by omega)
  have hg3' : g3 < w5.heap.size := hg3
  simp only [List.getD_cons_zero, Nat.add_zero] at c3
  clear hb5 hown hv0 hv1 hv2 hv3 r3 CL t0 t1 t2 t3
  obtain ⟨hx5, t0, t1, t2, t3⟩ := HX5.out
  go_wp2_with fail
  generalize hw6 : World.alloc (World.alloc w5 _) _ = w6
  have hb6 : Below w5.heap.size w5 w6 := hw6 ▸ (((Below.refl _ _).alloc (Nat.le_refl _) _).alloc (by simp) _)
  have HL6 := Lib.hid (show LvAt w6 w5.heap.size s0 s1 s2 (some ⟨g3, o3, none⟩) d0 d1 d2 d3 g3 o3 from by
    refine ⟨by rw [← hw6]; simp only [World.size_alloc]; omega, by rw [← hw6]; simp only [World.size_alloc]; omega, ?_, ?_, ?_, ?_, ?_⟩
    · rw [← hw6]; simp [go_sem]
    · rw [← hw6]; simp [go_sem]
    · rw [← hw6]; simp [go_sem]
    · rw [← hw6]; simp [go_sem]
    · rw [hb6.cell (p := ⟨g3, o3, none⟩) hg3']; exact c3)
  have HX6 := Lib.hid (HX5.out.below hb6)
  have HB6 := Lib.hid (HB5.out.trans (hb6.mono HB5.out.size))
  clear hw6 hb6 c3 hg3' hg3 t0 t1 t2 t3 hx5
  generalize w5.heap.size = g4 at HL6 ⊢
  refine (CM.out (-1) ⟨#[255]⟩ w6 HB6.out (by decide)).mono ?_
  rintro e w7 ⟨k6, e6, rfl, hb7, hm6⟩
  obtain rfl := kn_table hm6
  have HX7 := Lib.hid (HX6.out.below hb7)
  have HL7 := Lib.hid (HL6.out.below hb7)
  have HB7 := Lib.hid (HB6.out.trans (hb7.mono HB6.out.size))
  clear hb7 hm6
  obtain ⟨_, t0, t1, t2, t3⟩ := HX7.out
  go_upto_region 9 with fail
  have hmk := make64
  have hcv : ∀ w : World, (convert 22 9 (.slice (some ⟨w.heap.size, 0, none⟩) 64 64)).run Tryd.prog ((w.alloc Z64).drew) = .ok (.string ⟨(List.replicate 64 (0 : UInt8)).toArray⟩) ((w.alloc Z64).drew) := fun w => conv64 w.drew
  have hz : (⟨(List.replicate 64 (0 : UInt8)).toArray⟩ : ByteArray) ++ (⟨#[255]⟩ : ByteArray) = ⟨(List.replicate 64 (0 : UInt8) ++ [255]).toArray⟩ := by kernel_rfl
  have had := fun w : World => run_string_add_sum (P := Tryd.prog) (w := w) (⟨(List.replicate 64 (0 : UInt8)).toArray⟩ : ByteArray) ⟨#[255]⟩ (by decide)
  rw [hz] at had
  generalize hz64 : (⟨(List.replicate 64 (0 : UInt8)).toArray⟩ : ByteArray) = z64 at hcv had
  have CMz := Lib.hid (CM.out 9 ⟨(List.replicate 64 (0 : UInt8) ++ [255]).toArray⟩ ((w7.alloc Z64).drew) ((HB7.out.alloc HB7.out.size _).drew) (by decide))
  have HZL := Lib.hid (show 64 < (⟨(List.replicate 64 (0 : UInt8) ++ [255]).toArray⟩ : ByteArray).size by decide)
  generalize (⟨(List.replicate 64 (0 : UInt8) ++ [255]).toArray⟩ : ByteArray) = z65 at had CMz HZL
  have HXd := Lib.hid (HX7.out.below (((Below.refl w7.heap.size w7).alloc (Nat.le_refl _) Z64).drew))
  have HLd := Lib.hid (HL7.out.below (((Below.refl w7.heap.size w7).alloc (Nat.le_refl _) Z64).drew))
  have HBd := Lib.hid ((HB7.out.alloc HB7.out.size Z64).drew)
  clear hz hz64
  generalize Z64 = zo at *
  have mx : Tryd.prog.follows .mixedOrders = true := by kernel_rfl
  go_cut [8, 9] from 48 to 55 (fun va vb wx => ∃ k : List UInt8, va = .string ⟨k.toArray⟩ ∧ vb = .int .i64 3 ∧ Hid (Below w2.heap.size w2 wx ∧ BoxAt wx x (knT h 9) ∧ LvAt wx g4 s0 s1 s2 (some ⟨g3, o3, none⟩) d0 d1 d2 d3 g3 o3))
  case first =>
    have hx7 := HX7.out.1
    have hxd := HXd.out.1
    go_region_with (go_at_call 8; (with_reducible refine CMz.out.mono ?_); rintro e w8 ⟨k8, e8, rfl, hb8, hm8⟩; have HM8 := Lib.hid hm8; have HX8 := Lib.hid (HXd.out.below hb8); have HL8 := Lib.hid (HLd.out.below hb8); have HB8 := Lib.hid (HBd.out.trans (hb8.mono HBd.out.size)); obtain ⟨_, u0, u1, u2, u3⟩ := HX8.out; clear hb8 hm8)
    all_goals
      have hmk := makeIs_long HM8.out HZL.out (kn_may h)
      obtain ⟨rfl, rfl⟩ := hmk
      go_wp2_with fail
      go_meet
      exact ⟨[], rfl, rfl, Lib.hid ⟨HB8.out, HX8.out, HL8.out⟩⟩
  case rest =>
    obtain ⟨k9, rfl, rfl, HC9⟩ := hcut
    have HX9 := Lib.hid HC9.out.2.1
    have HL9 := Lib.hid HC9.out.2.2
    have HB9 := Lib.hid HC9.out.1
    clear HC9 HX7 HL7 HB7 t0 t1 t2 t3 hmk hcv had
    obtain ⟨_, t0, t1, t2, t3⟩ := HX9.out
    go_wp2_with fail
    refine (CM.out (9) ⟨#[255]⟩ _ HB9.out (by decide)).mono ?_
    rintro e w10 ⟨k9, e9, rfl, hb10, hm9⟩
    obtain rfl := kn_text hm9
    have HX10 := Lib.hid (HX9.out.below hb10)
    have HL10 := Lib.hid (HL9.out.below hb10)
    have HB10 := Lib.hid (HB9.out.trans (hb10.mono HB9.out.size))
    clear hb10 hm9
    clear t0 t1 t2 t3
    obtain ⟨l0, l1, l2, l3, l4, l5, l6⟩ := HL10.out
    go_wp2_with fail
    go_ret
    exact ⟨rfl, HB2.out.trans (HB10.out.mono HB2.out.size)⟩
end Go.Proofs.YtcocmmndonlhkaaDoor
