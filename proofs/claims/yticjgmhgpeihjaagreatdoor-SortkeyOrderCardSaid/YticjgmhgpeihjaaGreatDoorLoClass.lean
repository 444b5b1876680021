/-
  Layer lore: rows that rise are answered as they are; Class.
-/
import Derived.Test.YticjgmhgpeihjaaGreatDoorLoFind
namespace Go.Proofs.YticjgmhgpeihjaaGreatDoor
open Go.RowKit Go.Gz Go.Sort

theorem mixedL : Tryz.prog.follows .mixedOrders = true := by kernel_rfl
abbrev cmpLV (B : Nat) : Value := .func (.func 103) #[] #[.pointer (some ⟨B, 0, none⟩)]
theorem byL_makes (w : World) : Calls Tryz.prog 92 #[.func (.func 93) #[] #[]] w fun e w' => e = .returned (cmpLV w.heap.size) ∧ w' = w.alloc (.cells #[.func (.func 93) #[] #[]] 132) := by
  go_enter Tryz.func92, Tryz.ntmps92
  go_wp2
  go_ret
  exact ⟨rfl, rfl⟩

theorem runeOf_agg (r c : Int) (p : Option Addr) (n cap : Nat) (w : World) : Calls Tryz.prog 93 #[.agg #[.int .i32 r, .int .i64 c, .slice p n cap]] w fun e w' => e = .returned (.int .i32 r) ∧ ∃ q os', w' = grow (w.drewN q) os' := by
  go_enter Tryz.func93, Tryz.ntmps93
  go_wp2
  go_ret
  exact ⟨rfl, 0, _, by rw [alloc_eq_grow]; rfl⟩

/-- the boxes of two rows, behind the world w. -/
abbrev box2 (w : World) (x cx : Int) (px : Option Addr) (nx kx : Nat) (y cy : Int) (py : Option Addr) (ny ky : Nat) : World :=
  (w.alloc (.cells #[.int .i32 x, .int .i64 cx, .slice px nx kx] 49)).alloc (.cells #[.int .i32 y, .int .i64 cy, .slice py ny ky] 49)

set_option maxHeartbeats 1000000 in
theorem byL_any (x cx : Int) (px : Option Addr) (nx kx : Nat) (y cy : Int) (py : Option Addr) (ny ky : Nat) (B : Nat) (w : World) (hB : B < w.heap.size) (hc : w.cell? ⟨B, 0, none⟩ = some (.func (.func 93) #[] #[])) :
    Calls Tryz.prog 103 #[.agg #[.int .i32 x, .int .i64 cx, .slice px nx kx], .agg #[.int .i32 y, .int .i64 cy, .slice py ny ky], .pointer (some ⟨B, 0, none⟩)] w fun e w' => e = .returned (.int .i64 (cmpI32 x y)) ∧ ∃ q os', w' = grow (w.drewN q) os' := by
  go_enter Tryz.func103, Tryz.ntmps103
  have mx := mixedL
  go_wp2_with fail
  have hH := Lib.hid (show ∃ os, box2 w x cx px nx kx y cy py ny ky = grow (w.drewN 0) os from ⟨_, by unfold box2; rw [alloc_eq_grow, alloc_eq_grow, grow_grow]; rfl⟩)
  have b0 : B < (box2 w x cx px nx kx y cy py ny ky).heap.size := by simp [box2]; omega
  have b1 : w.heap.size < (box2 w x cx px nx kx y cy py ny ky).heap.size := by simp [box2]; omega
  have b2 : w.heap.size + 1 < (box2 w x cx px nx kx y cy py ny ky).heap.size := by simp [box2]
  have c0 : (box2 w x cx px nx kx y cy py ny ky).cell? ⟨B, 0, none⟩ = some (.func (.func 93) #[] #[]) := by
    unfold box2
    rw [World.cell?_alloc_lt _ _ ⟨B, 0, none⟩ (by simp; omega), World.cell?_alloc_lt _ _ ⟨B, 0, none⟩ hB]; exact hc
  have c1 : (box2 w x cx px nx kx y cy py ny ky).cell? ⟨w.heap.size, 0, none⟩ = some (.int .i32 x) := by simp [box2]
  have c2 : (box2 w x cx px nx kx y cy py ny ky).cell? ⟨w.heap.size, 1, none⟩ = some (.int .i64 cx) := by simp [box2]
  have c3 : (box2 w x cx px nx kx y cy py ny ky).cell? ⟨w.heap.size, 2, none⟩ = some (.slice px nx kx) := by simp [box2]
  have c4 : (box2 w x cx px nx kx y cy py ny ky).cell? ⟨w.heap.size + 1, 0, none⟩ = some (.int .i32 y) := by simp [box2]
  have c5 : (box2 w x cx px nx kx y cy py ny ky).cell? ⟨w.heap.size + 1, 1, none⟩ = some (.int .i64 cy) := by simp [box2]
  have c6 : (box2 w x cx px nx kx y cy py ny ky).cell? ⟨w.heap.size + 1, 2, none⟩ = some (.slice py ny ky) := by simp [box2]
  change Code.wp _ _ _ _ (box2 w x cx px nx kx y cy py ny ky)
  generalize box2 w x cx px nx kx y cy py ny ky = wq at hH b0 b1 b2 c0 c1 c2 c3 c4 c5 c6 ⊢
  generalize w.heap.size = s at b1 b2 c1 c2 c3 c4 c5 c6 ⊢
  have f0 := cell_grown b0 c0
  have f1 := cell_grown b1 c1
  have f2 := cell_grown (a := ⟨s, 1, none⟩) b1 c2
  have f3 := cell_grown (a := ⟨s, 2, none⟩) b1 c3
  have f4 := cell_grown b2 c4
  have f5 := cell_grown (a := ⟨s + 1, 1, none⟩) b2 c5
  have f6 := cell_grown (a := ⟨s + 1, 2, none⟩) b2 c6
  clear b0 b1 b2 c0 c1 c2 c3 c4 c5 c6 hc
  go_quiet_grown (first | (go_at_call 93; refine Calls.grown_of (runeOf_agg _ _ _ _ _ _)) | (go_at_call 102; refine Calls.grown_of ((compare_rune _ _ _).mono fun _ _ h => ⟨h.1, 0, #[], by rw [grow_empty]; exact h.2.symm⟩)))
  go_wp2
  go_ret
  obtain ⟨os, hos⟩ := hH.out
  exact ⟨rfl, nq, os ++ osq, by rw [hos]; show grow (grow (w.drewN nq) os) osq = _; rw [grow_grow]⟩

set_option maxHeartbeats 1000000 in
set_option maxRecDepth 100000 in
theorem isSorted_ok (ls : List LR) (hr : Rising ls) (p : Option Addr) (cap B : Nat) (W : World) (hl : Lores W p ls) (hsz : ls.length < 1000000) (hB : B < W.heap.size) (hc : W.cell? ⟨B, 0, none⟩ = some (.func (.func 93) #[] #[])) :
    Calls Tryz.prog 94 #[.slice p ls.length cap, cmpLV B] W fun e w' => e = .returned (.bool true) ∧ Below W.heap.size W w' := by
  have HL := Lib.hid hl; clear hl
  have HR := Lib.hid hr; clear hr
  have HC := Lib.hid hc; clear hc
  have mx := mixedL
  go_enter Tryz.func94, Tryz.ntmps94
  go_wp2_with fail
  go_loopg [5] ls.length (fun g va wr => ∃ z : Int, va = .int .i64 z ∧ -1 ≤ z ∧ z < ls.length ∧ z.toNat ≤ g ∧ Hid (Below W.heap.size W wr))
  case atStart => exact ⟨(ls.length : Int) - 1, rfl, by omega, by omega, by omega, Lib.hid (Below.refl _ _)⟩
  case round =>
    obtain ⟨z, rfl, hz1, hz2, hg, HB⟩ := hrel
    by_cases hpos : 0 < z
    · obtain ⟨i, rfl⟩ : ∃ i : Nat, z = (i : Int) + 1 := ⟨(z - 1).toNat, by omega⟩
      obtain ⟨b, off, rfl, hbW, c1, c2, c3, _⟩ := HL.out.at_ HB.out (show i + 1 < ls.length by omega)
      obtain ⟨b', off', hpe, hbW', d1, d2, d3, _⟩ := HL.out.at_ HB.out (show i < ls.length by omega)
      simp only [Option.some.injEq, Addr.mk.injEq, and_true] at hpe
      obtain ⟨rfl, rfl⟩ := hpe
      have hlt := HR.out i (i + 1) (by omega) (by omega)
      obtain ⟨x, hx⟩ : ∃ x, ls[i + 1]! = x := ⟨_, rfl⟩
      obtain ⟨y, hy⟩ : ∃ x, ls[i]! = x := ⟨_, rfl⟩
      rw [hx] at c1 c2 c3 hlt
      rw [hy] at d1 d2 d3 hlt
      clear hx hy
      have hsz' := HB.out.size
      have hbr : b < wr.heap.size := by omega
      have f1 := cell_grown hbr c1
      have f2 := cell_grown (a := ⟨b, off + (i + 1) * 3 + 1, none⟩) hbr c2
      have f3 := cell_grown (a := ⟨b, off + (i + 1) * 3 + 2, none⟩) hbr c3
      have f4 := cell_grown (a := ⟨b, off + i * 3, none⟩) hbr d1
      have f5 := cell_grown (a := ⟨b, off + i * 3 + 1, none⟩) hbr d2
      have f6 := cell_grown (a := ⟨b, off + i * 3 + 2, none⟩) hbr d3
      have hcB : wr.cell? ⟨B, 0, none⟩ = some (.func (.func 93) #[] #[]) := by rw [HB.out.cell (p := ⟨B, 0, none⟩) hB]; exact HC.out
      have hcmp := Lib.hid (show ∀ n os, Calls Tryz.prog 103 #[.agg #[.int .i32 x.r, .int .i64 x.c, .slice x.p x.to.length x.cap], .agg #[.int .i32 y.r, .int .i64 y.c, .slice y.p y.to.length y.cap], .pointer (some ⟨B, 0, none⟩)] (grow (wr.drewN n) os) fun e w'' => e = .returned (.int .i64 (cmpI32 x.r y.r)) ∧ ∃ p : GrownBy, w'' = grow (wr.drewN p.n) p.os from fun n os =>
        Calls.grown_of (byL_any _ _ _ _ _ _ _ _ _ _ B _ (by rw [size_grow]; show B < wr.heap.size + os.size; omega) (cell_grown (a := ⟨B, 0, none⟩) (show B < wr.heap.size by omega) hcB n os)))
      clear c1 c2 c3 d1 d2 d3 hcB
      have hlv : decide (cmpI32 x.r y.r < 0) = false := decide_eq_false (fun h => by have := (cmpI32_neg _ _).1 h; omega)
      have jz : (i : Int) + 1 < (ls.length : Int) := by omega
      have jz1 : (i : Int) < (ls.length : Int) := by omega
      have p0 : (0 : Int) ≤ (i : Int) + 1 := by omega
      have e0 : ((i : Int) + 1).toNat = i + 1 := by omega
      have hwp : IntKind.i64.wrap (i : Int) = (i : Int) := by rw [IntKind.wrap_i64]; omega
      go_wp2_with fail
      go_quiet_grown (first | (go_at_call 103; exact hcmp.out _ _))
      have HB2 := Lib.hid (HB.out.trans ((grow_below wr nq osq).mono hsz'))
      clear f1 f2 f3 f4 f5 f6 hcmp
      go_wp2_with fail
      go_roundg i
      case measure => omega
      case rel => exact ⟨i, rfl, by omega, by omega, by omega, HB2⟩
    · go_wp2_with fail
      go_ret
      exact ⟨rfl, HB.out⟩

theorem rising_ok (ls : List LR) (hr : Rising ls) (p : Option Addr) (cap : Nat) (W : World) (hl : Lores W p ls) (hsz : ls.length < 1000000) :
    Calls Tryz.prog 77 #[.slice p ls.length cap] W fun e w' => e = .returned (.slice p ls.length cap) ∧ Below W.heap.size W w' := by
  obtain ⟨wb, hwb⟩ : ∃ wb, wb = W.alloc (.cells #[.func (.func 93) #[] #[]] 132) := ⟨_, rfl⟩
  have hb0 := Lib.hid (show Below W.heap.size W wb from hwb ▸ (Below.refl _ _).alloc (Nat.le_refl _) _)
  have hs := Lib.hid (isSorted_ok ls hr p cap W.heap.size wb (hl.below hb0.out) hsz (by rw [hwb]; simp) (by rw [hwb]; simp))
  have hm := Lib.hid (byL_makes W)
  rw [← hwb] at hm
  clear hl hwb hr
  go_enter Tryz.func77, Tryz.ntmps77
  go_wp2_with fail
  refine hm.out.mono ?_
  rintro e w1 ⟨rfl, rfl⟩
  go_wp2_with fail
  refine hs.out.mono ?_
  rintro e w2 ⟨rfl, hb⟩
  have HB := Lib.hid (hb0.out.trans (hb.mono hb0.out.size))
  clear hb
  go_wp2
  go_ret
  exact ⟨rfl, HB.out⟩

theorem field1 (a b : Int) (p : Option Addr) (n k : Nat) (w : World) : (Instr.field 49 (.agg #[.int .i32 a, .int .i64 b, .slice p n k]) 1).run Tryz.prog w = .ok (.int .i64 b) w := by kernel_rfl
theorem field2 (a b : Int) (p : Option Addr) (n k : Nat) (w : World) : (Instr.field 49 (.agg #[.int .i32 a, .int .i64 b, .slice p n k]) 2).run Tryz.prog w = .ok (.slice p n k) w := by kernel_rfl

theorem class_any (ls : List LR) (hr : Rising ls) (p : Option Addr) (cap : Nat) (r : Int) (W : World) (hl : Lores W p ls) (hsz : ls.length < 1000000) :
    Calls Tryz.prog 58 #[.slice p ls.length cap, .int .i32 r] W fun e w' => e = .returned (.int .i64 (clsL ls r)) ∧ Below W.heap.size W w' := by
  have HL := Lib.hid hl; clear hl
  have HR := Lib.hid hr; clear hr
  have h1 := Lib.hid (rising_ok ls HR.out p cap W HL.out hsz)
  unfold clsL
  go_enter Tryz.func58, Tryz.ntmps58
  go_wp2_with fail
  refine h1.out.mono ?_
  rintro e w1 ⟨rfl, hb1⟩
  have h2 := Lib.hid (find_any ls HR.out p cap r w1 (HL.out.below hb1) hsz)
  have hsz1 := hb1.size
  go_wp2_with fail
  refine h2.out.mono ?_
  rintro e w2 ⟨rfl, hb2, _⟩
  have HB := Lib.hid (hb1.trans (hb2.mono hsz1))
  clear hb1 hb2
  have hfd := fun w : World => field1 (findL ls r).r (findL ls r).c (findL ls r).p (findL ls r).to.length (findL ls r).cap w
  go_wp2
  go_ret
  exact ⟨rfl, HB.out⟩
end Go.Proofs.YticjgmhgpeihjaaGreatDoor
