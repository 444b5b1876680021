/-
  Layer medium: the law's 'do' of an append: its drawn region by stages of the world.
-/
import Derived.Test.YtbolmfpcddgpgaaMdDo
namespace Go.Gz
open Go.RowKit
/-- append in a step of a drawn region, its run known. -/
theorem step_append_run {P : Program} {ops : Array Oper} {Q : Exit → Act → World → Prop} {i : Nat} {o : Oper} {a : Act} {w w' : World} {J : Value → World → Prop} {v u v' : Value} (hg : o.guard = none) (s x : Tmp) (t : TypeId)
    (hop : o.op = Op.call { callee := Callee.builtin Builtin.append, args := #[.tmp s, .tmp x], argTypes := #[t, t] }) (hs : a.tmps.getD s undef = v) (hx : a.tmps.getD x undef = u)
    (hr : (Builtin.append_ #[t, t] o.type #[v, u]).run P w = .ok v' w') (hJ : J v' w') : StepI P ops Q i o a w J := by
  refine step_run hg (v := v') (w' := w') ?_ hJ
  have hs' : a.eval (.tmp s) = v := hs
  have hx' : a.eval (.tmp x) = u := hx
  unfold execOp
  simp only [hop, resolve, invoke, builtin, Sem.run_bind, Sem.run_pure, Result.andThen_ok, List.map_toArray, List.map_cons, List.map_nil, hs', hx', hr]
end Go.Gz
namespace Go.Proofs.Ytbolmfpcddgpgaa
open Go.RowKit Go.Gz

section
variable {w : World} {B M R n : Nat}

/-- what the two appends make. -/
structure AppRun (w1 : World) (R : Nat) (pr : Option Addr) (z cr : Nat) (p : Option Addr) (m c : Nat) (Y : List UInt8) (q5 : Option Addr) (d5 : Nat) (w5 : World) (q6 : Option Addr) (d6 : Nat) (w6 : World) : Prop where
  r5 : (Builtin.append_ #[28, 28] 28 #[.slice (some ⟨w1.heap.size, 0, none⟩) 0 0, .slice pr z cr]).run Try.prog (w1.drew.alloc (.cells #[] 5)) = .ok (.slice q5 z d5) w5
  r6 : (Builtin.append_ #[28, 28] 28 #[.slice q5 z d5, .slice p m c]).run Try.prog w5 = .ok (.slice q6 (z + m) d6) w6
  b5 : Below w1.heap.size w1 w5
  b6 : Below w1.heap.size w1 w6
  o6 : Own w6 w1.heap.size 5 .u8 (.slice q6 (z + m) d6) (nums Y)
theorem app_run (w1 : World) (R : Nat) (pr : Option Addr) (X : List UInt8) (z cr : Nat) (hz : X.length = z) (p : Option Addr) (b : List UInt8) (m c : Nat) (hm : b.length = m) (hr : Row w1 .u8 pr (nums X)) (hpr : pr = none → cr = 0) (hp : ∀ w', Below w1.heap.size w1 w' → Row w' .u8 p (nums b)) (hpc : p = none → c = 0) (hl : z + m ≤ 900000) :
    ∃ q5 d5 w5 q6 d6 w6, AppRun w1 R pr z cr p m c (X ++ b) q5 d5 w5 q6 d6 w6 := by
  have hb0 : Below w1.heap.size w1 (w1.drew.alloc (.cells #[] 5)) := (Below.refl _ _).drew.alloc (Nat.le_refl _) _
  obtain ⟨v5, w5, h5, o5, g5, -⟩ := run_own_row_at (P := Try.prog) (w1.drew.alloc (.cells #[] 5)) 28 28 5 .u8 1 Try.underlying28 info_byte (by decide) w1.heap.size _ [] (own_empty8 w1.drew w1.heap.size (Nat.le_refl _)) pr cr (nums X) (hr.below hb0) hpr (by rw [nums_length]; simp; omega) hb0.size
  obtain ⟨q5, d5, rfl⟩ := o5.slice (m := z) (by rw [List.nil_append, nums_length, hz])
  have b5 : Below w1.heap.size w1 w5 := hb0.grown g5 hb0.size (fun g hg => by
    have e : some w1.heap.size = some g := hg
    injection e with e; omega)
  rw [List.nil_append] at o5
  rw [nums_length, hz] at h5
  obtain ⟨v6, w6, h6, o6, g6, -⟩ := run_own_row_at (P := Try.prog) w5 28 28 5 .u8 1 Try.underlying28 info_byte (by decide) w1.heap.size _ _ o5 p c (nums b) (hp _ b5) hpc (by rw [nums_length, nums_length]; omega) b5.size
  obtain ⟨q6, d6, rfl⟩ := o6.slice (m := z + m) (by rw [List.length_append, nums_length, nums_length, hz, hm])
  rw [nums_length, hm] at h6
  exact ⟨q5, d5, w5, q6, d6, w6, h5, h6, b5, b5.grown g6 b5.size (fun g hg => (o5.ltB g hg).1), by rw [nums_append]; exact o6⟩

/-- the world by what has run. -/
def stg (L : Nat → Bool) (W0 W1 w5 w6 w7 w8 : World) : World := bif L 24 then w8 else bif L 21 then w7 else bif L 10 then w6 else bif L 7 then w5 else bif L 2 then W1 else W0
theorem stg_b {L : Nat → Bool} {W0 W1 w5 w6 w7 w8 : World} (h24 : L 24 = false) (h21 : L 21 = false) : stg L W0 W1 w5 w6 w7 w8 = W0 ∨ stg L W0 W1 w5 w6 w7 w8 = W1 ∨ stg L W0 W1 w5 w6 w7 w8 = w5 ∨ stg L W0 W1 w5 w6 w7 w8 = w6 := by
  unfold stg
  rw [h24, h21]
  cases L 10 <;> cases L 7 <;> cases L 2 <;> simp
theorem stg_l {L : Nat → Bool} {W0 W1 w5 w6 w7 w8 : World} (h24 : L 24 = false) : stg L W0 W1 w5 w6 w7 w8 = W0 ∨ stg L W0 W1 w5 w6 w7 w8 = W1 ∨ stg L W0 W1 w5 w6 w7 w8 = w5 ∨ stg L W0 W1 w5 w6 w7 w8 = w6 ∨ stg L W0 W1 w5 w6 w7 w8 = w7 := by
  unfold stg
  rw [h24]
  cases L 21 <;> cases L 10 <;> cases L 7 <;> cases L 2 <;> simp
theorem stg_all {L : Nat → Bool} {W0 W1 w5 w6 w7 w8 : World} : stg L W0 W1 w5 w6 w7 w8 = W0 ∨ stg L W0 W1 w5 w6 w7 w8 = W1 ∨ stg L W0 W1 w5 w6 w7 w8 = w5 ∨ stg L W0 W1 w5 w6 w7 w8 = w6 ∨ stg L W0 W1 w5 w6 w7 w8 = w7 ∨ stg L W0 W1 w5 w6 w7 w8 = w8 := by
  unfold stg
  cases L 24 <;> cases L 21 <;> cases L 10 <;> cases L 7 <;> cases L 2 <;> simp
theorem stg_W0 {L : Nat → Bool} {W0 W1 w5 w6 w7 w8 : World} (h24 : L 24 = false) (h21 : L 21 = false) (h10 : L 10 = false) (h7 : L 7 = false) (h2 : L 2 = false) : stg L W0 W1 w5 w6 w7 w8 = W0 := by
  unfold stg; rw [h24, h21, h10, h7, h2]; rfl
theorem stg_W1 {L : Nat → Bool} {W0 W1 w5 w6 w7 w8 : World} (h24 : L 24 = false) (h21 : L 21 = false) (h10 : L 10 = false) (h7 : L 7 = false) (h2 : L 2 = true) : stg L W0 W1 w5 w6 w7 w8 = W1 := by
  unfold stg; rw [h24, h21, h10, h7, h2]; rfl
theorem stg_w5 {L : Nat → Bool} {W0 W1 w5 w6 w7 w8 : World} (h24 : L 24 = false) (h21 : L 21 = false) (h10 : L 10 = false) (h7 : L 7 = true) : stg L W0 W1 w5 w6 w7 w8 = w5 := by
  unfold stg; rw [h24, h21, h10, h7]; rfl
theorem stg_w6 {L : Nat → Bool} {W0 W1 w5 w6 w7 w8 : World} (h24 : L 24 = false) (h21 : L 21 = false) (h10 : L 10 = true) : stg L W0 W1 w5 w6 w7 w8 = w6 := by
  unfold stg; rw [h24, h21, h10]; rfl
theorem stg_w7 {L : Nat → Bool} {W0 W1 w5 w6 w7 w8 : World} (h24 : L 24 = false) (h21 : L 21 = true) : stg L W0 W1 w5 w6 w7 w8 = w7 := by
  unfold stg; rw [h24, h21]; rfl
theorem stg_w8 {L : Nat → Bool} {W0 W1 w5 w6 w7 w8 : World} (h24 : L 24 = true) : stg L W0 W1 w5 w6 w7 w8 = w8 := by
  unfold stg; rw [h24]; rfl
theorem no_of {l : List Oper} {L : Nat → Bool} (hC : Closed l L) {a b : Nat} (hb : L b = false) (ps : List Nat) (hp : pathB l ps = true) (h1 : ps.head? = some a) (h2 : ps.getLast? = some b) : L a = false := by
  cases h : L a with
  | false => rfl
  | true => rw [hC.path ps hp a h1 h b h2] at hb; cases hb

set_option maxHeartbeats 40000000 in
set_option maxRecDepth 1000000 in
theorem do_app (h : Pair w B M R n) (hn : n ≤ 100000) (D N : Int) (hD : D = 0 ∨ D = 1 ∨ D = 2 ∨ D = 3) (b : List UInt8) (m : Nat) (hm : b.length = m) (hbl : m ≤ 100000) (p : Option Addr) (c : Nat) (hp : ∀ w', Below B w w' → Row w' .u8 p (nums b)) (hpc : p = none → c = 0) :
    Calls Try.prog 10 #[.pointer (some ⟨M, 0, none⟩), .pointer (some ⟨R, 0, none⟩), deedV D N p m c] w (RetDo w B M R (n + m)) := by
  have mx := mixedMd
  obtain ⟨vs, vl, pr, cr, S, L, hH, hlen⟩ := h
  have hb0 : Below w.heap.size w (w.alloc (.cells #[.int .i64 D, .int .i64 N, .slice p m c] 33)) := (Below.refl _ _).alloc (Nat.le_refl _) _
  have hB := hH.m.hB
  have HH := Lib.hid (hH.below hb0)
  obtain ⟨z, hz⟩ : ∃ z, (S ++ L).length = z := ⟨_, rfl⟩
  obtain ⟨l, hl⟩ : ∃ l, L.length = l := ⟨_, rfl⟩
  have hxl : z = S.length + l := by rw [← hz, List.length_append, hl]
  have HL := Lib.hid (And.intro (show S.length + l ≤ n by omega) (And.intro hn (hb0.mono hB)))
  have HX0 := Lib.hid (And.intro hz (And.intro hl hxl))
  have HP := Lib.hid (And.intro (And.intro hp hpc) (And.intro hm hbl))
  have C1 := Lib.hid (append_any HH.out.m b (by omega) m hm p c (hp _ (hb0.mono hB)) hpc)
  have HF := Lib.hid (show ∀ w3, Pair w3 B M R (n + m) ∧ Below B w w3 → RetDo w B M R (n + m) (.returned (.tuple #[])) w3 from fun w3 h => ⟨rfl, h⟩)
  have HC := Lib.hid (show (w.alloc (.cells #[.int .i64 D, .int .i64 N, .slice p m c] 33)).cell? ⟨w.heap.size, 2, none⟩ = some (.slice p m c) by simp [go_sem])
  have HG := Lib.hid (show ¬ InF M vs vl w.heap.size from fun e => by have := (hH.m.low _ e).2; omega)
  have HRH := Lib.hid (show R ≠ w.heap.size from fun e => by have := hH.r.lt; omega)
  have hlz : (l : Int) ≤ 100000 := by omega
  have hmz : (m : Int) ≤ 100000 := by omega
  have hDz : (D = 0) ∨ ((D == 0) = false ∧ D = 1) ∨ ((D == 0) = false ∧ (D == 1) = false ∧ D = 2) ∨ ((D == 0) = false ∧ (D == 1) = false ∧ (D == 2) = false ∧ D = 3) := by
    rcases hD with rfl | rfl | rfl | rfl <;> decide
  clear hH hb0 hB hlen hn hp hpc hm hbl hz hl hxl hD
  unfold deedV
  go_enter Try.func10, Try.ntmps10
  rcases hDz with rfl | ⟨z0, rfl⟩ | ⟨z0, z1, rfl⟩ | ⟨z0, z1, z2, rfl⟩
  all_goals
    go_wp2_with fail
    refine C1.out.mono ?_
    rintro e w1 ⟨rfl, ht⟩
    obtain ⟨vs', vl', h1, hb1, hk1⟩ := HH.out.turned ht
    have k1 : w1.cell? ⟨w.heap.size, 2, none⟩ = some (.slice p m c) := by rw [hk1.cell (p := ⟨w.heap.size, 2, none⟩) (by simp) HG.out]; exact HC.out
    have HB := Lib.hid (HL.out.2.2.trans hb1)
    have HZ := Lib.hid (show B ≤ w1.heap.size from h1.m.hB)
    obtain ⟨q5, d5, w5, q6, d6, w6, hA⟩ := app_run w1 R pr (S ++ L) z cr HX0.out.1 p b m c HP.out.2.1 h1.r.row h1.r.pc (fun w' hb => HP.out.1.1 _ (HB.out.trans (hb.mono HZ.out))) HP.out.1.2 (by have := HL.out; have := HX0.out.2.2; have := HP.out.2.2; omega)
    have HA := Lib.hid hA
    have bA : Below w1.heap.size w1 (w1.drew.alloc (.cells #[] 5)) := (Below.refl _ _).drew.alloc (Nat.le_refl _) _
    obtain ⟨W1, hW1⟩ : ∃ W1, w1.drew.alloc (.cells #[] 5) = W1 := ⟨_, rfl⟩
    obtain ⟨w7, hw7⟩ : ∃ w7, w6.setCell ⟨R, 0, none⟩ (.slice q6 (z + m) d6) = w7 := ⟨_, rfl⟩
    obtain ⟨w8, hw8⟩ : ∃ w8, w7.setCell ⟨R, 1, none⟩ (.int .i64 ((l : Int) + (m : Int))) = w8 := ⟨_, rfl⟩
    have HW := Lib.hid (And.intro hW1 (And.intro hw7 hw8))
    rw [hW1] at bA
    have k6 : Kept (fun k => k = R) w1 w6 := Kept.of_below hA.b6
    have k7 : Kept (fun k => k = R) w1 w7 := hw7 ▸ k6.trans (Kept.set (F := fun k => k = R) (a := ⟨R, 0, none⟩) _ rfl) fun _ _ e => e
    have k8 : Kept (fun k => k = R) w1 w8 := hw8 ▸ k7.trans (Kept.set (F := fun k => k = R) (a := ⟨R, 1, none⟩) _ rfl) fun _ _ e => e
    have kAll : ∀ y, (y = w1.drew ∨ y = W1 ∨ y = w5 ∨ y = w6 ∨ y = w7 ∨ y = w8) → Kept (fun k => k = R) w1 y := by
      rintro y (rfl | rfl | rfl | rfl | rfl | rfl)
      · exact (Kept.refl _ _).drew
      · exact Kept.of_below bA
      · exact Kept.of_below hA.b5
      · exact k6
      · exact k7
      · exact k8
    have hX6 := h1.below hA.b6
    have HK := Lib.hid (show ∀ y, (y = w1.drew ∨ y = W1 ∨ y = w5 ∨ y = w6 ∨ y = w7 ∨ y = w8) → y.cell? ⟨w.heap.size, 2, none⟩ = some (.slice p m c) from fun y hy => by
      rw [(kAll y hy).cell (p := ⟨w.heap.size, 2, none⟩) (World.block_lt_of_cell? w1 _ k1) (fun e => HRH.out (by have e : w.heap.size = R := e; exact e.symm))]; exact k1)
    have HRB := Lib.hid (show ∀ y, (y = w1.drew ∨ y = W1 ∨ y = w5 ∨ y = w6) → y.cell? ⟨R, 0, none⟩ = some (.slice pr z cr) ∧ y.cell? ⟨R, 1, none⟩ = some (.int .i64 ((l : Nat) : Int)) from fun y hy => by
      have r0 := h1.r.c0
      have r1 := h1.r.c1
      rw [HX0.out.1] at r0
      rw [HX0.out.2.1] at r1
      have hb : Below w1.heap.size w1 y := by
        rcases hy with rfl | rfl | rfl | rfl
        · exact (Below.refl _ _).drew
        · exact bA
        · exact hA.b5
        · exact hA.b6
      exact ⟨by rw [hb.cell (p := ⟨R, 0, none⟩) h1.r.lt]; exact r0, by rw [hb.cell (p := ⟨R, 1, none⟩) h1.r.lt]; exact r1⟩)
    have HR7 := Lib.hid (show w7.cell? ⟨R, 1, none⟩ = some (.int .i64 ((l : Nat) : Int)) from by
      rw [← hw7, World.cell?_setCell_other _ _ _ _ (by intro e; injection e with _ e _; cases e)]
      exact (HRB.out w6 (Or.inr (Or.inr (Or.inr rfl)))).2)
    have HG6 := Lib.hid (show w6.frozen? ⟨R, 0, none⟩ = false ∧ w7.frozen? ⟨R, 1, none⟩ = false from ⟨hX6.r.f0, by
      rw [← hw7]; simpa [go_sem] using hX6.r.f1⟩)
    have HE := Lib.hid (HF.out w8 (by
      have hlow : ∀ i, q6.map (·.block) = some i → w1.heap.size ≤ i ∧ i < w6.heap.size := fun i hi => by
        have : (Value.slice q6 (z + m) d6).ownBlock = some i := by cases q6 with | none => cases hi | some a => exact hi
        exact hA.o6.ltB i this
      have hl6 : (S ++ L ++ b).length = z + m := by rw [List.length_append, HX0.out.1, HP.out.2.1]
      obtain ⟨q', d', e', hd', hq', hr'⟩ := own_row hA.o6
      injection e' with e1 e2 e3
      subst e1 e3
      rw [← e2] at hd'
      have hR := hX6.r.set (X' := S ++ L ++ b) (l' := l + m) (Kept.refl _ w6) hl6 hr' (Or.inr fun e => by have := (hlow R e).1; have := h1.r.lt; omega) hd' hq'
      rw [hw7, show ((l + m : Nat) : Int) = (l : Int) + (m : Int) from rfl, hw8] at hR
      obtain ⟨a, b'⟩ := h1.setR k8 hR (Or.inr fun i hi => ⟨(hlow i hi).1, by have := (hlow i hi).2; rw [← hw8, ← hw7]; simpa [World.setCell] using this⟩)
      exact ⟨⟨vs', vl', q6, d6, S, L ++ b, by rw [← List.append_assoc, List.length_append, HX0.out.2.1, HP.out.2.1]; exact a, by rw [List.length_append, HX0.out.2.1, HP.out.2.1]; have := HL.out.1; omega⟩, HB.out.trans b'⟩))
    clear ht hb1 h1 hk1 hA bA k6 k7 k8 kAll hX6 k1 hW1 hw7 hw8 C1
    go_wp2_with fail
    refine wp_region_state mx (by kernel_rfl) [some (.pointer (some ⟨R, 0, none⟩)), some (.pointer (some ⟨R, 0, none⟩)), some (.slice (some ⟨w1.heap.size, 0, none⟩) 0 0), some (.pointer (some ⟨R, 0, none⟩)), some (.pointer (some ⟨R, 0, none⟩)), some (.pointer (some ⟨R, 0, none⟩)), some (.slice pr z cr), some (.slice q5 z d5), some (.pointer (some ⟨w.heap.size, 2, none⟩)), some (.slice p m c), some (.slice q6 (z + m) d6), some (.pointer (some ⟨R, 0, none⟩)), some (.pointer (some ⟨R, 0, none⟩)), some (.pointer (some ⟨R, 1, none⟩)), some (.int .i64 ((l : Nat) : Int)), some (.pointer (some ⟨w.heap.size, 2, none⟩)), some (.slice p m c), some (.int .i64 ((m : Nat) : Int)), some (.int .i64 ((l : Int) + (m : Int))), some (.pointer (some ⟨R, 0, none⟩)), some (.pointer (some ⟨R, 0, none⟩)), none, some (.pointer (some ⟨R, 0, none⟩)), some (.pointer (some ⟨R, 1, none⟩)), none] (fun L y => Hid (y = stg L w1.drew W1 w5 w6 w7 w8)) (Lib.hid rfl) ?_ ?_
    · intro i o L vals y hi hL hdep hC hJ hV
      have hlt : i < 25 := by have := (List.getElem?_eq_some_iff.1 hi).1; simpa using this
      generalize hA : frA _ _ L vals = a'
      have hT1 : a'.tmps.getD 1 undef = .pointer (some ⟨R, 0, none⟩) := by rw [← hA, frA_base (by kernel_rfl)]; rfl
      have hT5 : a'.tmps.getD 5 undef = .pointer (some ⟨w.heap.size, 0, none⟩) := by rw [← hA, frA_base (by kernel_rfl)]; rfl
      have hD := Lib.hid (fun k t (hk : L k = true) (ht : dstOf _ k = some t) => hA ▸ frA_done (by kernel_rfl) (vals := vals) hk ht)
      clear hA
      have kD := HK.out y (hJ.out ▸ stg_all)
      obtain rfl | rfl | rfl | rfl | rfl | rfl | rfl | rfl | rfl | rfl | rfl | rfl | rfl | rfl | rfl | rfl | rfl | rfl | rfl | rfl | rfl | rfl | rfl | rfl | rfl : i = 0 ∨ i = 1 ∨ i = 2 ∨ i = 3 ∨ i = 4 ∨ i = 5 ∨ i = 6 ∨ i = 7 ∨ i = 8 ∨ i = 9 ∨ i = 10 ∨ i = 11 ∨ i = 12 ∨ i = 13 ∨ i = 14 ∨ i = 15 ∨ i = 16 ∨ i = 17 ∨ i = 18 ∨ i = 19 ∨ i = 20 ∨ i = 21 ∨ i = 22 ∨ i = 23 ∨ i = 24 := by omega
      all_goals
        injection hi with hi
        subst hi
        try simp [Region.binds] at hdep
      · exact step_run rfl (v := .pointer (some ⟨R, 0, none⟩)) (w' := y) (by go_simp) ⟨EqV.self rfl, hJ⟩
      · exact step_run rfl (v := .pointer (some ⟨R, 0, none⟩)) (w' := y) (by go_simp) ⟨EqV.self rfl, hJ⟩
      · have n7 := no_of hC hL [7, 2] (by kernel_rfl) rfl rfl
        have n10 := no_of hC hL [10, 7, 2] (by kernel_rfl) rfl rfl
        have n21 := no_of hC hL [21, 10, 7, 2] (by kernel_rfl) rfl rfl
        have n24 := no_of hC hL [24, 21, 10, 7, 2] (by kernel_rfl) rfl rfl
        obtain rfl : y = w1.drew := hJ.out.trans (stg_W0 n24 n21 n10 n7 hL)
        exact step_run rfl (v := .slice (some ⟨w1.heap.size, 0, none⟩) 0 0) (w' := W1) (by rw [← HW.out.1]; go_simp) ⟨EqV.self rfl, (stg_W1 (L := updL L 2) n24 n21 n10 n7 rfl).symm⟩
      · exact step_run rfl (v := .pointer (some ⟨R, 0, none⟩)) (w' := y) (by go_simp) ⟨EqV.self rfl, hJ⟩
      · have d20 := hD.out 3 20 (by simp [hdep]) rfl
        rw [show vals 3 = .pointer (some ⟨R, 0, none⟩) from (hV 3 (by simp [hdep])).of rfl] at d20
        exact step_run rfl (v := .pointer (some ⟨R, 0, none⟩)) (w' := y) (by go_simp) ⟨EqV.self rfl, hJ⟩
      · have d21 := hD.out 4 21 (by simp [hdep]) rfl
        rw [show vals 4 = .pointer (some ⟨R, 0, none⟩) from (hV 4 (by simp [hdep])).of rfl] at d21
        exact step_run rfl (v := .pointer (some ⟨R, 0, none⟩)) (w' := y) (by go_simp) ⟨EqV.self rfl, hJ⟩
      · have d22 := hD.out 5 22 (by simp [hdep]) rfl
        rw [show vals 5 = .pointer (some ⟨R, 0, none⟩) from (hV 5 (by simp [hdep])).of rfl] at d22
        have n21 := no_of hC hL [21, 10, 7, 6] (by kernel_rfl) rfl rfl
        have n24 := no_of hC hL [24, 21, 10, 7, 6] (by kernel_rfl) rfl rfl
        have kB := (HRB.out y (hJ.out ▸ stg_b n24 n21)).1
        exact step_run rfl (v := .slice pr z cr) (w' := y) (by go_simp) ⟨EqV.self rfl, hJ⟩
      · have d19 := hD.out 2 19 (by simp [hdep]) rfl
        rw [show vals 2 = .slice (some ⟨w1.heap.size, 0, none⟩) 0 0 from (hV 2 (by simp [hdep])).of rfl] at d19
        have d23 := hD.out 6 23 (by simp [hdep]) rfl
        rw [show vals 6 = .slice pr z cr from (hV 6 (by simp [hdep])).of rfl] at d23
        have n10 := no_of hC hL [10, 7] (by kernel_rfl) rfl rfl
        have n21 := no_of hC hL [21, 10, 7] (by kernel_rfl) rfl rfl
        have n24 := no_of hC hL [24, 21, 10, 7] (by kernel_rfl) rfl rfl
        have y2 : L 2 = true := by simp [hdep]
        obtain rfl : y = W1 := hJ.out.trans (stg_W1 n24 n21 n10 hL y2)
        exact step_append_run rfl 19 23 28 rfl d19 d23 (by rw [← HW.out.1]; exact HA.out.r5) ⟨EqV.self rfl, (stg_w5 (L := updL L 7) n24 n21 n10 rfl).symm⟩
      · exact step_run rfl (v := .pointer (some ⟨w.heap.size, 2, none⟩)) (w' := y) (by go_simp) ⟨EqV.self rfl, hJ⟩
      · have d25 := hD.out 8 25 (by simp [hdep]) rfl
        rw [show vals 8 = .pointer (some ⟨w.heap.size, 2, none⟩) from (hV 8 (by simp [hdep])).of rfl] at d25
        exact step_run rfl (v := .slice p m c) (w' := y) (by go_simp) ⟨EqV.self rfl, hJ⟩
      · have d24 := hD.out 7 24 (by simp [hdep]) rfl
        rw [show vals 7 = .slice q5 z d5 from (hV 7 (by simp [hdep])).of rfl] at d24
        have d26 := hD.out 9 26 (by simp [hdep]) rfl
        rw [show vals 9 = .slice p m c from (hV 9 (by simp [hdep])).of rfl] at d26
        have n21 := no_of hC hL [21, 10] (by kernel_rfl) rfl rfl
        have n24 := no_of hC hL [24, 21, 10] (by kernel_rfl) rfl rfl
        have y7 : L 7 = true := by simp [hdep]
        obtain rfl : y = w5 := hJ.out.trans (stg_w5 n24 n21 hL y7)
        exact step_append_run rfl 24 26 28 rfl d24 d26 HA.out.r6 ⟨EqV.self rfl, (stg_w6 (L := updL L 10) n24 n21 rfl).symm⟩
      · exact step_run rfl (v := .pointer (some ⟨R, 0, none⟩)) (w' := y) (by go_simp) ⟨EqV.self rfl, hJ⟩
      · have d28 := hD.out 11 28 (by simp [hdep]) rfl
        rw [show vals 11 = .pointer (some ⟨R, 0, none⟩) from (hV 11 (by simp [hdep])).of rfl] at d28
        exact step_run rfl (v := .pointer (some ⟨R, 0, none⟩)) (w' := y) (by go_simp) ⟨EqV.self rfl, hJ⟩
      · have d29 := hD.out 12 29 (by simp [hdep]) rfl
        rw [show vals 12 = .pointer (some ⟨R, 0, none⟩) from (hV 12 (by simp [hdep])).of rfl] at d29
        exact step_run rfl (v := .pointer (some ⟨R, 1, none⟩)) (w' := y) (by go_simp) ⟨EqV.self rfl, hJ⟩
      · have d30 := hD.out 13 30 (by simp [hdep]) rfl
        rw [show vals 13 = .pointer (some ⟨R, 1, none⟩) from (hV 13 (by simp [hdep])).of rfl] at d30
        have n24 := no_of hC hL [24, 18, 14] (by kernel_rfl) rfl rfl
        have kL : y.cell? ⟨R, 1, none⟩ = some (.int .i64 ((l : Nat) : Int)) := by
          rcases (hJ.out ▸ stg_l n24 : y = w1.drew ∨ y = W1 ∨ y = w5 ∨ y = w6 ∨ y = w7) with e | e | e | e | e
          · exact (HRB.out y (Or.inl e)).2
          · exact (HRB.out y (Or.inr (Or.inl e))).2
          · exact (HRB.out y (Or.inr (Or.inr (Or.inl e)))).2
          · exact (HRB.out y (Or.inr (Or.inr (Or.inr e)))).2
          · rw [e]; exact HR7.out
        exact step_run rfl (v := .int .i64 ((l : Nat) : Int)) (w' := y) (by go_simp) ⟨EqV.self rfl, hJ⟩
      · exact step_run rfl (v := .pointer (some ⟨w.heap.size, 2, none⟩)) (w' := y) (by go_simp) ⟨EqV.self rfl, hJ⟩
      · have d32 := hD.out 15 32 (by simp [hdep]) rfl
        rw [show vals 15 = .pointer (some ⟨w.heap.size, 2, none⟩) from (hV 15 (by simp [hdep])).of rfl] at d32
        exact step_run rfl (v := .slice p m c) (w' := y) (by go_simp) ⟨EqV.self rfl, hJ⟩
      · have d33 := hD.out 16 33 (by simp [hdep]) rfl
        rw [show vals 16 = .slice p m c from (hV 16 (by simp [hdep])).of rfl] at d33
        exact step_run rfl (v := .int .i64 ((m : Nat) : Int)) (w' := y) (by go_simp) ⟨EqV.self rfl, hJ⟩
      · have d31 := hD.out 14 31 (by simp [hdep]) rfl
        rw [show vals 14 = .int .i64 ((l : Nat) : Int) from (hV 14 (by simp [hdep])).of rfl] at d31
        have d34 := hD.out 17 34 (by simp [hdep]) rfl
        rw [show vals 17 = .int .i64 ((m : Nat) : Int) from (hV 17 (by simp [hdep])).of rfl] at d34
        have hwr : IntKind.i64.wrap ((l : Int) + (m : Int)) = (l : Int) + (m : Int) := IntWalk.i64_in _ (by omega)
        exact step_run rfl (v := .int .i64 ((l : Int) + (m : Int))) (w' := y) (by go_simp) ⟨EqV.self rfl, hJ⟩
      · have d17 := hD.out 0 17 (by simp [hdep]) rfl
        rw [show vals 0 = .pointer (some ⟨R, 0, none⟩) from (hV 0 (by simp [hdep])).of rfl] at d17
        exact step_run rfl (v := .pointer (some ⟨R, 0, none⟩)) (w' := y) (by go_simp) ⟨EqV.self rfl, hJ⟩
      · have d36 := hD.out 19 36 (by simp [hdep]) rfl
        rw [show vals 19 = .pointer (some ⟨R, 0, none⟩) from (hV 19 (by simp [hdep])).of rfl] at d36
        exact step_run rfl (v := .pointer (some ⟨R, 0, none⟩)) (w' := y) (by go_simp) ⟨EqV.self rfl, hJ⟩
      · have d37 := hD.out 20 37 (by simp [hdep]) rfl
        rw [show vals 20 = .pointer (some ⟨R, 0, none⟩) from (hV 20 (by simp [hdep])).of rfl] at d37
        have d27 := hD.out 10 27 (by simp [hdep]) rfl
        rw [show vals 10 = .slice q6 (z + m) d6 from (hV 10 (by simp [hdep])).of rfl] at d27
        have n24 := no_of hC hL [24, 21] (by kernel_rfl) rfl rfl
        have y10 : L 10 = true := by simp [hdep]
        obtain rfl : y = w6 := hJ.out.trans (stg_w6 n24 hL y10)
        have c0 := (HRB.out y (Or.inr (Or.inr (Or.inr rfl)))).1
        have g0 := HG6.out.1
        refine stepI_skip rfl (w' := w7) (by rw [← HW.out.2.1]; go_simp) ⟨EqV.no rfl, (stg_w7 (L := updL L 21) n24 rfl).symm⟩
      · have d18 := hD.out 1 18 (by simp [hdep]) rfl
        rw [show vals 1 = .pointer (some ⟨R, 0, none⟩) from (hV 1 (by simp [hdep])).of rfl] at d18
        exact step_run rfl (v := .pointer (some ⟨R, 0, none⟩)) (w' := y) (by go_simp) ⟨EqV.self rfl, hJ⟩
      · have d38 := hD.out 22 38 (by simp [hdep]) rfl
        rw [show vals 22 = .pointer (some ⟨R, 0, none⟩) from (hV 22 (by simp [hdep])).of rfl] at d38
        exact step_run rfl (v := .pointer (some ⟨R, 1, none⟩)) (w' := y) (by go_simp) ⟨EqV.self rfl, hJ⟩
      · have d39 := hD.out 23 39 (by simp [hdep]) rfl
        rw [show vals 23 = .pointer (some ⟨R, 1, none⟩) from (hV 23 (by simp [hdep])).of rfl] at d39
        have d35 := hD.out 18 35 (by simp [hdep]) rfl
        rw [show vals 18 = .int .i64 ((l : Int) + (m : Int)) from (hV 18 (by simp [hdep])).of rfl] at d35
        have y21 : L 21 = true := by simp [hdep]
        obtain rfl : y = w7 := hJ.out.trans (stg_w7 hL y21)
        have c1 := HR7.out
        have g1 := HG6.out.2
        refine stepI_skip rfl (w' := w8) (by rw [← HW.out.2.2]; go_simp) ⟨EqV.no rfl, (stg_w8 (L := updL L 24) rfl).symm⟩
    · intro vals y hJ hV
      have e0 : vals 0 = .pointer (some ⟨R, 0, none⟩) := (hV 0 (by decide)).of rfl
      have e1 : vals 1 = .pointer (some ⟨R, 0, none⟩) := (hV 1 (by decide)).of rfl
      have e2 : vals 2 = .slice (some ⟨w1.heap.size, 0, none⟩) 0 0 := (hV 2 (by decide)).of rfl
      have e3 : vals 3 = .pointer (some ⟨R, 0, none⟩) := (hV 3 (by decide)).of rfl
      have e4 : vals 4 = .pointer (some ⟨R, 0, none⟩) := (hV 4 (by decide)).of rfl
      have e5 : vals 5 = .pointer (some ⟨R, 0, none⟩) := (hV 5 (by decide)).of rfl
      have e6 : vals 6 = .slice pr z cr := (hV 6 (by decide)).of rfl
      have e7 : vals 7 = .slice q5 z d5 := (hV 7 (by decide)).of rfl
      have e8 : vals 8 = .pointer (some ⟨w.heap.size, 2, none⟩) := (hV 8 (by decide)).of rfl
      have e9 : vals 9 = .slice p m c := (hV 9 (by decide)).of rfl
      have e10 : vals 10 = .slice q6 (z + m) d6 := (hV 10 (by decide)).of rfl
      have e11 : vals 11 = .pointer (some ⟨R, 0, none⟩) := (hV 11 (by decide)).of rfl
      have e12 : vals 12 = .pointer (some ⟨R, 0, none⟩) := (hV 12 (by decide)).of rfl
      have e13 : vals 13 = .pointer (some ⟨R, 1, none⟩) := (hV 13 (by decide)).of rfl
      have e14 : vals 14 = .int .i64 ((l : Nat) : Int) := (hV 14 (by decide)).of rfl
      have e15 : vals 15 = .pointer (some ⟨w.heap.size, 2, none⟩) := (hV 15 (by decide)).of rfl
      have e16 : vals 16 = .slice p m c := (hV 16 (by decide)).of rfl
      have e17 : vals 17 = .int .i64 ((m : Nat) : Int) := (hV 17 (by decide)).of rfl
      have e18 : vals 18 = .int .i64 ((l : Int) + (m : Int)) := (hV 18 (by decide)).of rfl
      have e19 : vals 19 = .pointer (some ⟨R, 0, none⟩) := (hV 19 (by decide)).of rfl
      have e20 : vals 20 = .pointer (some ⟨R, 0, none⟩) := (hV 20 (by decide)).of rfl
      have e22 : vals 22 = .pointer (some ⟨R, 0, none⟩) := (hV 22 (by decide)).of rfl
      have e23 : vals 23 = .pointer (some ⟨R, 1, none⟩) := (hV 23 (by decide)).of rfl
      simp only [putsL, Act.put, List.setIfInBounds_toArray, List.set_cons_zero, List.set_cons_succ, e0, e1, e2, e3, e4, e5, e6, e7, e8, e9, e10, e11, e12, e13, e14, e15, e16, e17, e18, e19, e20, e22, e23]
      clear e0 e1 e2 e3 e4 e5 e6 e7 e8 e9 e10 e11 e12 e13 e14 e15 e16 e17 e18 e19 e20 e22 e23
      obtain rfl : y = w8 := hJ.out.trans (stg_w8 (by decide))
      clear hJ hV
      go_wp2_with fail
      exact bodyPost_end (v := .tuple #[]) (by simp [results, Try.results10]) rfl HE.out
end
end Go.Proofs.Ytbolmfpcddgpgaa
