/-
  Layer sortkey: what an element has on the fourth level, and on each level.
-/
import Derived.Test.YtcocmmndonlhkaaDoorWeRows
import Derived.Test.YtcocmmndonlhkaaDoorSkMath
import Derived.ChangeKeysEq
import Derived.Deep.CutRange
namespace Go.Proofs.YtcocmmndonlhkaaDoor
open Go.RowKit Go.Gz Go.Sort

theorem eqS_el (n : Nat) (a b c a' b' c' : Int) (w : World) : (Op.equalIn (n + 2) 26 (.agg #[.int .i64 a, .int .i64 b, .int .i64 c]) (.agg #[.int .i64 a', .int .i64 b', .int .i64 c'])).run Tryd.prog w = .ok (a == a' && (b == b' && c == c')) w := by
  by_cases h1 : a = a'
  · by_cases h2 : b = b'
    · by_cases h3 : c = c'
      · simp [go_sem, h1, h2, h3]
      · simp [go_sem, h1, h2, h3]
    · simp [go_sem, h1, h2]
  · simp [go_sem, h1]
theorem build_el0 (w : World) : (Instr.build 26 #[]).run Tryd.prog w = .ok (.agg #[.int .i64 0, .int .i64 0, .int .i64 0]) w := by kernel_rfl
theorem build_w3 (a : Int) (w : World) : (Instr.build 58 #[(3, .int .i64 a)]).run Tryd.prog w = .ok (.agg #[.int .i64 0, .int .i64 0, .int .i64 0, .int .i64 a]) w := by kernel_rfl
theorem build_w0 (w : World) : (Instr.build 58 #[]).run Tryd.prog w = .ok (.agg #[.int .i64 0, .int .i64 0, .int .i64 0, .int .i64 0]) w := by kernel_rfl
theorem build_w012 (a b c : Int) (w : World) : (Instr.build 58 #[(0, .int .i64 a), (1, .int .i64 b), (2, .int .i64 c)]).run Tryd.prog w = .ok (.agg #[.int .i64 a, .int .i64 b, .int .i64 c, .int .i64 0]) w := by kernel_rfl

set_option maxHeartbeats 1000000 in
theorem isFirm_any (top : Int) (p s t : Int) (W : World) : Calls Tryd.prog 29 #[.int .i64 top, .agg #[.int .i64 p, .int .i64 s, .int .i64 t]] W fun e w' => e = .returned (.bool (firmB top ⟨p, s, t⟩)) ∧ Below W.heap.size W w' := by
  have b0 := fun w => build_el0 w
  have hq : ∀ w, (Op.equalIn 10000 26 (.agg #[.int .i64 p, .int .i64 s, .int .i64 t]) (.agg #[.int .i64 0, .int .i64 0, .int .i64 0])).run Tryd.prog w = .ok (p == 0 && (s == 0 && t == 0)) w := fun w => eqS_el 9998 p s t 0 0 0 w
  have hB := Lib.hid ((Below.refl W.heap.size W).alloc (Nat.le_refl _) (.cells #[.int .i64 p, .int .i64 s, .int .i64 t] 26))
  obtain ⟨z, hz⟩ : ∃ z, (p == 0 && (s == 0 && t == 0)) = z := ⟨_, rfl⟩
  have HZ := Lib.hid hz
  rw [hz] at hq
  clear hz
  cases z with
  | true =>
    have hv : firmB top ⟨p, s, t⟩ = false := by
      have := HZ.out
      simp at this
      simp [firmB, this]
    rw [hv]; clear hv
    go_enter Tryd.func29, Tryd.ntmps29
    go_wp2_with fail
    go_ret
    exact ⟨rfl, hB.out⟩
  | false =>
    have hne : (decide ((⟨p, s, t⟩ : EL) = ⟨0, 0, 0⟩)) = false := by
      have := HZ.out
      simp only [decide_eq_false_iff_not, EL.mk.injEq]
      simp at this
      omega
    by_cases h1 : top < p
    · have hv : firmB top ⟨p, s, t⟩ = true := by simp only [firmB, hne, decide_eq_true h1, Bool.not_false, Bool.true_or, Bool.and_true]
      rw [hv]; clear hv
      have HH := Lib.hid hne; clear hne
      go_enter Tryd.func29, Tryd.ntmps29
      go_wp2_with fail
      go_ret
      exact ⟨rfl, hB.out⟩
    · have h1d : decide (top < p) = false := decide_eq_false h1
      by_cases h2 : p = 0
      · have h2b : (p == 0) = true := by simp [h2]
        have h2d : decide (p = 0) = true := by simp [h2]
        by_cases h3 : 0 < t
        · have hv : firmB top ⟨p, s, t⟩ = true := by simp only [firmB, hne, h2d, h3, decide_true, Bool.not_false, Bool.or_true, Bool.and_true]
          rw [hv]; clear hv
          have HH := Lib.hid hne; clear hne h2
          go_enter Tryd.func29, Tryd.ntmps29
          go_wp2_with fail
          go_ret
          exact ⟨rfl, hB.out⟩
        · have h3d : decide (0 < t) = false := decide_eq_false h3
          have hv : firmB top ⟨p, s, t⟩ = false := by simp only [firmB, hne, h1d, h3d, Bool.and_false, Bool.or_false]
          rw [hv]; clear hv
          have HH := Lib.hid hne; clear hne h2
          go_enter Tryd.func29, Tryd.ntmps29
          go_wp2_with fail
          go_ret
          exact ⟨rfl, hB.out⟩
      · have h2b : (p == 0) = false := by simp [h2]
        have h2d : decide (p = 0) = false := by simp [h2]
        have hv : firmB top ⟨p, s, t⟩ = false := by simp only [firmB, hne, h1d, h2d, Bool.and_false, Bool.false_and, Bool.or_false]
        rw [hv]; clear hv
        have HH := Lib.hid hne; clear hne
        go_enter Tryd.func29, Tryd.ntmps29
        go_wp2_with fail
        go_ret
        exact ⟨rfl, hB.out⟩

theorem bcell4 {W w1 : World} (hb : Below W.heap.size W w1) : (∀ b o, b < W.heap.size → w1.cell? ⟨b, o, none⟩ = W.cell? ⟨b, o, none⟩) ∧ (∀ b o, b < W.heap.size → w1.frozen? ⟨b, o, none⟩ = W.frozen? ⟨b, o, none⟩) :=
  ⟨fun b o h => hb.cell (p := ⟨b, o, none⟩) h, fun b o h => hb.frozen (p := ⟨b, o, none⟩) h⟩
theorem sh_end {W w1 : World} (h : Below W.heap.size W w1) (a b c d : Value) : Below W.heap.size W ((((w1.setCell ⟨W.heap.size + 1, 0, none⟩ a).setCell ⟨W.heap.size + 1, 1, none⟩ b).setCell ⟨W.heap.size + 1, 2, none⟩ c).setCell ⟨W.heap.size + 1, 3, none⟩ d).drew :=
  (((((h.setCell (p := ⟨W.heap.size + 1, 0, none⟩) (Nat.le_succ _) _).setCell (p := ⟨W.heap.size + 1, 1, none⟩) (Nat.le_succ _) _).setCell (p := ⟨W.heap.size + 1, 2, none⟩) (Nat.le_succ _) _).setCell (p := ⟨W.heap.size + 1, 3, none⟩) (Nat.le_succ _) _)).drew
/-- what shift's blocks hold ahead of its last statement. -/
structure Sh8 (W w : World) (p s t fv : Int) : Prop where
  b : Below W.heap.size W w
  rd : w.cell? ⟨W.heap.size, 0, none⟩ = some (.int .i64 p) ∧ w.cell? ⟨W.heap.size + 1 + 1, 0, none⟩ = some (.int .i64 p) ∧ w.cell? ⟨W.heap.size + 1 + 1, 1, none⟩ = some (.int .i64 s) ∧ w.cell? ⟨W.heap.size + 1 + 1, 2, none⟩ = some (.int .i64 t) ∧ w.cell? ⟨W.heap.size + 1 + 1, 3, none⟩ = some (.int .i64 fv) ∧ w.frozen? ⟨W.heap.size + 1 + 1, 3, none⟩ = false
  wr : w.cell? ⟨W.heap.size + 1, 0, none⟩ = some (.int .i64 0) ∧ w.cell? ⟨W.heap.size + 1, 1, none⟩ = some (.int .i64 0) ∧ w.cell? ⟨W.heap.size + 1, 2, none⟩ = some (.int .i64 0) ∧ w.cell? ⟨W.heap.size + 1, 3, none⟩ = some (.int .i64 0) ∧ w.frozen? ⟨W.heap.size + 1, 0, none⟩ = false ∧ w.frozen? ⟨W.heap.size + 1, 1, none⟩ = false ∧ w.frozen? ⟨W.heap.size + 1, 2, none⟩ = false ∧ w.frozen? ⟨W.heap.size + 1, 3, none⟩ = false
theorem sh8_of (W w1 : World) (p s t : Int) (hb1 : Below (((W.alloc (.cells #[.int .i64 p, .int .i64 s, .int .i64 t] 26)).alloc (.cells #[.int .i64 0, .int .i64 0, .int .i64 0, .int .i64 0] 58)).alloc (.cells #[.int .i64 p, .int .i64 s, .int .i64 t, .int .i64 0] 58)).heap.size (((W.alloc (.cells #[.int .i64 p, .int .i64 s, .int .i64 t] 26)).alloc (.cells #[.int .i64 0, .int .i64 0, .int .i64 0, .int .i64 0] 58)).alloc (.cells #[.int .i64 p, .int .i64 s, .int .i64 t, .int .i64 0] 58)) w1) : Sh8 W w1 p s t 0 := by
  obtain ⟨hc, hf⟩ := bcell4 hb1
  refine ⟨((((Below.refl W.heap.size W).alloc (Nat.le_refl _) _).alloc (by simp) _).alloc (by simp; omega) _).trans (hb1.mono (by simp; omega)), ⟨?_, ?_, ?_, ?_, ?_, ?_⟩, ⟨?_, ?_, ?_, ?_, ?_, ?_, ?_, ?_⟩⟩
  · rw [hc W.heap.size 0 (by simp; omega)]; simp [go_sem]
  · rw [hc (W.heap.size + 1 + 1) 0 (by simp)]; simp [go_sem]
  · rw [hc (W.heap.size + 1 + 1) 1 (by simp)]; simp [go_sem]
  · rw [hc (W.heap.size + 1 + 1) 2 (by simp)]; simp [go_sem]
  · rw [hc (W.heap.size + 1 + 1) 3 (by simp)]; simp [go_sem]
  · rw [hf (W.heap.size + 1 + 1) 3 (by simp)]; simp [go_sem]
  · rw [hc (W.heap.size + 1) 0 (by simp)]; simp [go_sem]
  · rw [hc (W.heap.size + 1) 1 (by simp)]; simp [go_sem]
  · rw [hc (W.heap.size + 1) 2 (by simp)]; simp [go_sem]
  · rw [hc (W.heap.size + 1) 3 (by simp)]; simp [go_sem]
  · rw [hf (W.heap.size + 1) 0 (by simp)]; simp [go_sem]
  · rw [hf (W.heap.size + 1) 1 (by simp)]; simp [go_sem]
  · rw [hf (W.heap.size + 1) 2 (by simp)]; simp [go_sem]
  · rw [hf (W.heap.size + 1) 3 (by simp)]; simp [go_sem]
theorem Sh8.firm {W w : World} {p s t : Int} (h : Sh8 W w p s t 0) : Sh8 W (w.setCell ⟨W.heap.size + 1 + 1, 3, none⟩ (.int .i64 65535)) p s t 65535 := by
  obtain ⟨a0, a1, a2, a3, a4, a5⟩ := h.rd
  obtain ⟨x0, x1, x2, x3, y0, y1, y2, y3⟩ := h.wr
  have o : ∀ b j v, b ≠ W.heap.size + 1 + 1 ∨ j ≠ 3 → w.cell? ⟨b, j, none⟩ = some v → (w.setCell ⟨W.heap.size + 1 + 1, 3, none⟩ (.int .i64 65535)).cell? ⟨b, j, none⟩ = some v := fun b j v hne hv => by
    exact (World.cell?_setCell_other w ⟨W.heap.size + 1 + 1, 3, none⟩ ⟨b, j, none⟩ _ (fun e => by injection e with e1 e2 _; omega)).trans hv
  refine ⟨h.b.setCell (p := ⟨W.heap.size + 1 + 1, 3, none⟩) (by show W.heap.size ≤ W.heap.size + 1 + 1; omega) _, ⟨o _ _ _ (by omega) a0, o _ _ _ (by omega) a1, o _ _ _ (by omega) a2, o _ _ _ (by omega) a3, World.cell?_setCell_same w _ _ a4, by simpa using a5⟩, ⟨o _ _ _ (by omega) x0, o _ _ _ (by omega) x1, o _ _ _ (by omega) x2, o _ _ _ (by omega) x3, by simpa using y0, by simpa using y1, by simpa using y2, by simpa using y3⟩⟩
abbrev arr4 (l : List Int) : Value := .agg (l.map (Value.int .i64)).toArray
/-- an array of four numbers and a Bool, that a call returned. -/
def RetSh (r : List Int × Bool) (W : World) (e : Ending) (w' : World) : Prop := e = .returned (.tuple #[arr4 r.1, .bool r.2]) ∧ Below W.heap.size W w'

set_option maxHeartbeats 20000000 in
set_option maxRecDepth 100000 in
theorem shift_any (top : Int) (p s t : Int) (b : Bool) (W : World) : Calls Tryd.prog 20 #[.int .i64 top, .agg #[.int .i64 p, .int .i64 s, .int .i64 t], .bool b] W (RetSh (shiftE top ⟨p, s, t⟩ b) W) := by
  have b1 := fun w => build_w3 p w
  have b2 := fun w => build_w0 w
  have b3 := fun w => build_w012 p s t w
  by_cases h1 : 0 < p ∧ p ≤ top
  · have hv : shiftE top ⟨p, s, t⟩ b = ([0, 0, 0, p], true) := by simp [shiftE, h1]
    rw [hv]; clear hv
    obtain ⟨h1, h2⟩ := h1
    go_enter Tryd.func20, Tryd.ntmps20
    go_wp2_with fail
    refine bodyPost_ret (v := .tuple #[arr4 [0, 0, 0, p], .bool true]) (by simp [results, Tryd.results20, go_sem]) rfl ⟨rfl, ?_⟩
    exact ((Below.refl W.heap.size W).alloc (Nat.le_refl _) _).alloc (by simp) _
  · by_cases h2 : p = 0 ∧ b = true
    · obtain ⟨rfl, rfl⟩ := h2
      have hv : shiftE top ⟨0, s, t⟩ true = ([0, 0, 0, 0], true) := by simp [shiftE]
      rw [hv]; clear hv h1
      go_enter Tryd.func20, Tryd.ntmps20
      go_wp2_with fail
      refine bodyPost_ret (v := .tuple #[arr4 [0, 0, 0, 0], .bool true]) (by simp [results, Tryd.results20, go_sem]) rfl ⟨rfl, ?_⟩
      exact ((Below.refl W.heap.size W).alloc (Nat.le_refl _) _).alloc (by simp) _
    · have hv : shiftE top ⟨p, s, t⟩ b = ([p, s, t, if firmB top ⟨p, s, t⟩ = true then 65535 else 0], b && decide (p < 0)) := by
        unfold shiftE
        rw [if_neg h1, if_neg h2]
      rw [hv]; clear hv
      have hif := Lib.hid (fun w => isFirm_any top p s t w)
      obtain ⟨fb, hfb⟩ : ∃ fb, firmB top ⟨p, s, t⟩ = fb := ⟨_, rfl⟩
      rw [hfb] at hif ⊢
      clear hfb
      have mx : Tryd.prog.follows .mixedOrders = true := by kernel_rfl
      have hcase : (decide (0 < p) = true ∧ decide (p ≤ top) = false ∧ (p == 0) = false ∧ decide (p < 0) = false) ∨ (b = false ∧ decide (0 < p) = false ∧ decide (p ≤ top) = decide (p ≤ top) ∧ (p == 0) = true ∧ decide (p < 0) = false) ∨ (decide (0 < p) = false ∧ decide (p ≤ top) = decide (p ≤ top) ∧ (p == 0) = false ∧ decide (p < 0) = true) := by
        by_cases c1 : 0 < p
        · left; simp; omega
        · by_cases c2 : p = 0
          · right; left
            refine ⟨?_, by simp [c2], rfl, by simp [c2], by simp [c2]⟩
            cases b with
            | false => rfl
            | true => exact absurd ⟨c2, rfl⟩ h2
          · right; right; simp [c2]; omega
      clear h1 h2
      rcases hcase with ⟨d1, d2, d3, d4⟩ | ⟨rfl, d1, d2, d3, d4⟩ | ⟨d1, d2, d3, d4⟩
      · cases b <;> cases fb
        · go_enter Tryd.func20, Tryd.ntmps20
          go_wp2_with fail
          refine (hif.out _).mono ?_
          rintro e w1 ⟨rfl, hb1⟩
          have HS := Lib.hid (sh8_of W w1 p s t hb1)
          clear hb1 b1 b2 b3 hif
          obtain ⟨e0, r0, r1, r2, r3, g3⟩ := HS.out.rd
          go_upto_region 8 with fail
          have HT := HS
          clear HS e0 r0 r1 r2 r3 g3
          obtain ⟨w2, hw2⟩ : ∃ w2, w2 = w1 := ⟨_, rfl⟩
          subst hw2
          obtain ⟨e0, r0, r1, r2, r3, _⟩ := HT.out.rd
          obtain ⟨x0, x1, x2, x3, y0, y1, y2, y3⟩ := HT.out.wr
          clear d1 d2 d3
          go_region
          all_goals (go_wp2_with fail)
          refine bodyPost_ret (v := .tuple #[arr4 [p, s, t, 0], .bool false]) (by simp [results, Tryd.results20, go_sem, x0, x1, x2, x3]) rfl ⟨by simp, ?_⟩
          exact sh_end HT.out.b _ _ _ _
        · go_enter Tryd.func20, Tryd.ntmps20
          go_wp2_with fail
          refine (hif.out _).mono ?_
          rintro e w1 ⟨rfl, hb1⟩
          have HS := Lib.hid (sh8_of W w1 p s t hb1)
          clear hb1 b1 b2 b3 hif
          obtain ⟨e0, r0, r1, r2, r3, g3⟩ := HS.out.rd
          go_upto_region 8 with fail
          obtain ⟨w2, hw2⟩ : ∃ w2, w1.setCell ⟨W.heap.size + 1 + 1, 3, none⟩ (.int .i64 65535) = w2 := ⟨_, rfl⟩
          rw [hw2]
          have HT := Lib.hid (show Sh8 W w2 p s t 65535 from hw2 ▸ HS.out.firm)
          clear hw2 HS e0 r0 r1 r2 r3 g3
          obtain ⟨e0, r0, r1, r2, r3, _⟩ := HT.out.rd
          obtain ⟨x0, x1, x2, x3, y0, y1, y2, y3⟩ := HT.out.wr
          clear d1 d2 d3
          go_region
          all_goals (go_wp2_with fail)
          refine bodyPost_ret (v := .tuple #[arr4 [p, s, t, 65535], .bool false]) (by simp [results, Tryd.results20, go_sem, x0, x1, x2, x3]) rfl ⟨by simp, ?_⟩
          exact sh_end HT.out.b _ _ _ _
        · go_enter Tryd.func20, Tryd.ntmps20
          go_wp2_with fail
          refine (hif.out _).mono ?_
          rintro e w1 ⟨rfl, hb1⟩
          have HS := Lib.hid (sh8_of W w1 p s t hb1)
          clear hb1 b1 b2 b3 hif
          obtain ⟨e0, r0, r1, r2, r3, g3⟩ := HS.out.rd
          go_upto_region 8 with fail
          have HT := HS
          clear HS e0 r0 r1 r2 r3 g3
          obtain ⟨w2, hw2⟩ : ∃ w2, w2 = w1 := ⟨_, rfl⟩
          subst hw2
          obtain ⟨e0, r0, r1, r2, r3, _⟩ := HT.out.rd
          obtain ⟨x0, x1, x2, x3, y0, y1, y2, y3⟩ := HT.out.wr
          clear d1 d2 d3
          go_region
          all_goals (go_wp2_with fail)
          refine bodyPost_ret (v := .tuple #[arr4 [p, s, t, 0], .bool false]) (by simp [results, Tryd.results20, go_sem, x0, x1, x2, x3]) rfl ⟨by simp, ?_⟩
          exact sh_end HT.out.b _ _ _ _
        · go_enter Tryd.func20, Tryd.ntmps20
          go_wp2_with fail
          refine (hif.out _).mono ?_
          rintro e w1 ⟨rfl, hb1⟩
          have HS := Lib.hid (sh8_of W w1 p s t hb1)
          clear hb1 b1 b2 b3 hif
          obtain ⟨e0, r0, r1, r2, r3, g3⟩ := HS.out.rd
          go_upto_region 8 with fail
          obtain ⟨w2, hw2⟩ : ∃ w2, w1.setCell ⟨W.heap.size + 1 + 1, 3, none⟩ (.int .i64 65535) = w2 := ⟨_, rfl⟩
          rw [hw2]
          have HT := Lib.hid (show Sh8 W w2 p s t 65535 from hw2 ▸ HS.out.firm)
          clear hw2 HS e0 r0 r1 r2 r3 g3
          obtain ⟨e0, r0, r1, r2, r3, _⟩ := HT.out.rd
          obtain ⟨x0, x1, x2, x3, y0, y1, y2, y3⟩ := HT.out.wr
          clear d1 d2 d3
          go_region
          all_goals (go_wp2_with fail)
          refine bodyPost_ret (v := .tuple #[arr4 [p, s, t, 65535], .bool false]) (by simp [results, Tryd.results20, go_sem, x0, x1, x2, x3]) rfl ⟨by simp, ?_⟩
          exact sh_end HT.out.b _ _ _ _
      · cases fb
        · go_enter Tryd.func20, Tryd.ntmps20
          go_wp2_with fail
          refine (hif.out _).mono ?_
          rintro e w1 ⟨rfl, hb1⟩
          have HS := Lib.hid (sh8_of W w1 p s t hb1)
          clear hb1 b1 b2 b3 hif
          obtain ⟨e0, r0, r1, r2, r3, g3⟩ := HS.out.rd
          go_upto_region 8 with fail
          have HT := HS
          clear HS e0 r0 r1 r2 r3 g3
          obtain ⟨w2, hw2⟩ : ∃ w2, w2 = w1 := ⟨_, rfl⟩
          subst hw2
          obtain ⟨e0, r0, r1, r2, r3, _⟩ := HT.out.rd
          obtain ⟨x0, x1, x2, x3, y0, y1, y2, y3⟩ := HT.out.wr
          clear d1 d2 d3
          go_region
          all_goals (go_wp2_with fail)
          refine bodyPost_ret (v := .tuple #[arr4 [p, s, t, 0], .bool false]) (by simp [results, Tryd.results20, go_sem, x0, x1, x2, x3]) rfl ⟨by simp, ?_⟩
          exact sh_end HT.out.b _ _ _ _
        · go_enter Tryd.func20, Tryd.ntmps20
          go_wp2_with fail
          refine (hif.out _).mono ?_
          rintro e w1 ⟨rfl, hb1⟩
          have HS := Lib.hid (sh8_of W w1 p s t hb1)
          clear hb1 b1 b2 b3 hif
          obtain ⟨e0, r0, r1, r2, r3, g3⟩ := HS.out.rd
          go_upto_region 8 with fail
          obtain ⟨w2, hw2⟩ : ∃ w2, w1.setCell ⟨W.heap.size + 1 + 1, 3, none⟩ (.int .i64 65535) = w2 := ⟨_, rfl⟩
          rw [hw2]
          have HT := Lib.hid (show Sh8 W w2 p s t 65535 from hw2 ▸ HS.out.firm)
          clear hw2 HS e0 r0 r1 r2 r3 g3
          obtain ⟨e0, r0, r1, r2, r3, _⟩ := HT.out.rd
          obtain ⟨x0, x1, x2, x3, y0, y1, y2, y3⟩ := HT.out.wr
          clear d1 d2 d3
          go_region
          all_goals (go_wp2_with fail)
          refine bodyPost_ret (v := .tuple #[arr4 [p, s, t, 65535], .bool false]) (by simp [results, Tryd.results20, go_sem, x0, x1, x2, x3]) rfl ⟨by simp, ?_⟩
          exact sh_end HT.out.b _ _ _ _
      · cases b <;> cases fb
        · go_enter Tryd.func20, Tryd.ntmps20
          go_wp2_with fail
          refine (hif.out _).mono ?_
          rintro e w1 ⟨rfl, hb1⟩
          have HS := Lib.hid (sh8_of W w1 p s t hb1)
          clear hb1 b1 b2 b3 hif
          obtain ⟨e0, r0, r1, r2, r3, g3⟩ := HS.out.rd
          go_upto_region 8 with fail
          have HT := HS
          clear HS e0 r0 r1 r2 r3 g3
          obtain ⟨w2, hw2⟩ : ∃ w2, w2 = w1 := ⟨_, rfl⟩
          subst hw2
          obtain ⟨e0, r0, r1, r2, r3, _⟩ := HT.out.rd
          obtain ⟨x0, x1, x2, x3, y0, y1, y2, y3⟩ := HT.out.wr
          clear d1 d2 d3
          go_region
          all_goals (go_wp2_with fail)
          refine bodyPost_ret (v := .tuple #[arr4 [p, s, t, 0], .bool false]) (by simp [results, Tryd.results20, go_sem, x0, x1, x2, x3]) rfl ⟨by simp, ?_⟩
          exact sh_end HT.out.b _ _ _ _
        · go_enter Tryd.func20, Tryd.ntmps20
          go_wp2_with fail
          refine (hif.out _).mono ?_
          rintro e w1 ⟨rfl, hb1⟩
          have HS := Lib.hid (sh8_of W w1 p s t hb1)
          clear hb1 b1 b2 b3 hif
          obtain ⟨e0, r0, r1, r2, r3, g3⟩ := HS.out.rd
          go_upto_region 8 with fail
          obtain ⟨w2, hw2⟩ : ∃ w2, w1.setCell ⟨W.heap.size + 1 + 1, 3, none⟩ (.int .i64 65535) = w2 := ⟨_, rfl⟩
          rw [hw2]
          have HT := Lib.hid (show Sh8 W w2 p s t 65535 from hw2 ▸ HS.out.firm)
          clear hw2 HS e0 r0 r1 r2 r3 g3
          obtain ⟨e0, r0, r1, r2, r3, _⟩ := HT.out.rd
          obtain ⟨x0, x1, x2, x3, y0, y1, y2, y3⟩ := HT.out.wr
          clear d1 d2 d3
          go_region
          all_goals (go_wp2_with fail)
          refine bodyPost_ret (v := .tuple #[arr4 [p, s, t, 65535], .bool false]) (by simp [results, Tryd.results20, go_sem, x0, x1, x2, x3]) rfl ⟨by simp, ?_⟩
          exact sh_end HT.out.b _ _ _ _
        · go_enter Tryd.func20, Tryd.ntmps20
          go_wp2_with fail
          refine (hif.out _).mono ?_
          rintro e w1 ⟨rfl, hb1⟩
          have HS := Lib.hid (sh8_of W w1 p s t hb1)
          clear hb1 b1 b2 b3 hif
          obtain ⟨e0, r0, r1, r2, r3, g3⟩ := HS.out.rd
          go_upto_region 8 with fail
          have HT := HS
          clear HS e0 r0 r1 r2 r3 g3
          obtain ⟨w2, hw2⟩ : ∃ w2, w2 = w1 := ⟨_, rfl⟩
          subst hw2
          obtain ⟨e0, r0, r1, r2, r3, _⟩ := HT.out.rd
          obtain ⟨x0, x1, x2, x3, y0, y1, y2, y3⟩ := HT.out.wr
          clear d1 d2 d3
          go_region
          all_goals (go_wp2_with fail)
          refine bodyPost_ret (v := .tuple #[arr4 [p, s, t, 0], .bool true]) (by simp [results, Tryd.results20, go_sem, x0, x1, x2, x3]) rfl ⟨by simp, ?_⟩
          exact sh_end HT.out.b _ _ _ _
        · go_enter Tryd.func20, Tryd.ntmps20
          go_wp2_with fail
          refine (hif.out _).mono ?_
          rintro e w1 ⟨rfl, hb1⟩
          have HS := Lib.hid (sh8_of W w1 p s t hb1)
          clear hb1 b1 b2 b3 hif
          obtain ⟨e0, r0, r1, r2, r3, g3⟩ := HS.out.rd
          go_upto_region 8 with fail
          obtain ⟨w2, hw2⟩ : ∃ w2, w1.setCell ⟨W.heap.size + 1 + 1, 3, none⟩ (.int .i64 65535) = w2 := ⟨_, rfl⟩
          rw [hw2]
          have HT := Lib.hid (show Sh8 W w2 p s t 65535 from hw2 ▸ HS.out.firm)
          clear hw2 HS e0 r0 r1 r2 r3 g3
          obtain ⟨e0, r0, r1, r2, r3, _⟩ := HT.out.rd
          obtain ⟨x0, x1, x2, x3, y0, y1, y2, y3⟩ := HT.out.wr
          clear d1 d2 d3
          go_region
          all_goals (go_wp2_with fail)
          refine bodyPost_ret (v := .tuple #[arr4 [p, s, t, 65535], .bool true]) (by simp [results, Tryd.results20, go_sem, x0, x1, x2, x3]) rfl ⟨by simp, ?_⟩
          exact sh_end HT.out.b _ _ _ _
end Go.Proofs.YtcocmmndonlhkaaDoor
