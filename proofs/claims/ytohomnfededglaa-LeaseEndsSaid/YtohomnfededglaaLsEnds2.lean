/-
  Layer lease: the walk of LeaseEnds, whole.
-/
import Derived.Test.YtohomnfededglaaLsEnds
namespace Go.Proofs.Ytohomnfededglaa
open Go.RowKit Go.Gz

set_option maxHeartbeats 1000000 in
theorem ends_walk (a : Lz) (n x y : Int) (w : World) (hn : (Lit.int .u32 n).wf = true) (hx : (Lit.int .i16 x).wf = true) (hy : (Lit.int .i16 y).wf = true) : Calls Try.prog 4 #[a.val, .int .u32 n, .agg #[.int .i16 x, .int .i16 y]] w fun e w' => e = .returned (.bool true) ∧ Below w.heap.size w w' := by
  have e1 : IntKind.u32.min = 0 := by decide
  have e2 : IntKind.u32.max = 4294967295 := by decide
  have e3 : IntKind.i16.min = -32768 := by decide
  have e4 : IntKind.i16.max = 32767 := by decide
  simp only [Lit.wf, Bool.and_eq_true, decide_eq_true_eq, e1, e2, e3, e4] at hn hx hy
  obtain ⟨n1, n2⟩ := hn
  obtain ⟨x1, x2⟩ := hx
  obtain ⟨y1, y2⟩ := hy
  clear e1 e2 e3 e4
  obtain ⟨w0, hw0⟩ : ∃ w0, (w.alloc (.cells #[.int .i64 a.e, .int .i64 a.s, .int .i64 a.f] 23)).alloc (.cells #[.int .i16 x, .int .i16 y] 41) = w0 := ⟨_, rfl⟩
  have HB0 := Lib.hid (show Below w.heap.size w w0 from hw0 ▸ ((Below.refl _ _).alloc (Nat.le_refl _) _).alloc (by simp) _)
  have HN := Lib.hid (show BoxZ w0 w.heap.size a from hw0 ▸ (BoxZ.new w a _).below (below_new _ _))
  have p0 : w0.cell? ⟨w.heap.size + 1, 0, none⟩ = some (.int .i16 x) := by rw [← hw0]; simp [go_sem]
  have p1 : w0.cell? ⟨w.heap.size + 1, 1, none⟩ = some (.int .i16 y) := by rw [← hw0]; simp [go_sem]
  have hl : w.heap.size + 1 < w0.heap.size := by rw [← hw0]; simp
  have CA := Lib.hid (fun w => awake_yes w)
  have CE := Lib.hid (fun k (h0 : 0 ≤ k) (h1 : k ≤ 32767) w => ends_any a n k y n1 n2 h0 h1 y1 y2 w)
  unfold Lz.val at *
  go_enter Try.func4, Try.ntmps4
  go_wp2_with fail
  refine (CA.out _).mono ?_
  rintro e1 w1 ⟨rfl, hb1⟩
  have H1 := Lib.hid hb1
  obtain ⟨_, z0, z1, z2⟩ := HN.out.below hb1
  have r0 := (hb1.cell (p := ⟨w.heap.size + 1, 0, none⟩) hl).trans p0
  have r1 := (hb1.cell (p := ⟨w.heap.size + 1, 1, none⟩) hl).trans p1
  clear hb1 p0 p1
  have ex : IntKind.i64.wrap x = x := IntWalk.i64_in _ (by omega)
  have ey : IntKind.i64.wrap y = y := IntWalk.i64_in _ (by omega)
  have en : IntKind.i64.wrap n = n := IntWalk.i64_in _ (by omega)
  by_cases hx0 : 0 < x
  · go_wp2_with fail
    refine (CE.out x (by omega) (by omega) _).mono ?_
    rintro e2 w2 ⟨rfl, hb2⟩
    have H2 := Lib.hid (H1.out.trans (hb2.mono H1.out.size))
    clear hb2
    go_wp2_with fail
    go_ret
    exact ⟨rfl, HB0.out.trans (H2.out.mono HB0.out.size)⟩
  · go_wp2_with fail
    refine (CE.out 0 (by omega) (by omega) _).mono ?_
    rintro e2 w2 ⟨rfl, hb2⟩
    have H2 := Lib.hid (H1.out.trans (hb2.mono H1.out.size))
    clear hb2
    go_wp2_with fail
    go_ret
    exact ⟨rfl, HB0.out.trans (H2.out.mono HB0.out.size)⟩
end Go.Proofs.Ytohomnfededglaa
