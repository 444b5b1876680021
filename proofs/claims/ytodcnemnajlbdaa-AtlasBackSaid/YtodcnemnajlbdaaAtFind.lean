/-
  Layer atlas: spanOf; span's Find at shards; the place of a key.
-/
import Derived.Test.YtodcnemnajlbdaaAtSpec
import Derived.Tactics2
import Derived.Recover
namespace Go.Proofs.Ytodcnemnajlbdaa
open Go.RowKit Go.Gz

set_option maxHeartbeats 1000000 in
theorem spanOf_any (x : Sd) (w : World) : Calls Try.prog 26 #[valSd x] w fun e w' => e = .returned (.agg #[.string x.sp.f, .string x.sp.t]) ∧ Below w.heap.size w w' := by
  obtain ⟨⟨f, t⟩, n, e⟩ := x
  unfold valSd
  simp only
  go_enter Try.func26, Try.ntmps26
  go_wp2_with fail
  refine bodyPost_ret (v := .agg #[.string f, .string t]) (by simp [results, Try.results26, go_sem]) rfl ?_
  exact ⟨rfl, ((Below.refl _ _).alloc (Nat.le_refl _) _).alloc (by simp) _⟩

set_option maxHeartbeats 1000000 in
/-- the closure of Find: has the span of the item at place j the key? -/
theorem pred_sd (x : Sd) (k : ByteArray) (a b : Nat) (w : World) (ha : w.cell? ⟨a, 0, none⟩ = some (.func (.func 26) #[] #[])) (hb : w.cell? ⟨b, 0, none⟩ = some (.string k)) (hal : a < w.heap.size) (hbl : b < w.heap.size) :
    Calls Try.prog 39 #[valSd x, .pointer (some ⟨a, 0, none⟩), .pointer (some ⟨b, 0, none⟩)] w fun e w' => e = .returned (.bool (hasB x.sp k)) ∧ Below w.heap.size w w' := by
  have eg : ∀ args w, (callFunc 26 args).run Try.prog w = .ok (.enter 26 args) w := fun _ _ => rfl
  obtain ⟨w0, hw0⟩ : ∃ w0, w.alloc (.cells #[.string x.sp.f, .string x.sp.t, .int .i64 x.n, .int .i64 x.e] 40) = w0 := ⟨_, rfl⟩
  have HB0 := Lib.hid (show Below w.heap.size w w0 from hw0 ▸ below_alloc _ _)
  have HA := Lib.hid (fun pw : BelowOf w0 => Calls.below_of pw (spanOf_any x pw.w'))
  have HH := Lib.hid (fun pw : BelowOf w0 => Calls.below_of pw (has_any x.sp.f x.sp.t k pw.w'))
  have hz : w.heap.size < w0.heap.size := by rw [← hw0]; simp
  have f0 := fun pw : BelowOf w0 => pw.cell (a := ⟨a, 0, none⟩) (by show a < _; omega) (by rw [HB0.out.cell (p := ⟨a, 0, none⟩) hal]; exact ha)
  have f1 := fun pw : BelowOf w0 => pw.cell (a := ⟨b, 0, none⟩) (by show b < _; omega) (by rw [HB0.out.cell (p := ⟨b, 0, none⟩) hbl]; exact hb)
  have g0 := fun pw : BelowOf w0 => pw.cell (a := ⟨w.heap.size, 0, none⟩) hz (show w0.cell? ⟨w.heap.size, 0, none⟩ = some (.string x.sp.f) by rw [← hw0]; simp)
  have g1 := fun pw : BelowOf w0 => pw.cell (a := ⟨w.heap.size, 1, none⟩) hz (show w0.cell? ⟨w.heap.size, 1, none⟩ = some (.string x.sp.t) by rw [← hw0]; simp)
  have g2 := fun pw : BelowOf w0 => pw.cell (a := ⟨w.heap.size, 2, none⟩) hz (show w0.cell? ⟨w.heap.size, 2, none⟩ = some (.int .i64 x.n) by rw [← hw0]; simp)
  have g3 := fun pw : BelowOf w0 => pw.cell (a := ⟨w.heap.size, 3, none⟩) hz (show w0.cell? ⟨w.heap.size, 3, none⟩ = some (.int .i64 x.e) by rw [← hw0]; simp)
  have mx := mixedAt
  have HW0 := Lib.hid hw0
  obtain ⟨⟨f, t⟩, n, e⟩ := x
  unfold valSd at HA ⊢
  simp only at HA HH g0 g1 g2 g3 HW0 ⊢
  clear ha hb hw0
  go_enter Try.func39, Try.ntmps39
  go_wp2_with fail
  rw [HW0.out]
  refine wp_region_quiet_below (by assumption) (by kernel_rfl) ?_
  repeat (go_big_quiet_step (first | (go_at_call 40; with_reducible exact HH.out _) | (with_reducible exact HA.out _)))
  refine wpQuiet_nil ?_
  intro wq hw'
  obtain ⟨⟨wz, hbq⟩, hw''⟩ := hw'
  obtain rfl : wq = wz := hw''
  go_wp2_with fail
  go_ret
  exact ⟨rfl, HB0.out.trans (hbq.mono HB0.out.size)⟩

set_option maxHeartbeats 1000000 in
theorem index_sd (xs : List Sd) (p : Option Addr) (c : Nat) (g : FuncId) (lb : Array Value) (eg : ∀ args w, (callFunc g args).run Try.prog w = .ok (.enter g args) w) (q : Nat → Bool) (w : World) (hp : RowK KS w p xs) (hn : xs.length ≤ 1000000)
    (hq : ∀ W j, Below w.heap.size w W → j < xs.length → Calls Try.prog g (#[valSd (xs.getD j default)] ++ lb) W fun e w' => e = .returned (.bool (q j)) ∧ Below W.heap.size W w') :
    Calls Try.prog 47 #[.slice p xs.length c, .func (.func g) #[] lb] w fun e w' => e = .returned (.int .i64 (idxL ((List.range xs.length).map q))) ∧ Below w.heap.size w w' := by
  have HP := Lib.hid hp; clear hp
  have HQ := Lib.hid hq; clear hq
  obtain ⟨n, hln⟩ : ∃ n, xs.length = n := ⟨_, rfl⟩
  have HN := Lib.hid hln
  rw [hln] at hn ⊢
  clear hln
  go_enter Try.func47, Try.ntmps47
  go_wp2_with fail
  go_loopg [5, 8] n (fun gg _ s8 wr => ∃ kk : Nat, kk ≤ n ∧ n - kk ≤ gg ∧ s8 = .int .i64 kk ∧ Hid (Below w.heap.size w wr) ∧ Hid (∀ j, j < kk → q j = false))
  case atStart => exact ⟨0, Nat.zero_le _, by omega, rfl, Lib.hid (Below.refl _ w), Lib.hid (fun j hj => absurd hj (Nat.not_lt_zero _))⟩
  case round =>
    obtain ⟨kk, hkk, hg, rfl, BW, A⟩ := hrel
    have hmap : ∀ j, j < n → ((List.range n).map q)[j]! = q j := fun j hj => by
      rw [getElem!_pos _ j (by simpa using hj)]; simp
    have HM := Lib.hid hmap
    clear hmap
    by_cases hlt : kk < n
    · have hltz : (kk : Int) < (n : Int) := by omega
      obtain ⟨b, o, rfl, hbl, hcell⟩ := HP.out.cells BW.out (show kk < xs.length by rw [HN.out]; exact hlt)
      have CE := Lib.hid (HQ.out wr kk BW.out (by rw [HN.out]; exact hlt))
      obtain ⟨x, hx⟩ : ∃ x, xs.getD kk default = x := ⟨_, rfl⟩
      rw [hx] at hcell CE
      obtain ⟨⟨xf, xt⟩, xn, xe⟩ := x
      have z0 := hcell 0 (by decide)
      have z1 := hcell 1 (by decide)
      have z2 := hcell 2 (by decide)
      have z3 := hcell 3 (by decide)
      simp only [KS, Nat.add_zero] at z0 z1 z2 z3
      simp only [valSd] at CE
      obtain ⟨r, hr⟩ : ∃ r, q kk = r := ⟨_, rfl⟩
      rw [hr] at CE
      have HR := Lib.hid hr
      clear hx hr hcell
      go_wp2_with fail
      refine CE.out.mono ?_
      rintro e w1 ⟨rfl, hb1⟩
      have HB1 := Lib.hid (BW.out.trans (hb1.mono BW.out.size))
      clear hb1 CE
      cases r with
      | true =>
        go_wp2_with fail
        go_ret
        refine ⟨?_, HB1.out⟩
        rw [idx_hit _ kk (by simpa using hlt) (by rw [HM.out kk hlt]; exact HR.out) (fun j hj => by rw [HM.out j (by omega)]; exact A.out j hj)]
        rfl
      | false =>
        go_wp2_with fail
        go_roundg (n - (kk + 1))
        case measure => omega
        case rel =>
          refine ⟨kk + 1, by omega, by omega, by go_num, HB1, Lib.hid fun j hj => ?_⟩
          by_cases e : j = kk
          · subst e; exact HR.out
          · exact A.out j (by omega)
    · have hltz : ¬ (kk : Int) < (n : Int) := by omega
      obtain rfl : kk = n := by omega
      go_wp2_with fail
      go_ret
      refine ⟨?_, BW.out⟩
      rw [idx_miss _ fun j hj => by rw [List.length_map, List.length_range] at hj; rw [HM.out j hj]; exact A.out j hj]
      rfl

theorem catch_sd (p : Addr) (w : World) :
    CallsD Try.prog 46 #[.pointer (some p)] .returning w fun e u' w' => e = .returned (.tuple #[]) ∧ u' = .returning ∧ w' = w := by
  refine callsD_of_wpS Try.func46 rfl fun c₀ cs hu => ?_
  apply wpS_seq
  apply wpS_region
  simp [wpOpsS, go_sem, recoverD, hu, Try.ntmps46, Exit.thenS]
  refine wpS_cond (t := false) (by simp [Act.eval, Array.replicate]) ?_
  simp only [Bool.false_eq_true, if_false]
  refine wpS_of_wp (wp_skip ?_)
  cases c₀
  simp_all [bodyPostS, results, Try.results46]

set_option maxHeartbeats 1000000 in
theorem first_sd (xs : List Sd) (p : Option Addr) (c : Nat) (g : FuncId) (lb : Array Value) (eg : ∀ args w, (callFunc g args).run Try.prog w = .ok (.enter g args) w) (q : Nat → Bool) (w : World) (hp : RowK KS w p xs) (hn : xs.length ≤ 1000000)
    (hq : ∀ W j, Below w.heap.size w W → j < xs.length → Calls Try.prog g (#[valSd (xs.getD j default)] ++ lb) W fun e w' => e = .returned (.bool (q j)) ∧ Below W.heap.size W w') :
    Calls Try.prog 38 #[.slice p xs.length c, .func (.func g) #[] lb] w fun e w' => e = .returned (.int .i64 (idxL ((List.range xs.length).map q))) ∧ Below w.heap.size w w' := by
  have hmf : ∀ (fn : Fn) (first cap : Array Value) (w : World), (Instr.makeFunc fn first cap).run Try.prog w = .ok (.func fn first cap) w := fun _ _ _ _ => rfl
  have hb0 : Below w.heap.size w (w.alloc (.cells #[.int .i64 0] 3)) := (Below.refl _ _).alloc (Nat.le_refl _) _
  have CI := Lib.hid (index_sd xs p c g lb eg q (w.alloc (.cells #[.int .i64 0] 3)) (hp.below hb0) hn (fun W j hb hj => hq W j (hb0.trans (hb.mono hb0.size)) hj))
  have HB0 := Lib.hid hb0
  obtain ⟨r, hr⟩ : ∃ r, idxL ((List.range xs.length).map q) = r := ⟨_, rfl⟩
  rw [hr] at CI ⊢
  clear hr hp hq hb0 eg
  go_enter_defers Try.func38, Try.ntmps38
  go_wp2_with fail
  refine CI.out.mono ?_
  rintro e w1 ⟨rfl, hb1⟩
  have c0 : w1.cell? ⟨w.heap.size, 0, none⟩ = some (.int .i64 0) := by rw [hb1.cell (p := ⟨w.heap.size, 0, none⟩) (by simp)]; simp
  have f0 : w1.frozen? ⟨w.heap.size, 0, none⟩ = false := by rw [hb1.frozen (p := ⟨w.heap.size, 0, none⟩) (by simp)]; simp
  have HB1 := Lib.hid ((HB0.out.trans (hb1.mono (by simp))).setCell (p := ⟨w.heap.size, 0, none⟩) (Nat.le_refl _) (.int .i64 r))
  clear hb1 CI
  go_wp2_with fail
  refine leaves_cons (f := 46) (args := #[.pointer (some ⟨w.heap.size, 0, none⟩)]) (by simp) (by simp [go_sem]) ?_
  refine (catch_sd ⟨w.heap.size, 0, none⟩ _).mono ?_
  rintro e u' w'' ⟨rfl, rfl, rfl⟩
  have c1 : (w1.setCell ⟨w.heap.size, 0, none⟩ (.int .i64 r)).cell? ⟨w.heap.size, 0, none⟩ = some (.int .i64 r) := by simp [go_sem, c0]
  simp [Leaves, settle, results, Try.results38, go_sem, c1]
  exact HB1.out

theorem findL_eq (L : List Sd) (k : ByteArray) : idxL ((List.range L.length).map fun j => hasB (L.getD j default).sp k) = match placeA L k with | some i => (i : Int) | none => -1 := by
  cases h : placeA L k with
  | some i =>
    obtain ⟨h1, h2, h3⟩ := place_of h
    simp only
    refine idx_hit _ i (by simpa using h1) ?_ fun j hj => ?_
    · rw [getElem!_pos _ i (by simpa using h1), List.getElem_map, List.getElem_range]; exact h2
    · rw [getElem!_pos _ j (by simp; omega), List.getElem_map, List.getElem_range]; exact h3 j hj
  | none =>
    simp only
    refine idx_miss _ fun j hj => ?_
    rw [getElem!_pos _ j hj, List.getElem_map, List.getElem_range]
    exact place_none h j (by simpa using hj)

set_option maxHeartbeats 1000000 in
theorem find_sd (xs : List Sd) (p : Option Addr) (c : Nat) (k : ByteArray) (w : World) (hp : RowK KS w p xs) (hn : xs.length ≤ 1000000) :
    Calls Try.prog 29 #[.slice p xs.length c, .func (.func 26) #[] #[], .string k] w fun e w' => e = .returned (.int .i64 (match placeA xs k with | some i => (i : Int) | none => -1)) ∧ Below w.heap.size w w' := by
  have hmf : ∀ (fn : Fn) (first cap : Array Value) (w : World), (Instr.makeFunc fn first cap).run Try.prog w = .ok (.func fn first cap) w := fun _ _ _ _ => rfl
  have hfn : ∀ w : World, (binOp .eql 62 (.func (.func 26) #[] #[]) .nilFunc).run Try.prog w = .ok (.bool false) w := fun _ => by kernel_rfl
  obtain ⟨w0, hw0⟩ : ∃ w0, (w.alloc (.cells #[.func (.func 26) #[] #[]] 62)).alloc (.cells #[.string k] 9) = w0 := ⟨_, rfl⟩
  have hb0 : Below w.heap.size w w0 := hw0 ▸ ((Below.refl _ _).alloc (Nat.le_refl _) _).alloc (by simp) _
  have c0 : w0.cell? ⟨w.heap.size, 0, none⟩ = some (.func (.func 26) #[] #[]) := by rw [← hw0]; simp [go_sem]
  have c1 : w0.cell? ⟨w.heap.size + 1, 0, none⟩ = some (.string k) := by rw [← hw0]; simp [go_sem]
  have z1 : w.heap.size + 1 < w0.heap.size := by rw [← hw0]; simp
  have CF := Lib.hid (first_sd xs p c 39 #[.pointer (some ⟨w.heap.size, 0, none⟩), .pointer (some ⟨w.heap.size + 1, 0, none⟩)] (fun _ _ => rfl) (fun j => hasB (xs.getD j default).sp k) w0 (hp.below hb0) hn (fun W j hb hj =>
    pred_sd (xs.getD j default) k w.heap.size (w.heap.size + 1) W (by rw [hb.cell (p := ⟨w.heap.size, 0, none⟩) (show w.heap.size < w0.heap.size by omega)]; exact c0) (by rw [hb.cell (p := ⟨w.heap.size + 1, 0, none⟩) z1]; exact c1) (by have := hb.size; omega) (by have := hb.size; omega)))
  have HB0 := Lib.hid hb0
  rw [findL_eq] at CF
  obtain ⟨r, hr⟩ : ∃ r, (match placeA xs k with | some i => (i : Int) | none => -1) = r := ⟨_, rfl⟩
  rw [hr] at CF ⊢
  clear hr hp hb0 c1 z1
  go_enter Try.func29, Try.ntmps29
  go_wp2_with fail
  refine CF.out.mono ?_
  rintro e w1 ⟨rfl, hb1⟩
  go_wp2_with fail
  go_ret
  exact ⟨rfl, HB0.out.trans (hb1.mono HB0.out.size)⟩

def placeZ (L : List Sd) (k : ByteArray) : Int := match placeA L k with | some i => (i : Int) | none => -1
set_option maxHeartbeats 1000000 in
theorem place_any (ep : Int) (xs : List Sd) (p : Option Addr) (c : Nat) (k : ByteArray) (w : World) (hp : RowK KS w p xs) (hn : xs.length ≤ 1000000) :
    Calls Try.prog 21 #[.agg #[.int .i64 ep, .slice p xs.length c], .string k] w fun e w' => e = .returned (.int .i64 (placeZ xs k)) ∧ Below w.heap.size w w' := by
  obtain ⟨n, hN⟩ : ∃ n, xs.length = n := ⟨_, rfl⟩
  obtain ⟨w0, hw0⟩ : ∃ w0, w.alloc (.cells #[.int .i64 ep, .slice p n c] 26) = w0 := ⟨_, rfl⟩
  have HB0 := Lib.hid (show Below w.heap.size w w0 from hw0 ▸ below_alloc _ _)
  have CF := Lib.hid (find_sd xs p c k w0 (hp.below HB0.out) hn)
  unfold placeZ
  obtain ⟨r, hr⟩ : ∃ r, (match placeA xs k with | some i => (i : Int) | none => -1) = r := ⟨_, rfl⟩
  rw [hr, hN] at CF ⊢
  have HW0 := Lib.hid hw0
  clear hr hp hw0
  go_enter Try.func21, Try.ntmps21
  go_wp2_with fail
  rw [HW0.out]
  refine CF.out.mono ?_
  rintro e w1 ⟨rfl, hb1⟩
  go_wp2_with fail
  go_ret
  exact ⟨rfl, HB0.out.trans (hb1.mono HB0.out.size)⟩
end Go.Proofs.Ytodcnemnajlbdaa
