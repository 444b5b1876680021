/-
  Layer span: Find, at the two types that the law uses.
-/
import Derived.Test.YtafmglnjheeajaaSpAwake
import Derived.Tactics2
import Derived.Recover
import Derived.Laws.EntriesVeiled
import Derived.WalkSpells
namespace Go.Proofs.Ytafmglnjheeajaa
open Go.RowKit Go.Gz

/-- what Find asks of a closure that has a span: at each place its span, in whatever world behind w. -/
def OfAt (k : IntKind) (w : World) (xs : List Int) (g : FuncId) (lb : Array Value) (s : Nat → SP) : Prop :=
  ∀ (W : World) (j : Nat), Below w.heap.size w W → j < xs.length → Calls Try.prog g (#[.int k (xs.getD j 0)] ++ lb) W fun e w' => e = .returned (.agg #[.string (s j).f, .string (s j).t]) ∧ Below W.heap.size W w'


set_option maxHeartbeats 1000000 in
/-- the closure of Find: has the span of the item at place j the key? -/
theorem pred_int (x : Int) (g : FuncId) (lb : Array Value) (eg : ∀ args w, (callFunc g args).run Try.prog w = .ok (.enter g args) w) (f t k : ByteArray) (a b : Nat) (w : World) (ha : w.cell? ⟨a, 0, none⟩ = some (.func (.func g) #[] lb)) (hb : w.cell? ⟨b, 0, none⟩ = some (.string k)) (hal : a < w.heap.size) (hbl : b < w.heap.size)
    (hg : ∀ W, Below w.heap.size w W → Calls Try.prog g (#[.int .i64 x] ++ lb) W fun e w' => e = .returned (.agg #[.string f, .string t]) ∧ Below W.heap.size W w') :
    Calls Try.prog 27 #[.int .i64 x, .pointer (some ⟨a, 0, none⟩), .pointer (some ⟨b, 0, none⟩)] w fun e w' => e = .returned (.bool (hasB ⟨f, t⟩ k)) ∧ Below w.heap.size w w' := by
  have mx := mixedS
  have HA := Lib.hid (fun pw : BelowOf w => Calls.below_of pw (hg pw.w' pw.h))
  have HH := Lib.hid (fun pw : BelowOf w => Calls.below_of pw (has_any f t k pw.w'))
  have f0 := fun pw : BelowOf w => pw.cell (a := ⟨a, 0, none⟩) hal ha
  have f1 := fun pw : BelowOf w => pw.cell (a := ⟨b, 0, none⟩) hbl hb
  clear hg ha hb
  go_enter Try.func27, Try.ntmps27
  go_wp2_with fail
  refine wp_region_quiet_below (by assumption) (by kernel_rfl) ?_
  repeat (go_big_quiet_step (first | (go_at_call 11; with_reducible exact HH.out _) | (with_reducible exact HA.out _)))
  refine wpQuiet_nil ?_
  intro wq hw'
  obtain ⟨⟨wz, hbq⟩, hw''⟩ := hw'
  obtain rfl : wq = wz := hw''
  go_wp2_with fail
  go_ret
  exact ⟨rfl, hbq⟩

set_option maxHeartbeats 1000000 in
theorem index_int (xs : List Int) (p : Option Addr) (c : Nat) (g : FuncId) (lb : Array Value) (eg : ∀ args w, (callFunc g args).run Try.prog w = .ok (.enter g args) w) (q : Nat → Bool) (w : World) (hp : Row w .i64 p xs) (hn : xs.length ≤ 9223372036854775807)
    (hq : ∀ W j, Below w.heap.size w W → j < xs.length → Calls Try.prog g (#[.int .i64 (xs.getD j 0)] ++ lb) W fun e w' => e = .returned (.bool (q j)) ∧ Below W.heap.size W w') :
    Calls Try.prog 32 #[.slice p xs.length c, .func (.func g) #[] lb] w fun e w' => e = .returned (.int .i64 (idxL ((List.range xs.length).map q))) ∧ Below w.heap.size w w' := by
  have HP := Lib.hid hp; clear hp
  have HQ := Lib.hid hq; clear hq
  obtain ⟨n, hln⟩ : ∃ n, xs.length = n := ⟨_, rfl⟩
  have HN := Lib.hid hln
  rw [hln] at hn ⊢
  clear hln
  go_enter Try.func32, Try.ntmps32
  go_wp2_with fail
  go_loopg [5, 8] n (fun gg _ s8 wr => ∃ kk : Nat, kk ≤ n ∧ n - kk ≤ gg ∧ s8 = .int .i64 kk ∧ Hid (Below w.heap.size w wr) ∧ Hid (∀ j, j < kk → q j = false))
  case atStart => exact ⟨0, Nat.zero_le _, by omega, rfl, Lib.hid (Below.refl _ w), Lib.hid (fun j hj => absurd hj (Nat.not_lt_zero _))⟩
  case round =>
    obtain ⟨kk, hkk, hg, rfl, BW, A⟩ := hrel
    have hmap : ∀ j, j < n → ((List.range n).map q)[j]! = q j := fun j hj => by
      rw [getElem!_pos _ j (by simpa using hj)]; simp
    have HM := Lib.hid hmap
    clear hmap
    by_cases hlt : kk < n
    · have hltz : (kk : Int) < (n : Int) := by omega
      obtain ⟨b, o, rfl, hbl, c1⟩ := row_cell HP.out BW.out (show kk < xs.length by rw [HN.out]; exact hlt)
      have CE := Lib.hid (HQ.out wr kk BW.out (by rw [HN.out]; exact hlt))
      obtain ⟨x, hx⟩ : ∃ x, xs.getD kk 0 = x := ⟨_, rfl⟩
      rw [hx] at c1 CE
      obtain ⟨r, hr⟩ : ∃ r, q kk = r := ⟨_, rfl⟩
      rw [hr] at CE
      have HR := Lib.hid hr
      clear hx hr
      go_wp2_with fail
      refine CE.out.mono ?_
      rintro e w1 ⟨rfl, hb1⟩
      have HB1 := Lib.hid (BW.out.trans (hb1.mono BW.out.size))
      clear hb1 CE
      cases r with
      | true =>
        go_wp2_with fail
        go_ret
        refine ⟨?_, HB1.out⟩
        rw [idx_hit _ kk (by simpa using hlt) (by rw [HM.out kk hlt]; exact HR.out) (fun j hj => by rw [HM.out j (by omega)]; exact A.out j hj)]
        rfl
      | false =>
        go_wp2_with fail
        go_roundg (n - (kk + 1))
        case measure => omega
        case rel =>
          refine ⟨kk + 1, by omega, by omega, by go_num, HB1, Lib.hid fun j hj => ?_⟩
          by_cases e : j = kk
          · subst e; exact HR.out
          · exact A.out j (by omega)
    · have hltz : ¬ (kk : Int) < (n : Int) := by omega
      obtain rfl : kk = n := by omega
      go_wp2_with fail
      go_ret
      refine ⟨?_, BW.out⟩
      rw [idx_miss _ fun j hj => by rw [List.length_map, List.length_range] at hj; rw [HM.out j hj]; exact A.out j hj]
      rfl

theorem catch_int (p : Addr) (w : World) :
    CallsD Try.prog 31 #[.pointer (some p)] .returning w fun e u' w' => e = .returned (.tuple #[]) ∧ u' = .returning ∧ w' = w := by
  refine callsD_of_wpS Try.func31 rfl fun c₀ cs hu => ?_
  apply wpS_seq
  apply wpS_region
  simp [wpOpsS, go_sem, recoverD, hu, Try.ntmps31, Exit.thenS]
  refine wpS_cond (t := false) (by simp [Act.eval, Array.replicate]) ?_
  simp only [Bool.false_eq_true, if_false]
  refine wpS_of_wp (wp_skip ?_)
  cases c₀
  simp_all [bodyPostS, results, Try.results31]

set_option maxHeartbeats 1000000 in
theorem first_int (xs : List Int) (p : Option Addr) (c : Nat) (g : FuncId) (lb : Array Value) (eg : ∀ args w, (callFunc g args).run Try.prog w = .ok (.enter g args) w) (q : Nat → Bool) (w : World) (hp : Row w .i64 p xs) (hn : xs.length ≤ 9223372036854775807)
    (hq : ∀ W j, Below w.heap.size w W → j < xs.length → Calls Try.prog g (#[.int .i64 (xs.getD j 0)] ++ lb) W fun e w' => e = .returned (.bool (q j)) ∧ Below W.heap.size W w') :
    Calls Try.prog 26 #[.slice p xs.length c, .func (.func g) #[] lb] w fun e w' => e = .returned (.int .i64 (idxL ((List.range xs.length).map q))) ∧ Below w.heap.size w w' := by
  have hmf : ∀ (fn : Fn) (first cap : Array Value) (w : World), (Instr.makeFunc fn first cap).run Try.prog w = .ok (.func fn first cap) w := fun _ _ _ _ => rfl
  have hb0 : Below w.heap.size w (w.alloc (.cells #[.int .i64 0] 3)) := (Below.refl _ _).alloc (Nat.le_refl _) _
  have CI := Lib.hid (index_int xs p c g lb eg q (w.alloc (.cells #[.int .i64 0] 3)) (hp.below hb0) hn (fun W j hb hj => hq W j (hb0.trans (hb.mono hb0.size)) hj))
  have HB0 := Lib.hid hb0
  obtain ⟨r, hr⟩ : ∃ r, idxL ((List.range xs.length).map q) = r := ⟨_, rfl⟩
  rw [hr] at CI ⊢
  clear hr hp hq hb0 eg
  go_enter_defers Try.func26, Try.ntmps26
  go_wp2_with fail
  refine CI.out.mono ?_
  rintro e w1 ⟨rfl, hb1⟩
  have c0 : w1.cell? ⟨w.heap.size, 0, none⟩ = some (.int .i64 0) := by rw [hb1.cell (p := ⟨w.heap.size, 0, none⟩) (by simp)]; simp
  have f0 : w1.frozen? ⟨w.heap.size, 0, none⟩ = false := by rw [hb1.frozen (p := ⟨w.heap.size, 0, none⟩) (by simp)]; simp
  have HB1 := Lib.hid ((HB0.out.trans (hb1.mono (by simp))).setCell (p := ⟨w.heap.size, 0, none⟩) (Nat.le_refl _) (.int .i64 r))
  clear hb1 CI
  go_wp2_with fail
  refine leaves_cons (f := 31) (args := #[.pointer (some ⟨w.heap.size, 0, none⟩)]) (by simp) (by simp [go_sem]) ?_
  refine (catch_int ⟨w.heap.size, 0, none⟩ _).mono ?_
  rintro e u' w'' ⟨rfl, rfl, rfl⟩
  have c1 : (w1.setCell ⟨w.heap.size, 0, none⟩ (.int .i64 r)).cell? ⟨w.heap.size, 0, none⟩ = some (.int .i64 r) := by simp [go_sem, c0]
  simp [Leaves, settle, results, Try.results26, go_sem, c1]
  exact HB1.out

set_option maxHeartbeats 1000000 in
theorem find_int (xs : List Int) (p : Option Addr) (c : Nat) (g : FuncId) (lb : Array Value) (eg : ∀ args w, (callFunc g args).run Try.prog w = .ok (.enter g args) w) (s : Nat → SP) (k : ByteArray) (w : World) (hp : Row w .i64 p xs) (hn : xs.length ≤ 9223372036854775807) (hg : OfAt .i64 w xs g lb s) :
    Calls Try.prog 19 #[.slice p xs.length c, .func (.func g) #[] lb, .string k] w fun e w' => e = .returned (.int .i64 (idxL ((List.range xs.length).map fun j => hasB (s j) k))) ∧ Below w.heap.size w w' := by
  have hmf : ∀ (fn : Fn) (first cap : Array Value) (w : World), (Instr.makeFunc fn first cap).run Try.prog w = .ok (.func fn first cap) w := fun _ _ _ _ => rfl
  have hfn : ∀ w : World, (binOp .eql 39 (.func (.func g) #[] lb) .nilFunc).run Try.prog w = .ok (.bool false) w := fun _ => by kernel_rfl
  obtain ⟨w0, hw0⟩ : ∃ w0, (w.alloc (.cells #[.func (.func g) #[] lb] 39)).alloc (.cells #[.string k] 9) = w0 := ⟨_, rfl⟩
  have hb0 : Below w.heap.size w w0 := hw0 ▸ ((Below.refl _ _).alloc (Nat.le_refl _) _).alloc (by simp) _
  have c0 : w0.cell? ⟨w.heap.size, 0, none⟩ = some (.func (.func g) #[] lb) := by rw [← hw0]; simp [go_sem]
  have c1 : w0.cell? ⟨w.heap.size + 1, 0, none⟩ = some (.string k) := by rw [← hw0]; simp [go_sem]
  have z1 : w.heap.size + 1 < w0.heap.size := by rw [← hw0]; simp
  have CF := Lib.hid (first_int xs p c 27 #[.pointer (some ⟨w.heap.size, 0, none⟩), .pointer (some ⟨w.heap.size + 1, 0, none⟩)] (fun _ _ => rfl) (fun j => hasB (s j) k) w0 (hp.below hb0) hn (fun W j hb hj => by
    have hbW := hb0.trans (hb.mono hb0.size)
    exact pred_int (xs.getD j 0) g lb eg (s j).f (s j).t k w.heap.size (w.heap.size + 1) W (by rw [hb.cell (p := ⟨w.heap.size, 0, none⟩) (show w.heap.size < w0.heap.size by omega)]; exact c0) (by rw [hb.cell (p := ⟨w.heap.size + 1, 0, none⟩) z1]; exact c1) (by have := hb.size; omega) (by have := hb.size; omega)
      (fun W' hb' => hg W' j (hbW.trans (hb'.mono hbW.size)) hj)))
  have HB0 := Lib.hid hb0
  obtain ⟨r, hr⟩ : ∃ r, idxL ((List.range xs.length).map fun j => hasB (s j) k) = r := ⟨_, rfl⟩
  rw [hr] at CF ⊢
  clear hr hp hg hb0 c1 z1 eg
  go_enter Try.func19, Try.ntmps19
  go_wp2_with fail
  refine CF.out.mono ?_
  rintro e w1 ⟨rfl, hb1⟩
  go_wp2_with fail
  go_ret
  exact ⟨rfl, HB0.out.trans (hb1.mono HB0.out.size)⟩

set_option maxHeartbeats 1000000 in
/-- the closure of Find: has the span of the item at place j the key? -/
theorem pred_u8 (x : Int) (g : FuncId) (lb : Array Value) (eg : ∀ args w, (callFunc g args).run Try.prog w = .ok (.enter g args) w) (f t k : ByteArray) (a b : Nat) (w : World) (ha : w.cell? ⟨a, 0, none⟩ = some (.func (.func g) #[] lb)) (hb : w.cell? ⟨b, 0, none⟩ = some (.string k)) (hal : a < w.heap.size) (hbl : b < w.heap.size)
    (hg : ∀ W, Below w.heap.size w W → Calls Try.prog g (#[.int .u8 x] ++ lb) W fun e w' => e = .returned (.agg #[.string f, .string t]) ∧ Below W.heap.size W w') :
    Calls Try.prog 29 #[.int .u8 x, .pointer (some ⟨a, 0, none⟩), .pointer (some ⟨b, 0, none⟩)] w fun e w' => e = .returned (.bool (hasB ⟨f, t⟩ k)) ∧ Below w.heap.size w w' := by
  have mx := mixedS
  have HA := Lib.hid (fun pw : BelowOf w => Calls.below_of pw (hg pw.w' pw.h))
  have HH := Lib.hid (fun pw : BelowOf w => Calls.below_of pw (has_any f t k pw.w'))
  have f0 := fun pw : BelowOf w => pw.cell (a := ⟨a, 0, none⟩) hal ha
  have f1 := fun pw : BelowOf w => pw.cell (a := ⟨b, 0, none⟩) hbl hb
  clear hg ha hb
  go_enter Try.func29, Try.ntmps29
  go_wp2_with fail
  refine wp_region_quiet_below (by assumption) (by kernel_rfl) ?_
  repeat (go_big_quiet_step (first | (go_at_call 11; with_reducible exact HH.out _) | (with_reducible exact HA.out _)))
  refine wpQuiet_nil ?_
  intro wq hw'
  obtain ⟨⟨wz, hbq⟩, hw''⟩ := hw'
  obtain rfl : wq = wz := hw''
  go_wp2_with fail
  go_ret
  exact ⟨rfl, hbq⟩

set_option maxHeartbeats 1000000 in
theorem index_u8 (xs : List Int) (p : Option Addr) (c : Nat) (g : FuncId) (lb : Array Value) (eg : ∀ args w, (callFunc g args).run Try.prog w = .ok (.enter g args) w) (q : Nat → Bool) (w : World) (hp : Row w .u8 p xs) (hn : xs.length ≤ 9223372036854775807)
    (hq : ∀ W j, Below w.heap.size w W → j < xs.length → Calls Try.prog g (#[.int .u8 (xs.getD j 0)] ++ lb) W fun e w' => e = .returned (.bool (q j)) ∧ Below W.heap.size W w') :
    Calls Try.prog 34 #[.slice p xs.length c, .func (.func g) #[] lb] w fun e w' => e = .returned (.int .i64 (idxL ((List.range xs.length).map q))) ∧ Below w.heap.size w w' := by
  have HP := Lib.hid hp; clear hp
  have HQ := Lib.hid hq; clear hq
  obtain ⟨n, hln⟩ : ∃ n, xs.length = n := ⟨_, rfl⟩
  have HN := Lib.hid hln
  rw [hln] at hn ⊢
  clear hln
  go_enter Try.func34, Try.ntmps34
  go_wp2_with fail
  go_loopg [5, 8] n (fun gg _ s8 wr => ∃ kk : Nat, kk ≤ n ∧ n - kk ≤ gg ∧ s8 = .int .i64 kk ∧ Hid (Below w.heap.size w wr) ∧ Hid (∀ j, j < kk → q j = false))
  case atStart => exact ⟨0, Nat.zero_le _, by omega, rfl, Lib.hid (Below.refl _ w), Lib.hid (fun j hj => absurd hj (Nat.not_lt_zero _))⟩
  case round =>
    obtain ⟨kk, hkk, hg, rfl, BW, A⟩ := hrel
    have hmap : ∀ j, j < n → ((List.range n).map q)[j]! = q j := fun j hj => by
      rw [getElem!_pos _ j (by simpa using hj)]; simp
    have HM := Lib.hid hmap
    clear hmap
    by_cases hlt : kk < n
    · have hltz : (kk : Int) < (n : Int) := by omega
      obtain ⟨b, o, rfl, hbl, c1⟩ := row_cell HP.out BW.out (show kk < xs.length by rw [HN.out]; exact hlt)
      have CE := Lib.hid (HQ.out wr kk BW.out (by rw [HN.out]; exact hlt))
      obtain ⟨x, hx⟩ : ∃ x, xs.getD kk 0 = x := ⟨_, rfl⟩
      rw [hx] at c1 CE
      obtain ⟨r, hr⟩ : ∃ r, q kk = r := ⟨_, rfl⟩
      rw [hr] at CE
      have HR := Lib.hid hr
      clear hx hr
      go_wp2_with fail
      refine CE.out.mono ?_
      rintro e w1 ⟨rfl, hb1⟩
      have HB1 := Lib.hid (BW.out.trans (hb1.mono BW.out.size))
      clear hb1 CE
      cases r with
      | true =>
        go_wp2_with fail
        go_ret
        refine ⟨?_, HB1.out⟩
        rw [idx_hit _ kk (by simpa using hlt) (by rw [HM.out kk hlt]; exact HR.out) (fun j hj => by rw [HM.out j (by omega)]; exact A.out j hj)]
        rfl
      | false =>
        go_wp2_with fail
        go_roundg (n - (kk + 1))
        case measure => omega
        case rel =>
          refine ⟨kk + 1, by omega, by omega, by go_num, HB1, Lib.hid fun j hj => ?_⟩
          by_cases e : j = kk
          · subst e; exact HR.out
          · exact A.out j (by omega)
    · have hltz : ¬ (kk : Int) < (n : Int) := by omega
      obtain rfl : kk = n := by omega
      go_wp2_with fail
      go_ret
      refine ⟨?_, BW.out⟩
      rw [idx_miss _ fun j hj => by rw [List.length_map, List.length_range] at hj; rw [HM.out j hj]; exact A.out j hj]
      rfl

theorem catch_u8 (p : Addr) (w : World) :
    CallsD Try.prog 33 #[.pointer (some p)] .returning w fun e u' w' => e = .returned (.tuple #[]) ∧ u' = .returning ∧ w' = w := by
  refine callsD_of_wpS Try.func33 rfl fun c₀ cs hu => ?_
  apply wpS_seq
  apply wpS_region
  simp [wpOpsS, go_sem, recoverD, hu, Try.ntmps33, Exit.thenS]
  refine wpS_cond (t := false) (by simp [Act.eval, Array.replicate]) ?_
  simp only [Bool.false_eq_true, if_false]
  refine wpS_of_wp (wp_skip ?_)
  cases c₀
  simp_all [bodyPostS, results, Try.results33]

set_option maxHeartbeats 1000000 in
theorem first_u8 (xs : List Int) (p : Option Addr) (c : Nat) (g : FuncId) (lb : Array Value) (eg : ∀ args w, (callFunc g args).run Try.prog w = .ok (.enter g args) w) (q : Nat → Bool) (w : World) (hp : Row w .u8 p xs) (hn : xs.length ≤ 9223372036854775807)
    (hq : ∀ W j, Below w.heap.size w W → j < xs.length → Calls Try.prog g (#[.int .u8 (xs.getD j 0)] ++ lb) W fun e w' => e = .returned (.bool (q j)) ∧ Below W.heap.size W w') :
    Calls Try.prog 28 #[.slice p xs.length c, .func (.func g) #[] lb] w fun e w' => e = .returned (.int .i64 (idxL ((List.range xs.length).map q))) ∧ Below w.heap.size w w' := by
  have hmf : ∀ (fn : Fn) (first cap : Array Value) (w : World), (Instr.makeFunc fn first cap).run Try.prog w = .ok (.func fn first cap) w := fun _ _ _ _ => rfl
  have hb0 : Below w.heap.size w (w.alloc (.cells #[.int .i64 0] 3)) := (Below.refl _ _).alloc (Nat.le_refl _) _
  have CI := Lib.hid (index_u8 xs p c g lb eg q (w.alloc (.cells #[.int .i64 0] 3)) (hp.below hb0) hn (fun W j hb hj => hq W j (hb0.trans (hb.mono hb0.size)) hj))
  have HB0 := Lib.hid hb0
  obtain ⟨r, hr⟩ : ∃ r, idxL ((List.range xs.length).map q) = r := ⟨_, rfl⟩
  rw [hr] at CI ⊢
  clear hr hp hq hb0 eg
  go_enter_defers Try.func28, Try.ntmps28
  go_wp2_with fail
  refine CI.out.mono ?_
  rintro e w1 ⟨rfl, hb1⟩
  have c0 : w1.cell? ⟨w.heap.size, 0, none⟩ = some (.int .i64 0) := by rw [hb1.cell (p := ⟨w.heap.size, 0, none⟩) (by simp)]; simp
  have f0 : w1.frozen? ⟨w.heap.size, 0, none⟩ = false := by rw [hb1.frozen (p := ⟨w.heap.size, 0, none⟩) (by simp)]; simp
  have HB1 := Lib.hid ((HB0.out.trans (hb1.mono (by simp))).setCell (p := ⟨w.heap.size, 0, none⟩) (Nat.le_refl _) (.int .i64 r))
  clear hb1 CI
  go_wp2_with fail
  refine leaves_cons (f := 33) (args := #[.pointer (some ⟨w.heap.size, 0, none⟩)]) (by simp) (by simp [go_sem]) ?_
  refine (catch_u8 ⟨w.heap.size, 0, none⟩ _).mono ?_
  rintro e u' w'' ⟨rfl, rfl, rfl⟩
  have c1 : (w1.setCell ⟨w.heap.size, 0, none⟩ (.int .i64 r)).cell? ⟨w.heap.size, 0, none⟩ = some (.int .i64 r) := by simp [go_sem, c0]
  simp [Leaves, settle, results, Try.results28, go_sem, c1]
  exact HB1.out

set_option maxHeartbeats 1000000 in
theorem find_u8 (xs : List Int) (p : Option Addr) (c : Nat) (g : FuncId) (lb : Array Value) (eg : ∀ args w, (callFunc g args).run Try.prog w = .ok (.enter g args) w) (s : Nat → SP) (k : ByteArray) (w : World) (hp : Row w .u8 p xs) (hn : xs.length ≤ 9223372036854775807) (hg : OfAt .u8 w xs g lb s) :
    Calls Try.prog 21 #[.slice p xs.length c, .func (.func g) #[] lb, .string k] w fun e w' => e = .returned (.int .i64 (idxL ((List.range xs.length).map fun j => hasB (s j) k))) ∧ Below w.heap.size w w' := by
  have hmf : ∀ (fn : Fn) (first cap : Array Value) (w : World), (Instr.makeFunc fn first cap).run Try.prog w = .ok (.func fn first cap) w := fun _ _ _ _ => rfl
  have hfn : ∀ w : World, (binOp .eql 41 (.func (.func g) #[] lb) .nilFunc).run Try.prog w = .ok (.bool false) w := fun _ => by kernel_rfl
  obtain ⟨w0, hw0⟩ : ∃ w0, (w.alloc (.cells #[.func (.func g) #[] lb] 41)).alloc (.cells #[.string k] 9) = w0 := ⟨_, rfl⟩
  have hb0 : Below w.heap.size w w0 := hw0 ▸ ((Below.refl _ _).alloc (Nat.le_refl _) _).alloc (by simp) _
  have c0 : w0.cell? ⟨w.heap.size, 0, none⟩ = some (.func (.func g) #[] lb) := by rw [← hw0]; simp [go_sem]
  have c1 : w0.cell? ⟨w.heap.size + 1, 0, none⟩ = some (.string k) := by rw [← hw0]; simp [go_sem]
  have z1 : w.heap.size + 1 < w0.heap.size := by rw [← hw0]; simp
  have CF := Lib.hid (first_u8 xs p c 29 #[.pointer (some ⟨w.heap.size, 0, none⟩), .pointer (some ⟨w.heap.size + 1, 0, none⟩)] (fun _ _ => rfl) (fun j => hasB (s j) k) w0 (hp.below hb0) hn (fun W j hb hj => by
    have hbW := hb0.trans (hb.mono hb0.size)
    exact pred_u8 (xs.getD j 0) g lb eg (s j).f (s j).t k w.heap.size (w.heap.size + 1) W (by rw [hb.cell (p := ⟨w.heap.size, 0, none⟩) (show w.heap.size < w0.heap.size by omega)]; exact c0) (by rw [hb.cell (p := ⟨w.heap.size + 1, 0, none⟩) z1]; exact c1) (by have := hb.size; omega) (by have := hb.size; omega)
      (fun W' hb' => hg W' j (hbW.trans (hb'.mono hbW.size)) hj)))
  have HB0 := Lib.hid hb0
  obtain ⟨r, hr⟩ : ∃ r, idxL ((List.range xs.length).map fun j => hasB (s j) k) = r := ⟨_, rfl⟩
  rw [hr] at CF ⊢
  clear hr hp hg hb0 c1 z1 eg
  go_enter Try.func21, Try.ntmps21
  go_wp2_with fail
  refine CF.out.mono ?_
  rintro e w1 ⟨rfl, hb1⟩
  go_wp2_with fail
  go_ret
  exact ⟨rfl, HB0.out.trans (hb1.mono HB0.out.size)⟩
end Go.Proofs.Ytafmglnjheeajaa
