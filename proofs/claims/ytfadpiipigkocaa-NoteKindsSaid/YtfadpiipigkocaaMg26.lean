/-
  Several texts in one: NtWr, NtWr2, NtRfA, NtRfR.
-/
import Derived.Test.YtfadpiipigkocaaMg04
import Derived.Test.YtfadpiipigkocaaMg08
import Derived.Test.YtfadpiipigkocaaMg07
import Derived.Maps.AppendAt
import Derived.Deep.CutRange
namespace Go.Proofs.Ytfadpiipigkocaa
open Go.RowKit Go.Gz

/-- four bytes of a number, whatever it is. -/
def r4 (n : Int) : List UInt8 := [UInt8.ofNat (n / 16777216 % 256).toNat, UInt8.ofNat (n / 65536 % 256).toNat, UInt8.ofNat (n / 256 % 256).toNat, UInt8.ofNat (n % 256).toNat]
theorem r4_byte (x : Int) : ((UInt8.ofNat (x % 256).toNat).toNat : Int) = x % 256 := by
  rw [UInt8.toNat_ofNat']
  omega
theorem r4_nums (n : Int) : nums (r4 n) = [n / 16777216 % 256, n / 65536 % 256, n / 256 % 256, n % 256] := by
  unfold nums r4
  simp only [List.map_cons, List.map_nil, r4_byte]
theorem r4_be (n : Int) (h : 0 ≤ n ∧ n < 268435456) : r4 n = be4 n.toNat := by
  obtain ⟨m, rfl⟩ : ∃ m : Nat, n = m := ⟨n.toNat, by omega⟩
  have k (y : Nat) : UInt8.ofNat ((y : Int) % 256).toNat = UInt8.ofNat y := by
    apply UInt8.toNat_inj.1
    rw [UInt8.toNat_ofNat', UInt8.toNat_ofNat']
    omega
  unfold r4 be4
  rw [show (m : Int) / 16777216 = ((m / 16777216 : Nat) : Int) from rfl, show (m : Int) / 65536 = ((m / 65536 : Nat) : Int) from rfl, show (m : Int) / 256 = ((m / 256 : Nat) : Int) from rfl, k, k, k, k]
  rfl
set_option maxHeartbeats 1000000 in
theorem refnum_any (n : Int) (w : World) : Calls Try.prog 65 #[.int .i64 n] w fun e w' => e = .returned (.tuple #[.slice (some ⟨w.heap.size, 0, none⟩) 4 4, .bool (decide (0 ≤ n ∧ n < 268435456))]) ∧ w' = w.alloc (.cells ((nums (r4 n)).map (Value.int .u8)).toArray 5) := by
  rw [r4_nums]
  by_cases h0 : 0 ≤ n
  · by_cases h1 : n < 268435456
    · rw [show decide (0 ≤ n ∧ n < 268435456) = true from decide_eq_true ⟨h0, h1⟩]
      go_enter Try.func65, Try.ntmps65
      go_wp2_with fail
      go_ret2
      refine ⟨rfl, ?_⟩
      rw [show n / 16777216 % 256 = n / 16777216 by omega]
      rfl
    · rw [show decide (0 ≤ n ∧ n < 268435456) = false from decide_eq_false (by omega)]
      go_enter Try.func65, Try.ntmps65
      go_wp2_with fail
      go_ret2
      exact ⟨rfl, rfl⟩
  · rw [show decide (0 ≤ n ∧ n < 268435456) = false from decide_eq_false (by omega)]
    go_enter Try.func65, Try.ntmps65
    go_wp2_with fail
    go_ret2
    exact ⟨rfl, rfl⟩

/-- the reference's writer: its bytes, and whether one number was none. -/
structure WrAt (w : World) (B g : Nat) (v : Value) (X : List UInt8) (bad : Bool) : Prop where
  c : w.heap[g]? = some (.cells #[v, .bool bad] 80 (0, 0))
  lo : B ≤ g
  o : Own w B 5 .u8 v (nums X)
theorem WrAt.ne {w : World} {B g : Nat} {v : Value} {X : List UInt8} {bad : Bool} (h : WrAt w B g v X bad) : some g ≠ v.ownBlock := fun e => by
  obtain ⟨cs, fz, hc⟩ := h.o.type g e.symm
  rw [h.c] at hc
  simp at hc
theorem WrAt.below {w w' : World} {B g : Nat} {v : Value} {X : List UInt8} {bad : Bool} (h : WrAt w B g v X bad) (hb : Below w.heap.size w w') : WrAt w' B g v X bad :=
  ⟨(hb.block g (Array.getElem?_eq_some_iff.1 h.c).1).trans h.c, h.lo, below_own h.o hb⟩
/-- what a step of the writer leaves: B bytes at most d more. -/
structure Wrote (w : World) (B g : Nat) (X : List UInt8) (bad : Bool) (d : Nat) (ok : Prop) (Y : List UInt8) (w' : World) : Prop where
  ex : ∃ v Z b, WrAt w' B g v Z b ∧ Z.length ≤ X.length + d ∧ (b = false → bad = false ∧ ok ∧ Z = X ++ Y)
  bl : Below B w w'
/-- the writer's step: the bytes are appended, then both words are stored. -/
structure WnI (q : Nat) (w : World) (B g : Nat) (v : Value) (X Y : List UInt8) (bad nb : Bool) (os : List (Option Value)) (L : Nat → Bool) (vals : Nat → Value) (x : World) : Prop where
  bl : Below B w x
  obj : x.heap[g]? = some (.cells #[if L 18 then vals 7 else v, .bool (if L 21 then nb else bad)] 80 (0, 0))
  own : Own x B 5 .u8 (if L 7 then vals 7 else v) (nums (if L 7 then X ++ Y else X))
  ord : L 18 = true → L 7 = true
  row : L 7 = false → Row x .u8 (some ⟨q, 0, none⟩) (nums Y)
  val : ∀ k, L k = true → EqV os k (vals k)
theorem upd_same {L : Nat → Bool} {i k : Nat} (h : k ≠ i) : updL L i k = L k := by unfold updL; rw [if_neg h]
theorem upd_self {L : Nat → Bool} {i : Nat} : updL L i i = true := by unfold updL; rw [if_pos rfl]
theorem updV_same {vals : Nat → Value} {i k : Nat} {u : Value} (h : k ≠ i) : updV vals i u k = vals k := by unfold updV; rw [if_neg h]
theorem updV_self {vals : Nat → Value} {i : Nat} {u : Value} : updV vals i u i = u := by unfold updV; rw [if_pos rfl]
theorem upd_val {os : List (Option Value)} {L : Nat → Bool} {vals : Nat → Value} {i : Nat} {u : Value} (h : ∀ k, L k = true → EqV os k (vals k)) (he : EqV os i u) : ∀ k, updL L i k = true → EqV os k (updV vals i u k) := fun k hk => by
  by_cases e : k = i
  · rw [e, updV_self]; exact he
  · rw [updV_same e]; rw [upd_same e] at hk; exact h k hk
theorem WnI.read {q : Nat} {w : World} {B g : Nat} {v : Value} {X Y : List UInt8} {bad nb : Bool} {os : List (Option Value)} {L : Nat → Bool} {vals : Nat → Value} {x : World} (h : WnI q w B g v X Y bad nb os L vals x) {i : Nat} {u : Value} (h7 : 7 ≠ i) (h18 : 18 ≠ i) (h21 : 21 ≠ i) (he : EqV os i u) : WnI q w B g v X Y bad nb os (updL L i) (updV vals i u) x := by
  refine ⟨h.bl, ?_, ?_, ?_, ?_, upd_val h.val he⟩
  · rw [upd_same h18, upd_same h21, updV_same h7]; exact h.obj
  · rw [upd_same h7, updV_same h7]; exact h.own
  · rw [upd_same h18, upd_same h7]; exact h.ord
  · rw [upd_same h7]; exact h.row
theorem WnI.ne {q : Nat} {w : World} {B g : Nat} {v : Value} {X Y : List UInt8} {bad nb : Bool} {os : List (Option Value)} {L : Nat → Bool} {vals : Nat → Value} {x : World} (h : WnI q w B g v X Y bad nb os L vals x) : some g ≠ (if L 7 then vals 7 else v).ownBlock := fun e => by
  obtain ⟨cs, fz, hc⟩ := h.own.type g e.symm
  rw [h.obj] at hc
  simp at hc
theorem stepI_own_rowW {ops : Array Oper} {Q : Exit → Act → World → Prop} {i : Nat} {o : Oper} {a : Act} {w : World} {J : Value → World → Prop} (hgd : o.guard = none) (s x : Operand)
    (ho : o.op = .call { callee := .builtin .append, args := #[s, x], argTypes := #[50, 50] })
    (B : Nat) (v : Value) (xs : List Int) (hs : a.eval s = v) (hown : Own w B 5 .u8 v xs)
    (p : Option Addr) (c : Nat) (ys : List Int) (hx : a.eval x = .slice p ys.length c) (hrow : Row w .u8 p ys) (hpc : p = none → c = 0) (hlen : xs.length + ys.length ≤ 140737488355328) (hB : B ≤ w.heap.size)
    (hJ : ∀ v' w', Own w' B 5 .u8 v' (xs ++ ys) → w.grownBy w' v.ownBlock → J v' w') : StepI Try.prog ops Q i o a w J := by
  obtain ⟨i0, hi, hz0, hz1, hz2⟩ := info_parts info_byte
  cases p with
  | none =>
    obtain rfl : ys = [] := by
      rcases hrow with h | ⟨b, off, hp', _⟩
      · exact h
      · cases hp'
    obtain rfl := hpc rfl
    have hrun := run_append_owned_none (P := Try.prog) (w := w) B 50 o.type 5 i0 1 Try.underlying50 hi v xs.length (xs.map (Value.int .u8)) hown
    have hx' : a.eval x = .slice none 0 0 := hx
    refine step_run hgd (v := v) (w' := w) ?_ (hJ v w (by rw [List.append_nil]; exact hown) (World.grownBy.refl _ _))
    simp [execOp, ho, resolve, invoke, builtin, hs, hx', hrun, Result.andThen]
  | some ad =>
    obtain ⟨v', w', hr, h2, h3, _, h5⟩ := run_append_own_at (P := Try.prog) (w := w) B 50 o.type 5 i0 (.int .u8 0) 1 1 Try.underlying50 hi hz0 hz1 hz2 rfl (by decide) v xs.length (xs.map (Value.int .u8)) hown ad ys.length c (ys.map (Value.int .u8)) (by simp) (by
      intro j u hj
      obtain ⟨hj', rfl⟩ := List.getElem?_eq_some_iff.1 hj
      simp only [List.length_map] at hj'
      rcases hrow with h | ⟨b, off, hp', _, hc⟩
      · rw [h] at hj'; simp at hj'
      · cases hp'
        rw [Addr.add_lit, hc j hj']
        simp [List.getD, hj']) (by
      intro u hu
      obtain ⟨y, _, rfl⟩ := List.mem_map.1 hu
      rfl) (by unfold maxLen; omega) (by omega) hB
    refine step_run hgd (v := v') (w' := w') ?_ (hJ v' w' (by unfold Own; rw [List.length_append, List.map_append]; exact h2) h3)
    simp [execOp, ho, resolve, invoke, builtin, hs, hx, hr, Result.andThen]

theorem mixedWr : Try.prog.follows .mixedOrders = true := by kernel_rfl
set_option maxHeartbeats 4000000 in
set_option maxRecDepth 100000 in
theorem wnum_any (w : World) (B g : Nat) (v : Value) (X : List UInt8) (bad : Bool) (n : Int) (h : WrAt w B g v X bad) (hB : B ≤ w.heap.size) (hl : X.length ≤ 100000000000000) :
    Calls Try.prog 31 #[.pointer (some ⟨g, 0, none⟩), .int .i64 n] w fun e w' => e = .returned (.tuple #[]) ∧ Wrote w B g X bad 4 (0 ≤ n ∧ n < 268435456) (be4 n.toNat) w' := by
  have HH := Lib.hid h
  have CN := Lib.hid (refnum_any n w)
  obtain ⟨W, hW⟩ : ∃ W, w.alloc (.cells ((nums (r4 n)).map (Value.int .u8)).toArray 5) = W := ⟨_, rfl⟩
  rw [hW] at CN
  obtain ⟨k, hk⟩ : ∃ k, decide (0 ≤ n ∧ n < 268435456) = k := ⟨_, rfl⟩
  rw [hk] at CN
  have hbW : Below w.heap.size w W := hW ▸ (Below.refl _ _).alloc (Nat.le_refl _) _
  have HBW := Lib.hid hbW
  have HWA := Lib.hid (h.below hbW)
  have HK := Lib.hid hk
  have HB := Lib.hid (Nat.le_trans hB hbW.size)
  have HB0 := Lib.hid hB
  have HLX := Lib.hid hl
  obtain ⟨q0, hq0⟩ : ∃ q, w.heap.size = q := ⟨_, rfl⟩
  have HR := Lib.hid (show Row W .u8 (some ⟨q0, 0, none⟩) (nums (r4 n)) from hq0 ▸ hW ▸ row_lit w .u8 5 (nums (r4 n)))
  have HGQ := Lib.hid (show g < q0 from hq0 ▸ (Array.getElem?_eq_some_iff.1 h.c).1)
  rw [hq0] at CN
  clear hW hbW hk h hq0 hB hl
  go_enter Try.func31, Try.ntmps31
  go_wp2_with fail
  refine CN.out.mono ?_
  rintro e w1 ⟨rfl, rfl⟩
  go_wp2_with fail
  cases bad with
  | true =>
    refine wp_region_invC mixedWr (by kernel_rfl) (WnI q0 w1 B g v X (r4 n) true true [some (.pointer (some ⟨g, 0, none⟩)), some (.pointer (some ⟨g, 0, none⟩)), some (.pointer (some ⟨g, 0, none⟩)), some (.pointer (some ⟨g, 0, none⟩)), some (.pointer (some ⟨g, 0, none⟩)), some v, some (.slice (some ⟨q0, 0, none⟩) 4 4), none, some (.pointer (some ⟨g, 0, none⟩)), some (.pointer (some ⟨g, 0, none⟩)), some (.pointer (some ⟨g, 1, none⟩)), some (.bool true), some (.bool true), none, none, some (.bool true), some (.pointer (some ⟨g, 0, none⟩)), some (.pointer (some ⟨g, 0, none⟩)), none, some (.pointer (some ⟨g, 0, none⟩)), some (.pointer (some ⟨g, 1, none⟩)), none]) ?_ ?_ ?_
    · intro vals
      exact ⟨(Below.refl _ _).drew, HWA.out.c, HWA.out.o, fun h => (by cases h), fun _ => HR.out.below ((Below.refl _ _).drew), fun k h => (by cases h)⟩
    · intro i o L vals x hi hL hdep hC hI
      have hlt : i < 22 := by have := (List.getElem?_eq_some_iff.1 hi).1; simpa using this
      generalize hA : frA _ _ L vals = a'
      have hT0 : a'.tmps.getD 0 undef = .pointer (some ⟨g, 0, none⟩) := by rw [← hA, frA_base (by kernel_rfl)]; rfl
      have hT4 : a'.tmps.getD 4 undef = .slice (some ⟨q0, 0, none⟩) 4 4 := by rw [← hA, frA_base (by kernel_rfl)]; rfl
      have hT5 : a'.tmps.getD 5 undef = .bool k := by rw [← hA, frA_base (by kernel_rfl)]; rfl
      have hD := Lib.hid (fun k t (hk : L k = true) (ht : dstOf _ k = some t) => hA ▸ frA_done (by kernel_rfl) (vals := vals) hk ht)
      clear hA
      have hsz := Nat.le_trans HB.out hI.bl.size
      have c0 := cell_at hI.obj 0
      have c1 := cell_at hI.obj 1
      have f0 := frozen_at hI.obj 0
      have f1 := frozen_at hI.obj 1
      obtain rfl | rfl | rfl | rfl | rfl | rfl | rfl | rfl | rfl | rfl | rfl | rfl | rfl | rfl | rfl | rfl | rfl | rfl | rfl | rfl | rfl | rfl : i = 0 ∨ i = 1 ∨ i = 2 ∨ i = 3 ∨ i = 4 ∨ i = 5 ∨ i = 6 ∨ i = 7 ∨ i = 8 ∨ i = 9 ∨ i = 10 ∨ i = 11 ∨ i = 12 ∨ i = 13 ∨ i = 14 ∨ i = 15 ∨ i = 16 ∨ i = 17 ∨ i = 18 ∨ i = 19 ∨ i = 20 ∨ i = 21 := by omega
      all_goals
        injection hi with hi
        subst hi
        try simp [Region.binds] at hdep
      · skip
        exact step_run rfl (v := .pointer (some ⟨g, 0, none⟩)) (w' := x) (by go_simp) (hI.read (by decide) (by decide) (by decide) (EqV.self rfl))
      · skip
        exact step_run rfl (v := .pointer (some ⟨g, 0, none⟩)) (w' := x) (by go_simp) (hI.read (by decide) (by decide) (by decide) (EqV.self rfl))
      · skip
        exact step_run rfl (v := .pointer (some ⟨g, 0, none⟩)) (w' := x) (by go_simp) (hI.read (by decide) (by decide) (by decide) (EqV.self rfl))
      · skip
        have d13 := hD.out 2 13 (by simp [hdep]) rfl
        rw [show vals 2 = _ from hI.val 2 (by simp [hdep]) _ rfl] at d13
        exact step_run rfl (v := .pointer (some ⟨g, 0, none⟩)) (w' := x) (by go_simp) (hI.read (by decide) (by decide) (by decide) (EqV.self rfl))
      · skip
        have d14 := hD.out 3 14 (by simp [hdep]) rfl
        rw [show vals 3 = _ from hI.val 3 (by simp [hdep]) _ rfl] at d14
        exact step_run rfl (v := .pointer (some ⟨g, 0, none⟩)) (w' := x) (by go_simp) (hI.read (by decide) (by decide) (by decide) (EqV.self rfl))
      · skip
        have d15 := hD.out 4 15 (by simp [hdep]) rfl
        rw [show vals 4 = _ from hI.val 4 (by simp [hdep]) _ rfl] at d15
        have n18 : L 18 = false := by
          cases h : L 18 with
          | false => rfl
          | true => exact absurd (hC.path [18, 7, 5] (by kernel_rfl) 18 rfl h 5 rfl) (by simp [hL])
        rw [n18] at c0
        exact step_run rfl (v := v) (w' := x) (by go_simp) (hI.read (by decide) (by decide) (by decide) (EqV.self rfl))
      · skip
        exact step_run rfl (v := .slice (some ⟨q0, 0, none⟩) 4 4) (w' := x) (by go_simp) (hI.read (by decide) (by decide) (by decide) (EqV.self rfl))
      · skip
        have d16 := hD.out 5 16 (by simp [hdep]) rfl
        have d17 := hD.out 6 17 (by simp [hdep]) rfl
        rw [show vals 6 = _ from hI.val 6 (by simp [hdep]) _ rfl] at d17
        have n18 : L 18 = false := by
          cases h : L 18 with
          | false => rfl
          | true => exact absurd (hC.path [18, 7] (by kernel_rfl) 18 rfl h 7 rfl) (by simp [hL])
        rw [show vals 5 = _ from hI.val 5 (by simp [hdep]) _ rfl] at d16
        have hown := hI.own
        have hobj := hI.obj
        have hne := hI.ne
        rw [hL] at hown hne
        rw [n18] at hobj
        simp only [Bool.false_eq_true, if_false] at hown hobj hne
        refine stepI_own_rowW rfl (.tmp 16) (.tmp 17) rfl B v (nums X) d16 hown (some ⟨q0, 0, none⟩) 4 (nums (r4 n)) d17 (hI.row hL) (by simp) (by rw [nums_length, nums_length]; have := HLX.out; show _ + 4 ≤ _; omega) hsz ?_
        intro v' x' ho' hg'
        refine ⟨hI.bl.grown hg' hsz (fun g hg => hown.lt g hg), ?_, ?_, fun _ => upd_self, fun h => absurd (upd_self.symm.trans h) (by decide), upd_val hI.val (by exact EqV.no rfl)⟩
        · rw [hg'.block g (Array.getElem?_eq_some_iff.1 hobj).1 hne, hobj, upd_same (by decide), n18, upd_same (by decide)]
          simp
        · rw [upd_self, updV_self]
          simp only [if_true]
          rw [nums_append]
          exact ho'
      · skip
        exact step_run rfl (v := .pointer (some ⟨g, 0, none⟩)) (w' := x) (by go_simp) (hI.read (by decide) (by decide) (by decide) (EqV.self rfl))
      · skip
        have d19 := hD.out 8 19 (by simp [hdep]) rfl
        rw [show vals 8 = _ from hI.val 8 (by simp [hdep]) _ rfl] at d19
        exact step_run rfl (v := .pointer (some ⟨g, 0, none⟩)) (w' := x) (by go_simp) (hI.read (by decide) (by decide) (by decide) (EqV.self rfl))
      · skip
        have d20 := hD.out 9 20 (by simp [hdep]) rfl
        rw [show vals 9 = _ from hI.val 9 (by simp [hdep]) _ rfl] at d20
        exact step_run rfl (v := .pointer (some ⟨g, 1, none⟩)) (w' := x) (by go_simp) (hI.read (by decide) (by decide) (by decide) (EqV.self rfl))
      · skip
        have d21 := hD.out 10 21 (by simp [hdep]) rfl
        rw [show vals 10 = _ from hI.val 10 (by simp [hdep]) _ rfl] at d21
        have n21 : L 21 = false := by
          cases h : L 21 with
          | false => rfl
          | true => exact absurd (hC.path [21, 15, 12, 11] (by kernel_rfl) 21 rfl h 11 rfl) (by simp [hL])
        rw [n21] at c1
        exact step_run rfl (v := .bool true) (w' := x) (by go_simp) (hI.read (by decide) (by decide) (by decide) (EqV.self rfl))
      · skip
        have d22 := hD.out 11 22 (by simp [hdep]) rfl
        rw [show vals 11 = _ from hI.val 11 (by simp [hdep]) _ rfl] at d22
        exact step_run rfl (v := .bool true) (w' := x) (by go_simp) (hI.read (by decide) (by decide) (by decide) (EqV.self rfl))
      · skip
        have d23 := hD.out 12 23 (by simp [hdep]) rfl
        rw [show vals 12 = _ from hI.val 12 (by simp [hdep]) _ rfl] at d23
        exact step_shut (wanted_shut rfl rfl d23 (by decide)) (hI.read (by decide) (by decide) (by decide) (EqV.no rfl))
      · skip
        have d23 := hD.out 12 23 (by simp [hdep]) rfl
        rw [show vals 12 = _ from hI.val 12 (by simp [hdep]) _ rfl] at d23
        exact step_shut (wanted_shut rfl rfl d23 (by decide)) (hI.read (by decide) (by decide) (by decide) (EqV.no rfl))
      · skip
        have d23 := hD.out 12 23 (by simp [hdep]) rfl
        rw [show vals 12 = _ from hI.val 12 (by simp [hdep]) _ rfl] at d23
        exact step_run rfl (v := .bool true) (w' := x) (by go_simp) (hI.read (by decide) (by decide) (by decide) (EqV.self rfl))
      · skip
        have d11 := hD.out 0 11 (by simp [hdep]) rfl
        rw [show vals 0 = _ from hI.val 0 (by simp [hdep]) _ rfl] at d11
        exact step_run rfl (v := .pointer (some ⟨g, 0, none⟩)) (w' := x) (by go_simp) (hI.read (by decide) (by decide) (by decide) (EqV.self rfl))
      · skip
        have d27 := hD.out 16 27 (by simp [hdep]) rfl
        rw [show vals 16 = _ from hI.val 16 (by simp [hdep]) _ rfl] at d27
        exact step_run rfl (v := .pointer (some ⟨g, 0, none⟩)) (w' := x) (by go_simp) (hI.read (by decide) (by decide) (by decide) (EqV.self rfl))
      · skip
        have d28 := hD.out 17 28 (by simp [hdep]) rfl
        rw [show vals 17 = _ from hI.val 17 (by simp [hdep]) _ rfl] at d28
        have d18 := hD.out 7 18 (by simp [hdep]) rfl
        have y7 : L 7 = true := by simp [hdep]
        have hown := hI.own
        have hobj := hI.obj
        have hne := hI.ne
        rw [y7] at hown hne
        rw [hL] at hobj
        simp only [Bool.false_eq_true, if_true, if_false] at hown hobj hne
        obtain ⟨q7, c7, e7, -⟩ := own_row hown
        rw [e7] at d18
        refine stepI_skip rfl (w' := x.setCell ⟨g, 0, none⟩ (vals 7)) (by rw [e7]; go_simp) ?_
        refine ⟨hI.bl.setCell (p := ⟨g, 0, none⟩) HWA.out.lo _, ?_, ?_, fun _ => ?_, fun h => absurd (y7.symm.trans ((upd_same (by decide)).symm.trans h)) (by decide), upd_val hI.val (by exact EqV.no rfl)⟩
        · rw [set_at hobj 0 (vals 7), upd_self, upd_same (by decide), updV_same (by decide)]
          simp
        · rw [upd_same (by decide), updV_same (by decide), y7]
          simp only [if_true]
          exact own_set hown hne
        · rw [upd_same (by decide)]; exact y7
      · skip
        have d12 := hD.out 1 12 (by simp [hdep]) rfl
        rw [show vals 1 = _ from hI.val 1 (by simp [hdep]) _ rfl] at d12
        exact step_run rfl (v := .pointer (some ⟨g, 0, none⟩)) (w' := x) (by go_simp) (hI.read (by decide) (by decide) (by decide) (EqV.self rfl))
      · skip
        have d29 := hD.out 19 29 (by simp [hdep]) rfl
        rw [show vals 19 = _ from hI.val 19 (by simp [hdep]) _ rfl] at d29
        exact step_run rfl (v := .pointer (some ⟨g, 1, none⟩)) (w' := x) (by go_simp) (hI.read (by decide) (by decide) (by decide) (EqV.self rfl))
      · skip
        have d30 := hD.out 20 30 (by simp [hdep]) rfl
        rw [show vals 20 = _ from hI.val 20 (by simp [hdep]) _ rfl] at d30
        have d26 := hD.out 15 26 (by simp [hdep]) rfl
        rw [show vals 15 = _ from hI.val 15 (by simp [hdep]) _ rfl] at d26
        have hobj := hI.obj
        rw [hL] at hobj
        simp only [Bool.false_eq_true, if_false] at hobj
        refine stepI_skip rfl (w' := x.setCell ⟨g, 1, none⟩ (.bool true)) (by go_simp) ?_
        refine ⟨hI.bl.setCell (p := ⟨g, 1, none⟩) HWA.out.lo _, ?_, ?_, ?_, fun h => (hI.row ((upd_same (by decide)).symm.trans h)).kept (Kept.set (F := fun j => j = g) _ rfl) (fun b hb he => by injection hb with hb; have := HGQ.out; simp only at hb; omega), upd_val hI.val (by exact EqV.no rfl)⟩
        · rw [set_at hobj 1 (.bool true), upd_self, upd_same (by decide), updV_same (by decide)]
          simp
        · rw [upd_same (by decide), updV_same (by decide)]
          exact own_set hI.own hI.ne
        · rw [upd_same (by decide), upd_same (by decide)]; exact hI.ord
    · intro vals x hI
      have h1 := hI.obj
      have h2 := hI.own
      simp only [List.length_cons, List.length_nil, Nat.reduceAdd, Nat.reduceLT, decide_true, if_true] at h1 h2
      have HP := Lib.hid (show Wrote w B g X true 4 (0 ≤ n ∧ n < 268435456) (be4 n.toNat) x from ⟨⟨vals 7, X ++ r4 n, _, ⟨h1, HWA.out.lo, h2⟩, by rw [List.length_append]; exact Nat.le_refl _, fun hb => by
        have hkk : k = true := by cases k <;> simp_all
        rw [hkk, decide_eq_true_eq] at HK
        exact ⟨by simp_all, HK.out, by rw [r4_be n HK.out]⟩⟩, (HBW.out.mono HB0.out).trans hI.bl⟩)
      clear h1 h2 hI
      simp only [putsL, Act.put, List.setIfInBounds_toArray, List.set_cons_zero, List.set_cons_succ]
      go_wp2_with fail
      exact bodyPost_end (v := .tuple #[]) (by simp [results, Try.results31]) rfl ⟨rfl, HP.out⟩

  | false =>
    refine wp_region_invC mixedWr (by kernel_rfl) (WnI q0 w1 B g v X (r4 n) false (!k) [some (.pointer (some ⟨g, 0, none⟩)), some (.pointer (some ⟨g, 0, none⟩)), some (.pointer (some ⟨g, 0, none⟩)), some (.pointer (some ⟨g, 0, none⟩)), some (.pointer (some ⟨g, 0, none⟩)), some v, some (.slice (some ⟨q0, 0, none⟩) 4 4), none, some (.pointer (some ⟨g, 0, none⟩)), some (.pointer (some ⟨g, 0, none⟩)), some (.pointer (some ⟨g, 1, none⟩)), some (.bool false), some (.bool false), some (.bool k), some (.bool (!k)), some (.bool (!k)), some (.pointer (some ⟨g, 0, none⟩)), some (.pointer (some ⟨g, 0, none⟩)), none, some (.pointer (some ⟨g, 0, none⟩)), some (.pointer (some ⟨g, 1, none⟩)), none]) ?_ ?_ ?_
    · intro vals
      exact ⟨(Below.refl _ _).drew, HWA.out.c, HWA.out.o, fun h => (by cases h), fun _ => HR.out.below ((Below.refl _ _).drew), fun k h => (by cases h)⟩
    · intro i o L vals x hi hL hdep hC hI
      have hlt : i < 22 := by have := (List.getElem?_eq_some_iff.1 hi).1; simpa using this
      generalize hA : frA _ _ L vals = a'
      have hT0 : a'.tmps.getD 0 undef = .pointer (some ⟨g, 0, none⟩) := by rw [← hA, frA_base (by kernel_rfl)]; rfl
      have hT4 : a'.tmps.getD 4 undef = .slice (some ⟨q0, 0, none⟩) 4 4 := by rw [← hA, frA_base (by kernel_rfl)]; rfl
      have hT5 : a'.tmps.getD 5 undef = .bool k := by rw [← hA, frA_base (by kernel_rfl)]; rfl
      have hD := Lib.hid (fun k t (hk : L k = true) (ht : dstOf _ k = some t) => hA ▸ frA_done (by kernel_rfl) (vals := vals) hk ht)
      clear hA
      have hsz := Nat.le_trans HB.out hI.bl.size
      have c0 := cell_at hI.obj 0
      have c1 := cell_at hI.obj 1
      have f0 := frozen_at hI.obj 0
      have f1 := frozen_at hI.obj 1
      obtain rfl | rfl | rfl | rfl | rfl | rfl | rfl | rfl | rfl | rfl | rfl | rfl | rfl | rfl | rfl | rfl | rfl | rfl | rfl | rfl | rfl | rfl : i = 0 ∨ i = 1 ∨ i = 2 ∨ i = 3 ∨ i = 4 ∨ i = 5 ∨ i = 6 ∨ i = 7 ∨ i = 8 ∨ i = 9 ∨ i = 10 ∨ i = 11 ∨ i = 12 ∨ i = 13 ∨ i = 14 ∨ i = 15 ∨ i = 16 ∨ i = 17 ∨ i = 18 ∨ i = 19 ∨ i = 20 ∨ i = 21 := by omega
      all_goals
        injection hi with hi
        subst hi
        try simp [Region.binds] at hdep
      · skip
        exact step_run rfl (v := .pointer (some ⟨g, 0, none⟩)) (w' := x) (by go_simp) (hI.read (by decide) (by decide) (by decide) (EqV.self rfl))
      · skip
        exact step_run rfl (v := .pointer (some ⟨g, 0, none⟩)) (w' := x) (by go_simp) (hI.read (by decide) (by decide) (by decide) (EqV.self rfl))
      · skip
        exact step_run rfl (v := .pointer (some ⟨g, 0, none⟩)) (w' := x) (by go_simp) (hI.read (by decide) (by decide) (by decide) (EqV.self rfl))
      · skip
        have d13 := hD.out 2 13 (by simp [hdep]) rfl
        rw [show vals 2 = _ from hI.val 2 (by simp [hdep]) _ rfl] at d13
        exact step_run rfl (v := .pointer (some ⟨g, 0, none⟩)) (w' := x) (by go_simp) (hI.read (by decide) (by decide) (by decide) (EqV.self rfl))
      · skip
        have d14 := hD.out 3 14 (by simp [hdep]) rfl
        rw [show vals 3 = _ from hI.val 3 (by simp [hdep]) _ rfl] at d14
        exact step_run rfl (v := .pointer (some ⟨g, 0, none⟩)) (w' := x) (by go_simp) (hI.read (by decide) (by decide) (by decide) (EqV.self rfl))
      · skip
        have d15 := hD.out 4 15 (by simp [hdep]) rfl
        rw [show vals 4 = _ from hI.val 4 (by simp [hdep]) _ rfl] at d15
        have n18 : L 18 = false := by
          cases h : L 18 with
          | false => rfl
          | true => exact absurd (hC.path [18, 7, 5] (by kernel_rfl) 18 rfl h 5 rfl) (by simp [hL])
        rw [n18] at c0
        exact step_run rfl (v := v) (w' := x) (by go_simp) (hI.read (by decide) (by decide) (by decide) (EqV.self rfl))
      · skip
        exact step_run rfl (v := .slice (some ⟨q0, 0, none⟩) 4 4) (w' := x) (by go_simp) (hI.read (by decide) (by decide) (by decide) (EqV.self rfl))
      · skip
        have d16 := hD.out 5 16 (by simp [hdep]) rfl
        have d17 := hD.out 6 17 (by simp [hdep]) rfl
        rw [show vals 6 = _ from hI.val 6 (by simp [hdep]) _ rfl] at d17
        have n18 : L 18 = false := by
          cases h : L 18 with
          | false => rfl
          | true => exact absurd (hC.path [18, 7] (by kernel_rfl) 18 rfl h 7 rfl) (by simp [hL])
        rw [show vals 5 = _ from hI.val 5 (by simp [hdep]) _ rfl] at d16
        have hown := hI.own
        have hobj := hI.obj
        have hne := hI.ne
        rw [hL] at hown hne
        rw [n18] at hobj
        simp only [Bool.false_eq_true, if_false] at hown hobj hne
        refine stepI_own_rowW rfl (.tmp 16) (.tmp 17) rfl B v (nums X) d16 hown (some ⟨q0, 0, none⟩) 4 (nums (r4 n)) d17 (hI.row hL) (by simp) (by rw [nums_length, nums_length]; have := HLX.out; show _ + 4 ≤ _; omega) hsz ?_
        intro v' x' ho' hg'
        refine ⟨hI.bl.grown hg' hsz (fun g hg => hown.lt g hg), ?_, ?_, fun _ => upd_self, fun h => absurd (upd_self.symm.trans h) (by decide), upd_val hI.val (by exact EqV.no rfl)⟩
        · rw [hg'.block g (Array.getElem?_eq_some_iff.1 hobj).1 hne, hobj, upd_same (by decide), n18, upd_same (by decide)]
          simp
        · rw [upd_self, updV_self]
          simp only [if_true]
          rw [nums_append]
          exact ho'
      · skip
        exact step_run rfl (v := .pointer (some ⟨g, 0, none⟩)) (w' := x) (by go_simp) (hI.read (by decide) (by decide) (by decide) (EqV.self rfl))
      · skip
        have d19 := hD.out 8 19 (by simp [hdep]) rfl
        rw [show vals 8 = _ from hI.val 8 (by simp [hdep]) _ rfl] at d19
        exact step_run rfl (v := .pointer (some ⟨g, 0, none⟩)) (w' := x) (by go_simp) (hI.read (by decide) (by decide) (by decide) (EqV.self rfl))
      · skip
        have d20 := hD.out 9 20 (by simp [hdep]) rfl
        rw [show vals 9 = _ from hI.val 9 (by simp [hdep]) _ rfl] at d20
        exact step_run rfl (v := .pointer (some ⟨g, 1, none⟩)) (w' := x) (by go_simp) (hI.read (by decide) (by decide) (by decide) (EqV.self rfl))
      · skip
        have d21 := hD.out 10 21 (by simp [hdep]) rfl
        rw [show vals 10 = _ from hI.val 10 (by simp [hdep]) _ rfl] at d21
        have n21 : L 21 = false := by
          cases h : L 21 with
          | false => rfl
          | true => exact absurd (hC.path [21, 15, 12, 11] (by kernel_rfl) 21 rfl h 11 rfl) (by simp [hL])
        rw [n21] at c1
        exact step_run rfl (v := .bool false) (w' := x) (by go_simp) (hI.read (by decide) (by decide) (by decide) (EqV.self rfl))
      · skip
        have d22 := hD.out 11 22 (by simp [hdep]) rfl
        rw [show vals 11 = _ from hI.val 11 (by simp [hdep]) _ rfl] at d22
        exact step_run rfl (v := .bool false) (w' := x) (by go_simp) (hI.read (by decide) (by decide) (by decide) (EqV.self rfl))
      · skip
        have d23 := hD.out 12 23 (by simp [hdep]) rfl
        rw [show vals 12 = _ from hI.val 12 (by simp [hdep]) _ rfl] at d23
        exact step_run' (wanted_open rfl rfl d23) (v := .bool k) (w' := x) (by go_simp) (hI.read (by decide) (by decide) (by decide) (EqV.self rfl))
      · skip
        have d23 := hD.out 12 23 (by simp [hdep]) rfl
        rw [show vals 12 = _ from hI.val 12 (by simp [hdep]) _ rfl] at d23
        have d24 := hD.out 13 24 (by simp [hdep]) rfl
        rw [show vals 13 = _ from hI.val 13 (by simp [hdep]) _ rfl] at d24
        exact step_run' (wanted_open rfl rfl d23) (v := .bool (!k)) (w' := x) (by go_simp) (hI.read (by decide) (by decide) (by decide) (EqV.self rfl))
      · skip
        have d23 := hD.out 12 23 (by simp [hdep]) rfl
        rw [show vals 12 = _ from hI.val 12 (by simp [hdep]) _ rfl] at d23
        have d25 := hD.out 14 25 (by simp [hdep]) rfl
        rw [show vals 14 = _ from hI.val 14 (by simp [hdep]) _ rfl] at d25
        exact step_run rfl (v := .bool (!k)) (w' := x) (by go_simp) (hI.read (by decide) (by decide) (by decide) (EqV.self rfl))
      · skip
        have d11 := hD.out 0 11 (by simp [hdep]) rfl
        rw [show vals 0 = _ from hI.val 0 (by simp [hdep]) _ rfl] at d11
        exact step_run rfl (v := .pointer (some ⟨g, 0, none⟩)) (w' := x) (by go_simp) (hI.read (by decide) (by decide) (by decide) (EqV.self rfl))
      · skip
        have d27 := hD.out 16 27 (by simp [hdep]) rfl
        rw [show vals 16 = _ from hI.val 16 (by simp [hdep]) _ rfl] at d27
        exact step_run rfl (v := .pointer (some ⟨g, 0, none⟩)) (w' := x) (by go_simp) (hI.read (by decide) (by decide) (by decide) (EqV.self rfl))
      · skip
        have d28 := hD.out 17 28 (by simp [hdep]) rfl
        rw [show vals 17 = _ from hI.val 17 (by simp [hdep]) _ rfl] at d28
        have d18 := hD.out 7 18 (by simp [hdep]) rfl
        have y7 : L 7 = true := by simp [hdep]
        have hown := hI.own
        have hobj := hI.obj
        have hne := hI.ne
        rw [y7] at hown hne
        rw [hL] at hobj
        simp only [Bool.false_eq_true, if_true, if_false] at hown hobj hne
        obtain ⟨q7, c7, e7, -⟩ := own_row hown
        rw [e7] at d18
        refine stepI_skip rfl (w' := x.setCell ⟨g, 0, none⟩ (vals 7)) (by rw [e7]; go_simp) ?_
        refine ⟨hI.bl.setCell (p := ⟨g, 0, none⟩) HWA.out.lo _, ?_, ?_, fun _ => ?_, fun h => absurd (y7.symm.trans ((upd_same (by decide)).symm.trans h)) (by decide), upd_val hI.val (by exact EqV.no rfl)⟩
        · rw [set_at hobj 0 (vals 7), upd_self, upd_same (by decide), updV_same (by decide)]
          simp
        · rw [upd_same (by decide), updV_same (by decide), y7]
          simp only [if_true]
          exact own_set hown hne
        · rw [upd_same (by decide)]; exact y7
      · skip
        have d12 := hD.out 1 12 (by simp [hdep]) rfl
        rw [show vals 1 = _ from hI.val 1 (by simp [hdep]) _ rfl] at d12
        exact step_run rfl (v := .pointer (some ⟨g, 0, none⟩)) (w' := x) (by go_simp) (hI.read (by decide) (by decide) (by decide) (EqV.self rfl))
      · skip
        have d29 := hD.out 19 29 (by simp [hdep]) rfl
        rw [show vals 19 = _ from hI.val 19 (by simp [hdep]) _ rfl] at d29
        exact step_run rfl (v := .pointer (some ⟨g, 1, none⟩)) (w' := x) (by go_simp) (hI.read (by decide) (by decide) (by decide) (EqV.self rfl))
      · skip
        have d30 := hD.out 20 30 (by simp [hdep]) rfl
        rw [show vals 20 = _ from hI.val 20 (by simp [hdep]) _ rfl] at d30
        have d26 := hD.out 15 26 (by simp [hdep]) rfl
        rw [show vals 15 = _ from hI.val 15 (by simp [hdep]) _ rfl] at d26
        have hobj := hI.obj
        rw [hL] at hobj
        simp only [Bool.false_eq_true, if_false] at hobj
        refine stepI_skip rfl (w' := x.setCell ⟨g, 1, none⟩ (.bool (!k))) (by go_simp) ?_
        refine ⟨hI.bl.setCell (p := ⟨g, 1, none⟩) HWA.out.lo _, ?_, ?_, ?_, fun h => (hI.row ((upd_same (by decide)).symm.trans h)).kept (Kept.set (F := fun j => j = g) _ rfl) (fun b hb he => by injection hb with hb; have := HGQ.out; simp only at hb; omega), upd_val hI.val (by exact EqV.no rfl)⟩
        · rw [set_at hobj 1 (.bool (!k)), upd_self, upd_same (by decide), updV_same (by decide)]
          simp
        · rw [upd_same (by decide), updV_same (by decide)]
          exact own_set hI.own hI.ne
        · rw [upd_same (by decide), upd_same (by decide)]; exact hI.ord
    · intro vals x hI
      have h1 := hI.obj
      have h2 := hI.own
      simp only [List.length_cons, List.length_nil, Nat.reduceAdd, Nat.reduceLT, decide_true, if_true] at h1 h2
      have HP := Lib.hid (show Wrote w B g X false 4 (0 ≤ n ∧ n < 268435456) (be4 n.toNat) x from ⟨⟨vals 7, X ++ r4 n, _, ⟨h1, HWA.out.lo, h2⟩, by rw [List.length_append]; exact Nat.le_refl _, fun hb => by
        have hkk : k = true := by cases k <;> simp_all
        rw [hkk, decide_eq_true_eq] at HK
        exact ⟨by simp_all, HK.out, by rw [r4_be n HK.out]⟩⟩, (HBW.out.mono HB0.out).trans hI.bl⟩)
      clear h1 h2 hI
      simp only [putsL, Act.put, List.setIfInBounds_toArray, List.set_cons_zero, List.set_cons_succ]
      go_wp2_with fail
      exact bodyPost_end (v := .tuple #[]) (by simp [results, Try.results31]) rfl ⟨rfl, HP.out⟩

end Go.Proofs.Ytfadpiipigkocaa
namespace Go.Proofs.Ytfadpiipigkocaa
open Go.RowKit Go.Gz

/-- append of a string onto a row that the call owns. -/
theorem wpList_own_strW {w : World} {ops : Array Oper} {rest : List Oper} {o : Oper} {a : Act} {Q : Exit → Act → World → Prop} (hgd : o.guard = none) (sl x : Operand)
    (ho : o.op = .call { callee := .builtin .append, args := #[sl, x], argTypes := #[50, 9] })
    (B : Nat) (v : Value) (l : List UInt8) (hs : a.eval sl = v) (hown : Own w B 5 .u8 v (nums l)) (s : List UInt8) (hx : a.eval x = .string (strB s)) (hlen : l.length + s.length ≤ 140737488355328) (hB : B ≤ w.heap.size)
    (hK : ∀ v' w', Own w' B 5 .u8 v' (nums (l ++ s)) → w.grownBy w' v.ownBlock → wpList Try.prog ops Q rest (a.put o.dst v') w') : wpList Try.prog ops Q (o :: rest) a w := by
  obtain ⟨i0, hi, hz0, hz1, hz2⟩ := info_parts info_byte
  have hn : (nums l).length = l.length := nums_length l
  refine Lib.wpList_append_own_string w hgd sl x 50 9 ho B 5 i0 Try.underlying50 Try.underlying9 hi hz0 hz1 hz2 v (nums l).length ((nums l).map (Value.int .u8)) hs hown (strB s) hx (by rw [strB_size]; unfold maxLen; omega) (by rw [strB_size]; omega) hB ?_
  intro v' w' h1 h2 _
  refine hK v' w' ?_ h2
  unfold Own
  have hlen2 : (nums (l ++ s)).length = (nums l).length + (strB s).size := by rw [nums_append, List.length_append, nums_length s, strB_size]
  have hmap : (nums (l ++ s)).map (Value.int .u8) = (nums l).map (Value.int .u8) ++ Lib.strCells (strB s) := by rw [nums_append, List.map_append, cells_strB]
  rw [hlen2, hmap]
  exact h1

/-- a writer: at most lim bytes; where no number was none: just Y. -/
def WrS (w : World) (B g lim : Nat) (ok : Prop) (Y : List UInt8) : Prop := ∃ v Z b, WrAt w B g v Z b ∧ Z.length ≤ lim ∧ (b = false → ok ∧ Z = Y)
theorem WrS.below {w w' : World} {B g lim : Nat} {ok : Prop} {Y : List UInt8} (h : WrS w B g lim ok Y) (hb : Below w.heap.size w w') : WrS w' B g lim ok Y := by
  obtain ⟨v, Z, b, h1, h2⟩ := h
  exact ⟨v, Z, b, h1.below hb, h2⟩
theorem wrs_num {w : World} {B g lim : Nat} {ok : Prop} {Y : List UInt8} (h : WrS w B g lim ok Y) (hB : B ≤ w.heap.size) (hl : lim ≤ 100000000000000) (n : Int) :
    Calls Try.prog 31 #[.pointer (some ⟨g, 0, none⟩), .int .i64 n] w fun e w' => e = .returned (.tuple #[]) ∧ WrS w' B g (lim + 4) (ok ∧ 0 ≤ n ∧ n < 268435456) (Y ++ be4 n.toNat) ∧ Below B w w' := by
  obtain ⟨v, Z, b, h1, h2, h3⟩ := h
  refine (wnum_any w B g v Z b n h1 hB (by omega)).mono ?_
  rintro e w' ⟨rfl, ⟨⟨v', Z', b', k1, k2, k3⟩, k4⟩⟩
  refine ⟨rfl, ⟨v', Z', b', k1, by omega, fun hb => ?_⟩, k4⟩
  obtain ⟨e1, e2, e3⟩ := k3 hb
  obtain ⟨e4, e5⟩ := h3 e1
  exact ⟨⟨e4, e2⟩, by rw [e3, e5]⟩

set_option maxHeartbeats 4000000 in
set_option maxRecDepth 100000 in
theorem wrs_text {w : World} {B g lim : Nat} {ok : Prop} {Y : List UInt8} (h : WrS w B g lim ok Y) (hB : B ≤ w.heap.size) (s : List UInt8) (hl : lim + 4 + s.length ≤ 100000000000000) :
    Calls Try.prog 32 #[.pointer (some ⟨g, 0, none⟩), .string (strB s)] w fun e w' => e = .returned (.tuple #[]) ∧ WrS w' B g (lim + 4 + s.length) (ok ∧ s.length < 268435456) (Y ++ encT s) ∧ Below B w w' := by
  have hsz := strB_size s
  have C := Lib.hid (wrs_num h hB (by omega) ((strB s).size : Int))
  have HSZ := Lib.hid hsz
  have HB := Lib.hid hB
  have HL := Lib.hid hl
  clear h hB hl hsz
  go_enter Try.func32, Try.ntmps32
  go_wp2_with fail
  refine C.out.mono ?_
  rintro e w1 ⟨rfl, ⟨v, Z, b, h1, h2, h3⟩, hb1⟩
  obtain ⟨q, c, rfl, -⟩ := own_row h1.o
  obtain ⟨N, hN⟩ : ∃ N, (nums Z).length = N := ⟨_, rfl⟩
  rw [hN] at h1
  have c0 := cell_at h1.c 0
  have HA := Lib.hid (And.intro h1 (And.intro h2 (And.intro h3 hb1)))
  clear h1 h2 h3 hb1 hN
  go_wp2_with (at_builtin; refine wpList_own_strW rfl _ _ rfl B _ Z rfl HA.out.1.o s rfl (by have := HL.out; have := HA.out.2.1; omega) (Nat.le_trans HB.out HA.out.2.2.2.size) ?_)
  intro v' w2 hown hgrow
  have hbl : Below B w1 w2 := (Below.refl _ _).grown hgrow (Nat.le_trans HB.out HA.out.2.2.2.size) (fun j hj => HA.out.1.o.lt j hj)
  have h5 : w2.heap[g]? = some (.cells #[.slice q N c, .bool b] 80 (0, 0)) := by
    rw [hgrow.block g (Array.getElem?_eq_some_iff.1 HA.out.1.c).1 HA.out.1.ne]; exact HA.out.1.c
  obtain ⟨q', c', rfl, -⟩ := own_row hown
  obtain ⟨N', hN'⟩ : ∃ N, (nums (Z ++ s)).length = N := ⟨_, rfl⟩
  rw [hN'] at hown ⊢
  clear hN'
  have c5 := cell_at h5 0
  have f5 := frozen_at h5 0
  have h6 := set_at h5 0 (.slice q' N' c')
  have HP := Lib.hid (show WrS (w2.setCell ⟨g, 0, none⟩ (.slice q' N' c')) B g (lim + 4 + s.length) (ok ∧ s.length < 268435456) (Y ++ encT s) ∧ Below B w (w2.setCell ⟨g, 0, none⟩ (.slice q' N' c')) from by
    refine ⟨⟨_, Z ++ s, b, ⟨h6, HA.out.1.lo, own_set hown ?_⟩, ?_, fun hb => ?_⟩, (HA.out.2.2.2.trans hbl).setCell (p := ⟨g, 0, none⟩) HA.out.1.lo _⟩
    · intro e
      obtain ⟨cs, fz, hc⟩ := hown.type g e.symm
      rw [h5] at hc
      simp at hc
    · rw [List.length_append]; have := HA.out.2.1; omega
    · obtain ⟨⟨e1, e2, e3⟩, e4⟩ := HA.out.2.2.1 hb
      rw [HSZ.out] at e2 e3 e4
      refine ⟨⟨e1, by omega⟩, ?_⟩
      rw [e4, Int.toNat_natCast]
      unfold encT
      rw [List.append_assoc])
  clear hown hgrow hbl h5 h6
  go_wp2_with fail
  exact bodyPost_end (v := .tuple #[]) (by simp [results, Try.results32]) rfl ⟨rfl, HP.out⟩

theorem wpList_own_pushW {P : Program} {w : World} {ops : Array Oper} {rest : List Oper} {o : Oper} {a : Act} {Q : Exit → Act → World → Prop}
    (hg : o.guard = none) (s x : Operand) (t : TypeId) (hop : o.op = Op.call { callee := Callee.builtin Builtin.append, args := #[s, x], argTypes := #[t, t] })
    (e : TypeId) (k : IntKind) (bytes : Nat) (h1 : P.underlying t = some (.slice e)) (hinfo : (P.info? e).map (fun i => (i.zero, i.size, i.bytes)) = some (some (.int k 0), 1, bytes)) (hby : bytes ≤ 8)
    (B : Nat) (v : Value) (xs : List Int) (hs : a.eval s = v) (hown : Own w B e k v xs)
    (G m c : Nat) (ys : List Int) (hx : a.eval x = .slice (some ⟨G, 0, none⟩) m c) (hn : ys.length = m) (hc : ∀ j, j < m → w.cell? ⟨G, j, none⟩ = some (.int k (ys.getD j 0)))
    (hlen : xs.length + m ≤ 17592186044416) (hB : B ≤ w.heap.size)
    (hK : ∀ v' w', Own w' B e k v' (xs ++ ys) → w.grownBy w' v.ownBlock → wpList P ops Q rest (a.put o.dst v') w') :
    wpList P ops Q (o :: rest) a w := by
  obtain ⟨i0, hi, hz0, hz1, hz2⟩ := info_parts hinfo
  subst hn
  refine wpList_append_own w hg s x t hop B e i0 (.int k 0) 1 bytes h1 hi hz0 hz1 hz2 rfl (by decide) v xs.length (xs.map (Value.int k)) hs hown ⟨G, 0, none⟩ ys.length c (ys.map (Value.int k)) hx (by simp) ?_ ?_ (by unfold maxLen; omega) ?_ hB ?_
  · intro j u hj
    obtain ⟨hj', rfl⟩ := List.getElem?_eq_some_iff.1 hj
    simp only [List.length_map] at hj'
    rw [Addr.add_lit, Nat.zero_add, hc j hj']
    simp [List.getD, hj']
  · intro u hu
    obtain ⟨y, _, rfl⟩ := List.mem_map.1 hu
    rfl
  · have : (xs.length + ys.length) * bytes ≤ (xs.length + ys.length) * 8 := Nat.mul_le_mul_left _ hby
    omega
  · intro v' w' ho hgr _
    refine hK v' w' ?_ hgr
    unfold Own
    rw [List.length_append, List.map_append]
    exact ho

set_option maxHeartbeats 4000000 in
set_option maxRecDepth 100000 in
theorem wrs_truth {w : World} {B g lim : Nat} {ok : Prop} {Y : List UInt8} (h : WrS w B g lim ok Y) (hB : B ≤ w.heap.size) (x : Bool) (hl : lim + 1 ≤ 10000000000000) :
    Calls Try.prog 33 #[.pointer (some ⟨g, 0, none⟩), .bool x] w fun e w' => e = .returned (.tuple #[]) ∧ WrS w' B g (lim + 1) ok (Y ++ encB x) ∧ Below B w w' := by
  cases x
  · obtain ⟨v, Z, b, h1, h2, h3⟩ := h
    obtain ⟨q, c, rfl, -⟩ := own_row h1.o
    obtain ⟨N, hN⟩ : ∃ N, (nums Z).length = N := ⟨_, rfl⟩
    rw [hN] at h1
    have hbW : Below w.heap.size w (w.alloc (.cells #[.int .u8 0] 5)) := (Below.refl _ _).alloc (Nat.le_refl _) _
    have hA1 := h1.below hbW
    have c0 := cell_at h1.c 0
    have c1 := cell_at hA1.c 0
    have HA := Lib.hid (And.intro hA1 (And.intro h2 (And.intro h3 hbW)))
    have HB := Lib.hid hB
    have HL := Lib.hid hl
    clear h1 h2 h3 hbW hA1 hN hB hl
    go_enter Try.func33, Try.ntmps33
    go_wp2_with (at_builtin; refine wpList_own_pushW rfl _ _ 50 rfl 5 .u8 1 Try.underlying50 info_byte (by decide) B _ (nums Z) rfl HA.out.1.o w.heap.size 1 1 [0] rfl rfl (fun j hj => by obtain rfl : j = 0 := (by omega); rw [World.cell?_alloc_new]; rfl) (by rw [nums_length]; have := HL.out; have := HA.out.2.1; omega) (Nat.le_trans HB.out HA.out.2.2.2.size) ?_)
    intro v' w2 hown hgrow
    have hbl : Below B (w.alloc (.cells #[.int .u8 0] 5)) w2 := (Below.refl _ _).grown hgrow (Nat.le_trans HB.out HA.out.2.2.2.size) (fun j hj => HA.out.1.o.lt j hj)
    have h5 : w2.heap[g]? = some (.cells #[.slice q N c, .bool b] 80 (0, 0)) := by
      rw [hgrow.block g (Array.getElem?_eq_some_iff.1 HA.out.1.c).1 HA.out.1.ne]; exact HA.out.1.c
    obtain ⟨q', c', rfl, -⟩ := own_row hown
    obtain ⟨N', hN'⟩ : ∃ N, (nums Z ++ [0]).length = N := ⟨_, rfl⟩
    rw [hN'] at hown ⊢
    clear hN'
    have c5 := cell_at h5 0
    have f5 := frozen_at h5 0
    have h6 := set_at h5 0 (.slice q' N' c')
    have HP := Lib.hid (show WrS (w2.setCell ⟨g, 0, none⟩ (.slice q' N' c')) B g (lim + 1) ok (Y ++ encB false) ∧ Below B w (w2.setCell ⟨g, 0, none⟩ (.slice q' N' c')) from by
      refine ⟨⟨_, Z ++ [0], b, ⟨h6, HA.out.1.lo, own_set (show Own _ _ _ _ _ (nums (Z ++ [0])) by rw [nums_append]; exact hown) ?_⟩, ?_, fun hb => ?_⟩, ((HA.out.2.2.2.mono HB.out).trans hbl).setCell (p := ⟨g, 0, none⟩) HA.out.1.lo _⟩
      · intro e
        obtain ⟨cs, fz, hc⟩ := hown.type g e.symm
        rw [h5] at hc
        simp at hc
      · rw [List.length_append]; have := HA.out.2.1; show _ + 1 ≤ _; omega
      · obtain ⟨e1, e4⟩ := HA.out.2.2.1 hb
        exact ⟨e1, by rw [e4]; rfl⟩)
    clear hown hgrow hbl h5 h6
    go_wp2_with fail
    exact bodyPost_end (v := .tuple #[]) (by simp [results, Try.results33]) rfl ⟨rfl, HP.out⟩
  · obtain ⟨v, Z, b, h1, h2, h3⟩ := h
    obtain ⟨q, c, rfl, -⟩ := own_row h1.o
    obtain ⟨N, hN⟩ : ∃ N, (nums Z).length = N := ⟨_, rfl⟩
    rw [hN] at h1
    have hbW : Below w.heap.size w (w.alloc (.cells #[.int .u8 1] 5)) := (Below.refl _ _).alloc (Nat.le_refl _) _
    have hA1 := h1.below hbW
    have c0 := cell_at h1.c 0
    have c1 := cell_at hA1.c 0
    have HA := Lib.hid (And.intro hA1 (And.intro h2 (And.intro h3 hbW)))
    have HB := Lib.hid hB
    have HL := Lib.hid hl
    clear h1 h2 h3 hbW hA1 hN hB hl
    go_enter Try.func33, Try.ntmps33
    go_wp2_with (at_builtin; refine wpList_own_pushW rfl _ _ 50 rfl 5 .u8 1 Try.underlying50 info_byte (by decide) B _ (nums Z) rfl HA.out.1.o w.heap.size 1 1 [1] rfl rfl (fun j hj => by obtain rfl : j = 0 := (by omega); rw [World.cell?_alloc_new]; rfl) (by rw [nums_length]; have := HL.out; have := HA.out.2.1; omega) (Nat.le_trans HB.out HA.out.2.2.2.size) ?_)
    intro v' w2 hown hgrow
    have hbl : Below B (w.alloc (.cells #[.int .u8 1] 5)) w2 := (Below.refl _ _).grown hgrow (Nat.le_trans HB.out HA.out.2.2.2.size) (fun j hj => HA.out.1.o.lt j hj)
    have h5 : w2.heap[g]? = some (.cells #[.slice q N c, .bool b] 80 (0, 0)) := by
      rw [hgrow.block g (Array.getElem?_eq_some_iff.1 HA.out.1.c).1 HA.out.1.ne]; exact HA.out.1.c
    obtain ⟨q', c', rfl, -⟩ := own_row hown
    obtain ⟨N', hN'⟩ : ∃ N, (nums Z ++ [1]).length = N := ⟨_, rfl⟩
    rw [hN'] at hown ⊢
    clear hN'
    have c5 := cell_at h5 0
    have f5 := frozen_at h5 0
    have h6 := set_at h5 0 (.slice q' N' c')
    have HP := Lib.hid (show WrS (w2.setCell ⟨g, 0, none⟩ (.slice q' N' c')) B g (lim + 1) ok (Y ++ encB true) ∧ Below B w (w2.setCell ⟨g, 0, none⟩ (.slice q' N' c')) from by
      refine ⟨⟨_, Z ++ [1], b, ⟨h6, HA.out.1.lo, own_set (show Own _ _ _ _ _ (nums (Z ++ [1])) by rw [nums_append]; exact hown) ?_⟩, ?_, fun hb => ?_⟩, ((HA.out.2.2.2.mono HB.out).trans hbl).setCell (p := ⟨g, 0, none⟩) HA.out.1.lo _⟩
      · intro e
        obtain ⟨cs, fz, hc⟩ := hown.type g e.symm
        rw [h5] at hc
        simp at hc
      · rw [List.length_append]; have := HA.out.2.1; show _ + 1 ≤ _; omega
      · obtain ⟨e1, e4⟩ := HA.out.2.2.1 hb
        exact ⟨e1, by rw [e4]; rfl⟩)
    clear hown hgrow hbl h5 h6
    go_wp2_with fail
    exact bodyPost_end (v := .tuple #[]) (by simp [results, Try.results33]) rfl ⟨rfl, HP.out⟩
end Go.Proofs.Ytfadpiipigkocaa
namespace Go.Proofs.Ytfadpiipigkocaa
open Go.RowKit Go.Gz

theorem num_step {Y : List UInt8} {n : Int} (h : 0 ≤ n ∧ n < 268435456) (hl : (Y ++ be4 n.toNat).length ≤ 32768) : numS 32768 (some Y) n = some (Y ++ be4 n.toNat) := by
  unfold numS
  rw [if_pos (by omega)]
  rw [List.length_append] at hl
  exact if_pos hl
theorem text_step {Y s : List UInt8} (h : s.length < 268435456) (hl : (Y ++ encT s).length ≤ 32768) : textS 32768 (some Y) s = some (Y ++ encT s) := by
  unfold encT at hl ⊢
  unfold textS
  rw [List.length_append, List.length_append] at hl
  have := num_step (Y := Y) (n := (s.length : Int)) (by omega) (by rw [List.length_append, Int.toNat_natCast]; omega)
  rw [Int.toNat_natCast] at this
  rw [this]
  show (if (Y ++ be4 s.length).length + s.length ≤ 32768 then _ else _) = _
  rw [if_pos (by rw [List.length_append]; omega), List.append_assoc]
theorem len_left {X Y : List UInt8} {n : Nat} (h : (X ++ Y).length ≤ n) : X.length ≤ n := by rw [List.length_append] at h; omega
theorem askS_some {a : AskL} (h : (((((((True ∧ 0 ≤ a.d ∧ a.d < 268435456) ∧ 0 ≤ a.c ∧ a.c < 268435456) ∧ 0 ≤ a.s ∧ a.s < 268435456) ∧ 0 ≤ a.m ∧ a.m < 268435456) ∧ a.t.length < 268435456) ∧ a.v.length < 268435456) ∧ a.f.length < 268435456) ∧ a.u.length < 268435456)
    (hl : (([] : List UInt8) ++ be4 a.d.toNat ++ be4 a.c.toNat ++ be4 a.s.toNat ++ be4 a.m.toNat ++ encT a.t ++ encT a.v ++ encT a.f ++ encT a.u).length ≤ 32768) : (askS a).isSome = true := by
  obtain ⟨⟨⟨⟨⟨⟨⟨⟨_, h1⟩, h2⟩, h3⟩, h4⟩, h5⟩, h6⟩, h7⟩, h8⟩ := h
  have l7 := len_left hl
  have l6 := len_left l7
  have l5 := len_left l6
  have l4 := len_left l5
  have l3 := len_left l4
  have l2 := len_left l3
  have l1 := len_left l2
  unfold askS textsS numsS
  simp only [List.foldl_cons, List.foldl_nil]
  rw [num_step h1 l1, num_step h2 l2, num_step h3 l3, num_step h4 l4, text_step h5 l5, text_step h6 l6, text_step h7 l7, text_step h8 hl]
  rfl

set_option maxHeartbeats 4000000 in
set_option maxRecDepth 100000 in
theorem refAsk_ok (a : AskL) (w : World) (hl : a.t.length + a.v.length + a.f.length + a.u.length ≤ 1000000000000) :
    Calls Try.prog 17 #[askV a] w fun e w' => ∃ v er, e = .returned (.tuple #[v, .int .i64 er]) ∧ (er = 0 ∨ er = 1) ∧ (er = 0 → (askS a).isSome = true) ∧ Below w.heap.size w w' := by
  obtain ⟨w0, hw0⟩ : ∃ w0, w.alloc (.cells (askCells a) 23) = w0 := ⟨_, rfl⟩
  obtain ⟨W, hW⟩ : ∃ W, w0.alloc (.cells #[.slice none 0 0, .bool false] 80) = W := ⟨_, rfl⟩
  have hb0 : Below w.heap.size w w0 := hw0 ▸ (Below.refl _ _).alloc (Nat.le_refl _) _
  have hz0 : w0.heap.size = w.heap.size + 1 := by rw [← hw0]; simp
  have hb1 : Below w0.heap.size w0 W := hW ▸ (Below.refl _ _).alloc (Nat.le_refl _) _
  have hzW : W.heap.size = w.heap.size + 2 := by rw [← hW]; simp [hz0]
  obtain ⟨g, hg⟩ : ∃ g, w.heap.size + 1 = g := ⟨_, rfl⟩
  obtain ⟨b0, hb⟩ : ∃ b, w.heap.size = b := ⟨_, rfl⟩
  have HC := Lib.hid (show ∀ wr, Below g W wr → ∀ i, wr.cell? ⟨b0, i, none⟩ = (askCells a)[i]? from fun wr h i => by
    have k := (hb1.mono (Nat.le_refl _)).trans (show Below w0.heap.size W wr by rw [hz0, hg]; exact h)
    rw [← hb]
    exact box_cells (by rw [hw0, ← hz0]; exact k) i)
  have HS0 := Lib.hid (show WrS W g g 0 True [] from ⟨.slice none 0 0, [], false, ⟨by rw [← hW, ← hg, ← hz0]; exact new_block _ _ _, Nat.le_refl _, Own.nil _ _ _ _⟩, Nat.le_refl _, fun _ => ⟨trivial, rfl⟩⟩)
  have HGW := Lib.hid (show g ≤ W.heap.size by omega)
  have HBW := Lib.hid (show Below w.heap.size w W from hb0.trans (hb1.mono (by omega)))
  have HG := Lib.hid (show w.heap.size ≤ g by omega)
  have HL := Lib.hid hl
  have HW := Lib.hid (And.intro hw0 hW)
  have HB0 := Lib.hid (And.intro hb (And.intro hg hz0))
  clear hw0 hW hb0 hb1 hz0 hzW hg hb hl
  unfold askV
  go_enter Try.func17, Try.ntmps17
  go_upto_region 2 with fail
  unfold askCells at HW
  rw [HW.out.1, HW.out.2, HB0.out.2.1, HB0.out.1]
  have HB_0 := Lib.hid (Below.refl g W)
  have c0 := HC.out W HB_0.out 0
  rw [show (askCells a)[0]? = some (.int .i64 a.d) from rfl] at c0
  have C1 := Lib.hid (wrs_num HS0.out (Nat.le_trans HGW.out HB_0.out.size) (by have := HL.out; omega) a.d)
  go_wp2_with fail
  refine C1.out.mono ?_
  rintro e w1 ⟨rfl, hs1, hb1⟩
  have HS1 := Lib.hid hs1
  have HB_1 := Lib.hid (HB_0.out.trans hb1)
  clear hs1 hb1 c0
  have c1 := HC.out w1 HB_1.out 1
  rw [show (askCells a)[1]? = some (.int .i64 a.c) from rfl] at c1
  have C2 := Lib.hid (wrs_num HS1.out (Nat.le_trans HGW.out HB_1.out.size) (by have := HL.out; omega) a.c)
  go_wp2_with fail
  refine C2.out.mono ?_
  rintro e w2 ⟨rfl, hs2, hb2⟩
  have HS2 := Lib.hid hs2
  have HB_2 := Lib.hid (HB_1.out.trans hb2)
  clear hs2 hb2 c1
  have c2 := HC.out w2 HB_2.out 2
  rw [show (askCells a)[2]? = some (.int .i64 a.s) from rfl] at c2
  have C3 := Lib.hid (wrs_num HS2.out (Nat.le_trans HGW.out HB_2.out.size) (by have := HL.out; omega) a.s)
  go_wp2_with fail
  refine C3.out.mono ?_
  rintro e w3 ⟨rfl, hs3, hb3⟩
  have HS3 := Lib.hid hs3
  have HB_3 := Lib.hid (HB_2.out.trans hb3)
  clear hs3 hb3 c2
  have c7 := HC.out w3 HB_3.out 7
  rw [show (askCells a)[7]? = some (.int .i64 a.m) from rfl] at c7
  have C4 := Lib.hid (wrs_num HS3.out (Nat.le_trans HGW.out HB_3.out.size) (by have := HL.out; omega) a.m)
  go_wp2_with fail
  refine C4.out.mono ?_
  rintro e w4 ⟨rfl, hs4, hb4⟩
  have HS4 := Lib.hid hs4
  have HB_4 := Lib.hid (HB_3.out.trans hb4)
  clear hs4 hb4 c7
  have c3 := HC.out w4 HB_4.out 3
  rw [show (askCells a)[3]? = some (.string (strB a.t)) from rfl] at c3
  have C5 := Lib.hid (wrs_text HS4.out (Nat.le_trans HGW.out HB_4.out.size) a.t (by have := HL.out; omega))
  go_wp2_with fail
  refine C5.out.mono ?_
  rintro e w5 ⟨rfl, hs5, hb5⟩
  have HS5 := Lib.hid hs5
  have HB_5 := Lib.hid (HB_4.out.trans hb5)
  clear hs5 hb5 c3
  have c4 := HC.out w5 HB_5.out 4
  rw [show (askCells a)[4]? = some (.string (strB a.v)) from rfl] at c4
  have C6 := Lib.hid (wrs_text HS5.out (Nat.le_trans HGW.out HB_5.out.size) a.v (by have := HL.out; omega))
  go_wp2_with fail
  refine C6.out.mono ?_
  rintro e w6 ⟨rfl, hs6, hb6⟩
  have HS6 := Lib.hid hs6
  have HB_6 := Lib.hid (HB_5.out.trans hb6)
  clear hs6 hb6 c4
  have c5 := HC.out w6 HB_6.out 5
  rw [show (askCells a)[5]? = some (.string (strB a.f)) from rfl] at c5
  have C7 := Lib.hid (wrs_text HS6.out (Nat.le_trans HGW.out HB_6.out.size) a.f (by have := HL.out; omega))
  go_wp2_with fail
  refine C7.out.mono ?_
  rintro e w7 ⟨rfl, hs7, hb7⟩
  have HS7 := Lib.hid hs7
  have HB_7 := Lib.hid (HB_6.out.trans hb7)
  clear hs7 hb7 c5
  have c6 := HC.out w7 HB_7.out 6
  rw [show (askCells a)[6]? = some (.string (strB a.u)) from rfl] at c6
  have C8 := Lib.hid (wrs_text HS7.out (Nat.le_trans HGW.out HB_7.out.size) a.u (by have := HL.out; omega))
  go_wp2_with fail
  refine C8.out.mono ?_
  rintro e w8 ⟨rfl, hs8, hb8⟩
  have HS8 := Lib.hid hs8
  have HB_8 := Lib.hid (HB_7.out.trans hb8)
  clear hs8 hb8 c6
  obtain ⟨v, Z, b, h1, h2, h3⟩ := HS8.out
  obtain ⟨q, c, rfl, -⟩ := own_row h1.o
  obtain ⟨N, hN⟩ : ∃ N, (nums Z).length = N := ⟨_, rfl⟩
  rw [hN] at h1
  have c0 := cell_at h1.c 0
  have c1 := cell_at h1.c 1
  have HZ := Lib.hid (And.intro hN h3)
  have HBE := Lib.hid (HBW.out.trans (HB_8.out.mono HG.out))
  clear h1 h2 h3 hN
  cases b with
  | true =>
    go_wp2_with fail
    go_ret2
    exact ⟨_, 1, rfl, Or.inr rfl, fun h => (by cases h), HBE.out⟩
  | false =>
    by_cases hgt : 32768 < N
    · have hgz : (32768 : Int) < (N : Int) := by omega
      go_wp2_with fail
      go_ret2
      exact ⟨_, 1, rfl, Or.inr rfl, fun h => (by cases h), HBE.out⟩
    · have hgz : ¬ (32768 : Int) < (N : Int) := by omega
      go_wp2_with fail
      go_ret2
      refine ⟨_, 0, rfl, Or.inl rfl, fun _ => ?_, HBE.out⟩
      obtain ⟨h4, h5⟩ := HZ.out.2 (by simp)
      exact askS_some h4 (by rw [← h5]; have := HZ.out.1; rw [nums_length] at this; omega)
end Go.Proofs.Ytfadpiipigkocaa
namespace Go.Proofs.Ytfadpiipigkocaa
open Go.RowKit Go.Gz

theorem truth_step {Y : List UInt8} {x : Bool} (hl : (Y ++ encB x).length ≤ 32768) : truthS 32768 (some Y) x = some (Y ++ encB x) := by
  rw [List.length_append] at hl
  unfold truthS
  cases x <;> exact if_pos hl
def encRs (ls : List RecL) : List UInt8 := ls.flatMap fun x => encT x.1 ++ encT x.2
def okRs (ls : List RecL) : Prop := ∀ x ∈ ls, x.1.length < 268435456 ∧ x.2.length < 268435456
theorem encRs_snoc {ls : List RecL} {k : Nat} (h : k < ls.length) : encRs (ls.take (k + 1)) = encRs (ls.take k) ++ encT (ls.getD k ([], [])).1 ++ encT (ls.getD k ([], [])).2 := by
  unfold encRs
  rw [List.take_succ_eq_append_getElem h, List.flatMap_append]
  simp [List.getD, h]
theorem okRs_snoc {ls : List RecL} {k : Nat} (h : k < ls.length) (h1 : okRs (ls.take k)) (h2 : (ls.getD k ([], [])).1.length < 268435456) (h3 : (ls.getD k ([], [])).2.length < 268435456) : okRs (ls.take (k + 1)) := by
  intro x hx
  rw [List.take_succ_eq_append_getElem h, List.mem_append] at hx
  rcases hx with hx | hx
  · exact h1 x hx
  · have e : x = ls.getD k ([], []) := by simpa [List.getD, h] using hx
    rw [e]; exact ⟨h2, h3⟩
theorem recsS_step : ∀ (ls : List RecL) (Y : List UInt8), okRs ls → (Y ++ encRs ls).length ≤ 32768 → recsS (some Y) ls = some (Y ++ encRs ls)
  | [], Y, _, _ => by simp [recsS, encRs]
  | x :: ls, Y, h, hl => by
    have e : encRs (x :: ls) = encT x.1 ++ encT x.2 ++ encRs ls := by unfold encRs; rw [List.flatMap_cons]
    rw [e, ← List.append_assoc, ← List.append_assoc] at hl ⊢
    have hx := h x (List.mem_cons_self ..)
    have l2 := len_left hl
    have l1 := len_left l2
    have ih := recsS_step ls (Y ++ encT x.1 ++ encT x.2) (fun y hy => h y (List.mem_cons_of_mem _ hy)) hl
    show recsS (textsS 32768 (some Y) [x.1, x.2]) ls = _
    unfold textsS
    simp only [List.foldl_cons, List.foldl_nil]
    rw [text_step hx.1 l1, text_step hx.2 l2]
    exact ih
/-- how long records are. -/
def szRs (ls : List RecL) : Nat := ls.foldr (fun x n => 8 + x.1.length + x.2.length + n) 0
theorem szRs_take : ∀ (ls : List RecL) (k : Nat), k < ls.length → szRs (ls.take k) + (8 + (ls.getD k ([], [])).1.length + (ls.getD k ([], [])).2.length) ≤ szRs ls
  | [], _, h => by simp at h
  | x :: ls, 0, _ => by show 0 + (8 + x.1.length + x.2.length) ≤ 8 + x.1.length + x.2.length + szRs ls; omega
  | x :: ls, k + 1, h => by
    have := szRs_take ls k (by simpa using h)
    show 8 + x.1.length + x.2.length + szRs (ls.take k) + (8 + (ls.getD k ([], [])).1.length + (ls.getD k ([], [])).2.length) ≤ 8 + x.1.length + x.2.length + szRs ls
    omega
theorem szRs_succ (ls : List RecL) (k : Nat) (h : k < ls.length) : szRs (ls.take (k + 1)) = szRs (ls.take k) + (8 + (ls.getD k ([], [])).1.length + (ls.getD k ([], [])).2.length) := by
  have key : ∀ (l : List RecL) (x : RecL), szRs (l ++ [x]) = szRs l + (8 + x.1.length + x.2.length) := fun l x => by
    induction l with
    | nil => show 8 + x.1.length + x.2.length + 0 = 0 + _; omega
    | cons y l ih =>
      show 8 + y.1.length + y.2.length + szRs (l ++ [x]) = 8 + y.1.length + y.2.length + szRs l + _
      rw [ih]; omega
  rw [List.take_succ_eq_append_getElem h, key]
  simp [List.getD, h]
theorem repS_some {r : RepL} (h : (((((True ∧ 0 ≤ r.c ∧ r.c < 268435456) ∧ 0 ≤ r.s ∧ r.s < 268435456) ∧ 0 ≤ r.e ∧ r.e < 268435456) ∧ r.v.length < 268435456) ∧ 0 ≤ (r.ls.length : Int) ∧ (r.ls.length : Int) < 268435456)) (h2 : okRs r.ls) (h3 : r.nx.length < 268435456)
    (hl : (([] : List UInt8) ++ be4 r.c.toNat ++ be4 r.s.toNat ++ be4 r.e.toNat ++ encB r.fd ++ encT r.v ++ be4 (r.ls.length : Int).toNat ++ encRs r.ls ++ encT r.nx ++ encB r.mr).length ≤ 32768) : (repS r).isSome = true := by
  obtain ⟨⟨⟨⟨⟨_, k1⟩, k2⟩, k3⟩, k4⟩, k5⟩ := h
  have l8 := len_left hl
  have l7 := len_left l8
  have l6 := len_left l7
  have l5 := len_left l6
  have l4 := len_left l5
  have l3 := len_left l4
  have l2 := len_left l3
  have l1 := len_left l2
  unfold repS repS0 textsS numsS
  simp only [List.foldl_cons, List.foldl_nil]
  rw [num_step k1 l1, num_step k2 l2, num_step k3 l3, truth_step l4, text_step k4 l5, num_step k5 l6, recsS_step _ _ h2 l7, text_step h3 l8, truth_step hl]
  rfl
def repCells (r : RepL) (p : Option Addr) (k : Nat) : Array Value := #[.int .i64 r.c, .int .i64 r.s, .int .i64 r.e, .bool r.fd, .string (strB r.v), .slice p r.ls.length k, .string (strB r.nx), .bool r.mr]

set_option maxHeartbeats 8000000 in
set_option maxRecDepth 100000 in
theorem refReply_ok (r : RepL) (p : Option Addr) (cap : Nat) (w : World) (hp : Recs w p r.ls) (hl : r.v.length + r.nx.length + szRs r.ls ≤ 1000000000000) (hls : r.ls.length ≤ 1000000) :
    Calls Try.prog 18 #[repV r p cap] w fun e w' => ∃ v er, e = .returned (.tuple #[v, .int .i64 er]) ∧ (er = 0 ∨ er = 1) ∧ (er = 0 → (repS r).isSome = true) ∧ Below w.heap.size w w' := by
  obtain ⟨w0, hw0⟩ : ∃ w0, w.alloc (.cells (repCells r p cap) 27) = w0 := ⟨_, rfl⟩
  obtain ⟨W, hW⟩ : ∃ W, w0.alloc (.cells #[.slice none 0 0, .bool false] 80) = W := ⟨_, rfl⟩
  have hb0 : Below w.heap.size w w0 := hw0 ▸ (Below.refl _ _).alloc (Nat.le_refl _) _
  have hz0 : w0.heap.size = w.heap.size + 1 := by rw [← hw0]; simp
  have hb1 : Below w0.heap.size w0 W := hW ▸ (Below.refl _ _).alloc (Nat.le_refl _) _
  have hzW : W.heap.size = w.heap.size + 2 := by rw [← hW]; simp [hz0]
  obtain ⟨g, hg⟩ : ∃ g, w.heap.size + 1 = g := ⟨_, rfl⟩
  obtain ⟨b0, hb⟩ : ∃ b, w.heap.size = b := ⟨_, rfl⟩
  have HC := Lib.hid (show ∀ wr, Below g W wr → ∀ i, wr.cell? ⟨b0, i, none⟩ = (repCells r p cap)[i]? from fun wr h i => by
    have k := (hb1.mono (Nat.le_refl _)).trans (show Below w0.heap.size W wr by rw [hz0, hg]; exact h)
    rw [← hb]
    exact box_cells (by rw [hw0, ← hz0]; exact k) i)
  have HS0 := Lib.hid (show WrS W g g 0 True [] from ⟨.slice none 0 0, [], false, ⟨by rw [← hW, ← hg, ← hz0]; exact new_block _ _ _, Nat.le_refl _, Own.nil _ _ _ _⟩, Nat.le_refl _, fun _ => ⟨trivial, rfl⟩⟩)
  have HGW := Lib.hid (show g ≤ W.heap.size by omega)
  have HBW := Lib.hid (show Below w.heap.size w W from hb0.trans (hb1.mono (by omega)))
  have HG := Lib.hid (show w.heap.size ≤ g by omega)
  have HL := Lib.hid hl
  have HLS := Lib.hid hls
  have HP := Lib.hid hp
  have HW := Lib.hid (And.intro hw0 hW)
  have HB0 := Lib.hid (And.intro hb (And.intro hg hz0))
  clear hw0 hW hb0 hb1 hz0 hzW hg hb hl hls hp
  unfold repV
  go_enter Try.func18, Try.ntmps18
  go_upto_region 2 with fail
  unfold repCells at HW
  rw [HW.out.1, HW.out.2, HB0.out.2.1, HB0.out.1]
  have HB_0 := Lib.hid (Below.refl g W)
  have c0 := HC.out W HB_0.out 0
  rw [show (repCells r p cap)[0]? = some (.int .i64 r.c) from rfl] at c0
  have C1 := Lib.hid (wrs_num HS0.out (Nat.le_trans HGW.out HB_0.out.size) (by have := HL.out; have := HLS.out; omega) r.c)
  go_wp2_with fail
  refine C1.out.mono ?_
  rintro e w1 ⟨rfl, hs1, hb1⟩
  have HS1 := Lib.hid hs1
  have HB_1 := Lib.hid (HB_0.out.trans hb1)
  clear hs1 hb1 c0
  have c1 := HC.out w1 HB_1.out 1
  rw [show (repCells r p cap)[1]? = some (.int .i64 r.s) from rfl] at c1
  have C2 := Lib.hid (wrs_num HS1.out (Nat.le_trans HGW.out HB_1.out.size) (by have := HL.out; have := HLS.out; omega) r.s)
  go_wp2_with fail
  refine C2.out.mono ?_
  rintro e w2 ⟨rfl, hs2, hb2⟩
  have HS2 := Lib.hid hs2
  have HB_2 := Lib.hid (HB_1.out.trans hb2)
  clear hs2 hb2 c1
  have c2 := HC.out w2 HB_2.out 2
  rw [show (repCells r p cap)[2]? = some (.int .i64 r.e) from rfl] at c2
  have C3 := Lib.hid (wrs_num HS2.out (Nat.le_trans HGW.out HB_2.out.size) (by have := HL.out; have := HLS.out; omega) r.e)
  go_wp2_with fail
  refine C3.out.mono ?_
  rintro e w3 ⟨rfl, hs3, hb3⟩
  have HS3 := Lib.hid hs3
  have HB_3 := Lib.hid (HB_2.out.trans hb3)
  clear hs3 hb3 c2
  have c3 := HC.out w3 HB_3.out 3
  rw [show (repCells r p cap)[3]? = some (.bool r.fd) from rfl] at c3
  have C4 := Lib.hid (wrs_truth HS3.out (Nat.le_trans HGW.out HB_3.out.size) r.fd (by have := HL.out; have := HLS.out; omega))
  go_wp2_with fail
  refine C4.out.mono ?_
  rintro e w4 ⟨rfl, hs4, hb4⟩
  have HS4 := Lib.hid hs4
  have HB_4 := Lib.hid (HB_3.out.trans hb4)
  clear hs4 hb4 c3
  have c4 := HC.out w4 HB_4.out 4
  rw [show (repCells r p cap)[4]? = some (.string (strB r.v)) from rfl] at c4
  have C5 := Lib.hid (wrs_text HS4.out (Nat.le_trans HGW.out HB_4.out.size) r.v (by have := HL.out; have := HLS.out; omega))
  go_wp2_with fail
  refine C5.out.mono ?_
  rintro e w5 ⟨rfl, hs5, hb5⟩
  have HS5 := Lib.hid hs5
  have HB_5 := Lib.hid (HB_4.out.trans hb5)
  clear hs5 hb5 c4
  have c5 := HC.out w5 HB_5.out 5
  rw [show (repCells r p cap)[5]? = some (.slice p r.ls.length cap) from rfl] at c5
  have C6 := Lib.hid (wrs_num HS5.out (Nat.le_trans HGW.out HB_5.out.size) (by have := HL.out; have := HLS.out; omega) (r.ls.length : Int))
  go_wp2_with fail
  refine C6.out.mono ?_
  rintro e w6 ⟨rfl, hs6, hb6⟩
  have HS6 := Lib.hid hs6
  have HB_6 := Lib.hid (HB_5.out.trans hb6)
  clear hs6 hb6 c5
  have HS6' := Lib.hid (show WrS w6 g g (100 + r.v.length + szRs (r.ls.take 0)) _ _ from by
    obtain ⟨v, Z, b, h1, h2, h3⟩ := HS6.out
    exact ⟨v, Z, b, h1, by show _ ≤ 100 + r.v.length + 0; omega, h3⟩)
  obtain ⟨OK, hOK⟩ : ∃ OK, (((((True ∧ 0 ≤ r.c ∧ r.c < 268435456) ∧ 0 ≤ r.s ∧ r.s < 268435456) ∧ 0 ≤ r.e ∧ r.e < 268435456) ∧ r.v.length < 268435456) ∧ 0 ≤ (r.ls.length : Int) ∧ (r.ls.length : Int) < 268435456) = OK := ⟨_, rfl⟩
  obtain ⟨Y0, hY0⟩ : ∃ Y, (([] : List UInt8) ++ be4 r.c.toNat ++ be4 r.s.toNat ++ be4 r.e.toNat ++ encB r.fd ++ encT r.v ++ be4 (r.ls.length : Int).toNat) = Y := ⟨_, rfl⟩
  rw [hOK, hY0] at HS6'
  have HOY := Lib.hid (And.intro hOK hY0)
  clear hOK hY0 HS6
  obtain ⟨n, hn⟩ : ∃ n, r.ls.length = n := ⟨_, rfl⟩
  have HN := Lib.hid hn
  have hnz : (n : Int) ≤ 1000000 := by have := HLS.out; omega
  go_wp2_with fail
  go_loopw [5] (fun i wr => ∃ k : Nat, k ≤ n ∧ i = .int .i64 k ∧ Hid (WrS wr g g (100 + r.v.length + szRs (r.ls.take k)) (OK ∧ okRs (r.ls.take k)) (Y0 ++ encRs (r.ls.take k)) ∧ Below g W wr)) (fun i _ => n - (RowKit.intOf i).toNat)
  case atStart =>
    refine ⟨0, Nat.zero_le _, rfl, Lib.hid ⟨?_, HB_6.out⟩⟩
    obtain ⟨v, Z, b, h1, h2, h3⟩ := HS6'.out
    exact ⟨v, Z, b, h1, h2, fun hb => ⟨⟨(h3 hb).1, fun x hx => by simp at hx⟩, by rw [(h3 hb).2]; simp [encRs]⟩⟩
  case round =>
    obtain ⟨k, hk, rfl, HK⟩ := hrel
    have c5 := HC.out wr HK.out.2 5
    rw [show (repCells r p cap)[5]? = some (.slice p r.ls.length cap) from rfl, HN.out] at c5
    by_cases hlt : k < n
    · have hltz : (k : Int) < (n : Int) := by omega
      obtain ⟨b, o, hpe, hbl, r1, r2⟩ := rec_cell HP.out (HBW.out.trans (HK.out.2.mono HG.out)) (show k < r.ls.length by rw [HN.out]; exact hlt)
      rw [hpe] at c5
      have hklt : k < r.ls.length := by rw [HN.out]; exact hlt
      have hrc : ∀ w', Below g W w' → w'.cell? ⟨b, o + k * 2, none⟩ = some (.string (strB (r.ls.getD k ([], [])).1)) ∧ w'.cell? ⟨b, o + k * 2 + 1, none⟩ = some (.string (strB (r.ls.getD k ([], [])).2)) ∧ w'.cell? ⟨b0, 5, none⟩ = some (.slice (some ⟨b, o, none⟩) n cap) := fun w' h => by
        obtain ⟨b', o', hpe', _, r1', r2'⟩ := rec_cell HP.out (HBW.out.trans (h.mono HG.out)) hklt
        rw [hpe] at hpe'
        injection hpe' with e
        injection e with e1 e2 _
        subst e1
        subst e2
        exact ⟨r1', r2', by have := HC.out w' h 5; rw [show (repCells r p cap)[5]? = some (.slice p r.ls.length cap) from rfl, HN.out, hpe] at this; exact this⟩
      have HST := Lib.hid (szRs_take r.ls k hklt)
      have HS6 := Lib.hid HK.out.1
      have HB_6 := Lib.hid HK.out.2
      have HSN := Lib.hid (And.intro (encRs_snoc hklt) (And.intro (szRs_succ r.ls k hklt) (fun h1 h2 h3 => okRs_snoc hklt h1 h2 h3)))
      clear hklt r1 r2 HS6' hpe
      obtain ⟨x1, hx1⟩ : ∃ x, (r.ls.getD k ([], [])).1 = x := ⟨_, rfl⟩
      obtain ⟨x2, hx2⟩ : ∃ x, (r.ls.getD k ([], [])).2 = x := ⟨_, rfl⟩
      rw [hx1, hx2] at HST HSN
      rw [hx1, hx2] at hrc
      have HRC := Lib.hid hrc
      clear hx1 hx2 hrc
      have hr1 := (HRC.out wr HK.out.2).1
      have hbl' := (HRC.out wr HK.out.2).2.2
      have C7 := Lib.hid (wrs_text HS6.out (Nat.le_trans HGW.out HB_6.out.size) x1 (by have := HL.out; have := HST.out; omega))
      go_wp2_with fail
      refine C7.out.mono ?_
      rintro e w7 ⟨rfl, hs7, hb7⟩
      have HS7 := Lib.hid hs7
      have HB_7 := Lib.hid (HB_6.out.trans hb7)
      clear hs7 hb7 hr1 c5 hbl'
      have hr2 := (HRC.out w7 HB_7.out).2.1
      have c5 := (HRC.out w7 HB_7.out).2.2
      have C8 := Lib.hid (wrs_text HS7.out (Nat.le_trans HGW.out HB_7.out.size) x2 (by have := HL.out; have := HST.out; omega))
      go_wp2_with fail
      refine C8.out.mono ?_
      rintro e w8 ⟨rfl, hs8, hb8⟩
      have HS8 := Lib.hid hs8
      have HB_8 := Lib.hid (HB_7.out.trans hb8)
      clear hs8 hb8 hr2 c5
      go_wp2_with fail
      go_roundw
      case rel =>
        refine ⟨k + 1, by omega, by go_num, Lib.hid ⟨?_, HB_8.out⟩⟩
        obtain ⟨v, Z, q, h1, h2, h3⟩ := HS8.out
        refine ⟨v, Z, q, h1, by rw [HSN.out.2.1]; omega, fun hb => ?_⟩
        obtain ⟨⟨⟨⟨k1, k2⟩, k3⟩, k4⟩, k5⟩ := h3 hb
        exact ⟨⟨k1, HSN.out.2.2 k2 k3 k4⟩, by rw [k5, HSN.out.1]; simp only [List.append_assoc]⟩
      case measure => simp [RowKit.intOf]; omega
    · obtain rfl : k = n := by omega
      have hltz : ¬ (k : Int) < (k : Int) := by omega
      have HKK := Lib.hid (show WrS wr g g (100 + r.v.length + szRs r.ls) (OK ∧ okRs r.ls) (Y0 ++ encRs r.ls) by
        have := HK.out.1
        rw [← HN.out, List.take_length] at this
        exact this)
      have HB_8 := Lib.hid HK.out.2
      have c6 := HC.out wr HB_8.out 6
      rw [show (repCells r p cap)[6]? = some (.string (strB r.nx)) from rfl] at c6
      have C9 := Lib.hid (wrs_text HKK.out (Nat.le_trans HGW.out HB_8.out.size) r.nx (by have := HL.out; omega))
      go_wp2_with fail
      refine C9.out.mono ?_
      rintro e w9 ⟨rfl, hs9, hb9⟩
      have HS9 := Lib.hid hs9
      have HB_9 := Lib.hid (HB_8.out.trans hb9)
      clear hs9 hb9 c6 c5
      have c7 := HC.out w9 HB_9.out 7
      rw [show (repCells r p cap)[7]? = some (.bool r.mr) from rfl] at c7
      have C10 := Lib.hid (wrs_truth HS9.out (Nat.le_trans HGW.out HB_9.out.size) r.mr (by have := HL.out; omega))
      go_wp2_with fail
      refine C10.out.mono ?_
      rintro e w10 ⟨rfl, hs10, hb10⟩
      have HS10 := Lib.hid hs10
      have HB_10 := Lib.hid (HB_9.out.trans hb10)
      clear hs10 hb10 c7
      obtain ⟨v, Z, b, h1, h2, h3⟩ := HS10.out
      obtain ⟨q, c, rfl, -⟩ := own_row h1.o
      obtain ⟨N, hN⟩ : ∃ N, (nums Z).length = N := ⟨_, rfl⟩
      rw [hN] at h1
      have c0 := cell_at h1.c 0
      have c1 := cell_at h1.c 1
      have HZ := Lib.hid (And.intro hN h3)
      have HBE := Lib.hid (HBW.out.trans (HB_10.out.mono HG.out))
      clear h1 h2 h3 hN
      cases b with
      | true =>
        go_wp2_with fail
        go_ret2
        exact ⟨_, 1, rfl, Or.inr rfl, fun h => (by cases h), HBE.out⟩
      | false =>
        by_cases hgt : 32768 < N
        · have hgz : (32768 : Int) < (N : Int) := by omega
          go_wp2_with fail
          go_ret2
          exact ⟨_, 1, rfl, Or.inr rfl, fun h => (by cases h), HBE.out⟩
        · have hgz : ¬ (32768 : Int) < (N : Int) := by omega
          go_wp2_with fail
          go_ret2
          refine ⟨_, 0, rfl, Or.inl rfl, fun _ => ?_, HBE.out⟩
          obtain ⟨⟨⟨h4, h5⟩, h6⟩, h7⟩ := HZ.out.2 (by simp)
          rw [← HOY.out.1] at h4
          rw [← HOY.out.2] at h7
          exact repS_some h4 h5 h6 (by rw [← h7]; have := HZ.out.1; rw [nums_length] at this; omega)
end Go.Proofs.Ytfadpiipigkocaa
