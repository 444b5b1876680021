/-
  Several texts in one: RegMono, ByBase, ByCat.
-/
import Derived.Test.YtbhojddakmgdmaaMg09
import Derived.Test.YtbhojddakmgdmaaMg02
import Derived.Lib.AppendZerosOnto
import Derived.Lib.Walk
namespace Go.Gz
open Go.RowKit

theorem wp_region_gen {P : Program} {id : Nat} {a : Act} {w : World} {l : List Oper} {Q : Exit → Act → World → Prop} (hm : P.follows .mixedOrders = true) (hB : invB l.toArray a.tmps.size = true)
    (V : Nat → Value → World → Prop) (J : (Nat → Bool) → World → Prop) (h0 : J (fun _ => false) w.drew)
    (hstep : ∀ i o L vals w', l[i]? = some o → L i = false → (∀ e ∈ o.after, Region.binds .any e = true → L e.on = true) → Closed l L → J L w' → (∀ k, L k = true → V k (vals k) w') →
      StepI P l.toArray Q i o (frA a l.toArray L vals) w' fun v w'' => V i v w'' ∧ J (updL L i) w'' ∧ ∀ k u, L k = true → V k u w' → V k u w'')
    (hend : ∀ vals w', J (fun i => decide (i < l.length)) w' → (∀ k, k < l.length → V k (vals k) w') → Q .normal (putsL vals l 0 a) w') : (Code.region id l.toArray true).wp P Q a w := by
  refine wp_region_invC hm hB (fun L vals w => J L w ∧ ∀ k, L k = true → V k (vals k) w) (fun vals => ⟨h0, fun k h => by cases h⟩) (fun i o L vals w' hi hL hdep hC hI K hK => ?_)
    (fun vals w' hI => hend vals w' hI.1 fun k hk => hI.2 k (by simpa using hk))
  refine hstep i o L vals w' hi hL hdep hC hI.1 hI.2 K fun v w'' ⟨h1, h2, h3⟩ => hK v w'' ⟨h2, fun k hk => ?_⟩
  unfold updL at hk
  unfold updV
  by_cases e : k = i
  · subst e; rw [if_pos rfl]; exact h1
  · rw [if_neg e] at hk; rw [if_neg e]; exact h3 k _ hk (hI.2 k hk)

/-- what a value is, in whatever world it stays so that grows. -/
structure VP where
  f : Value → World → Prop
  hf : ∀ v w w', f v w → Below w.heap.size w w' → f v w'
def VP.eq (x : Value) : VP := ⟨fun v _ => v = x, fun _ _ _ h _ => h⟩
def VP.any : VP := ⟨fun _ _ => True, fun _ _ _ h _ => h⟩

def VP.at (vs : List VP) (i : Nat) : VP := (vs[i]?).getD VP.any

theorem wp_region_mono {P : Program} {id : Nat} {a : Act} {w : World} {l : List Oper} {Q : Exit → Act → World → Prop} (hm : P.follows .mixedOrders = true) (hB : invB l.toArray a.tmps.size = true)
    (vs : List VP)
    (hstep : ∀ i o L vals w', l[i]? = some o → L i = false → (∀ e ∈ o.after, Region.binds .any e = true → L e.on = true) → Closed l L → Below w.heap.size w w' → (∀ k, L k = true → (VP.at vs k).f (vals k) w') →
      StepI P l.toArray Q i o (frA a l.toArray L vals) w' fun v w'' => (VP.at vs i).f v w'' ∧ Below w'.heap.size w' w'')
    (hend : ∀ vals w', Below w.heap.size w w' → (∀ k, k < l.length → (VP.at vs k).f (vals k) w') → Q .normal (putsL vals l 0 a) w') : (Code.region id l.toArray true).wp P Q a w := by
  refine wp_region_gen hm hB (fun i v w => (VP.at vs i).f v w) (fun _ w' => Below w.heap.size w w') (Below.refl _ _).drew ?_ hend
  intro i o L vals w' hi hL hdep hC hJ hV K hK
  refine hstep i o L vals w' hi hL hdep hC hJ hV K fun v w'' ⟨h1, h2⟩ => hK v w'' ⟨h1, hJ.trans (h2.mono hJ.size), fun k u _ h => (VP.at vs k).hf u w' w'' h h2⟩

/-- .. of values that are known whatever the world is. -/
def EqV (vs : List (Option Value)) (i : Nat) (v : Value) : Prop := ∀ x, vs[i]? = some (some x) → v = x

theorem wp_region_state {P : Program} {id : Nat} {a : Act} {w : World} {l : List Oper} {Q : Exit → Act → World → Prop} (hm : P.follows .mixedOrders = true) (hB : invB l.toArray a.tmps.size = true)
    (vs : List (Option Value)) (J : (Nat → Bool) → World → Prop) (h0 : J (fun _ => false) w.drew)
    (hstep : ∀ i o L vals w', l[i]? = some o → L i = false → (∀ e ∈ o.after, Region.binds .any e = true → L e.on = true) → Closed l L → J L w' → (∀ k, L k = true → EqV vs k (vals k)) →
      StepI P l.toArray Q i o (frA a l.toArray L vals) w' fun v w'' => EqV vs i v ∧ J (updL L i) w'')
    (hend : ∀ vals w', J (fun i => decide (i < l.length)) w' → (∀ k, k < l.length → EqV vs k (vals k)) → Q .normal (putsL vals l 0 a) w') : (Code.region id l.toArray true).wp P Q a w := by
  refine wp_region_gen hm hB (fun i v _ => EqV vs i v) J h0 ?_ hend
  intro i o L vals w' hi hL hdep hC hJ hV K hK
  exact hstep i o L vals w' hi hL hdep hC hJ hV K fun v w'' ⟨h1, h2⟩ => hK v w'' ⟨h1, h2, fun _ _ _ h => h⟩

theorem EqV.of {vs : List (Option Value)} {i : Nat} {v x : Value} (h : EqV vs i v) (e : vs[i]? = some (some x)) : v = x := h x e
theorem EqV.self {vs : List (Option Value)} {i : Nat} {v : Value} (e : vs[i]? = some (some v)) : EqV vs i v := fun x hx => by
  rw [e] at hx
  exact Option.some.inj (Option.some.inj hx)
theorem EqV.no {vs : List (Option Value)} {i : Nat} {v : Value} (e : vs[i]? = some none) : EqV vs i v := fun x hx => by
  rw [e] at hx
  cases hx
theorem EqV.mk {vs : List (Option Value)} {i : Nat} {v : Value} (h : ∀ x, vs[i]? = some (some x) → v = x) : EqV vs i v := h

/-- a way of operations each of which waits for the next. -/
def pathB (l : List Oper) : List Nat → Bool
  | [] => true
  | [_] => true
  | a :: b :: r => ((l[a]?).map fun o => o.after.any fun e => Region.binds .any e && e.on == b).getD false && pathB l (b :: r)
theorem Closed.path {l : List Oper} {L : Nat → Bool} (hC : Closed l L) : ∀ (ps : List Nat), pathB l ps = true → ∀ a, ps.head? = some a → L a = true → ∀ b, ps.getLast? = some b → L b = true
  | [], _, a, ha, _, _, _ => by cases ha
  | [x], _, a, ha, h, b, hb => by
    simp only [List.head?_cons, Option.some.injEq] at ha
    simp only [List.getLast?_singleton, Option.some.injEq] at hb
    rw [← hb, ha]; exact h
  | x :: y :: r, hp, a, ha, h, b, hb => by
    simp only [List.head?_cons, Option.some.injEq] at ha
    unfold pathB at hp
    rw [Bool.and_eq_true] at hp
    obtain ⟨h1, h2⟩ := hp
    cases ho : l[x]? with
    | none => rw [ho] at h1; simp at h1
    | some o =>
      rw [ho] at h1
      simp only [Option.map_some, Option.getD_some, Array.any_eq_true', Bool.and_eq_true, beq_iff_eq] at h1
      obtain ⟨e, he, hb1, hb2⟩ := h1
      have hy := hC x o ho (by rw [ha]; exact h) e he hb1
      rw [hb2] at hy
      exact Closed.path hC (y :: r) h2 y rfl hy b (by rw [← hb]; simp)

theorem yielded_of {ops : Array Oper} {tmps : Array Value} {j : Nat} {t : Tmp} {b : Bool} (hd : dstOf ops j = some t) (ht : tmps.getD t undef = .bool b) : yielded ops tmps j = some b := by
  unfold yielded
  unfold dstOf at hd
  rw [hd, Option.bind_some]
  rw [Array.getD_eq_getD_getElem?] at ht
  cases h : tmps[t]? with
  | none => rw [h] at ht; cases ht
  | some v => rw [h] at ht; rw [show v = .bool b from ht]
theorem wanted_open {o : Oper} {ops : Array Oper} {tmps : Array Value} {j : Nat} {t : Tmp} {b : Bool} (hg : o.guard = some (j, b)) (hd : dstOf ops j = some t) (ht : tmps.getD t undef = .bool b) : Region.wanted o (yielded ops tmps) = true := by
  unfold Region.wanted
  rw [hg]
  simp [yielded_of hd ht]
theorem wanted_shut {o : Oper} {ops : Array Oper} {tmps : Array Value} {j : Nat} {t : Tmp} {b b' : Bool} (hg : o.guard = some (j, b)) (hd : dstOf ops j = some t) (ht : tmps.getD t undef = .bool b') (hne : b' ≠ b) : Region.wanted o (yielded ops tmps) = false := by
  unfold Region.wanted
  rw [hg]
  simp [yielded_of hd ht, hne]

theorem wanted_undef {o : Oper} {ops : Array Oper} {tmps : Array Value} {j : Nat} {t : Tmp} {b : Bool} (hg : o.guard = some (j, b)) (hd : dstOf ops j = some t) (ht : tmps.getD t undef = undef) : Region.wanted o (yielded ops tmps) = false := by
  unfold Region.wanted
  rw [hg]
  have hy : yielded ops tmps j = none := by
    unfold yielded
    unfold dstOf at hd
    rw [hd, Option.bind_some]
    rw [Array.getD_eq_getD_getElem?] at ht
    cases h : tmps[t]? with
    | none => rfl
    | some v => rw [h] at ht; rw [show v = undef from ht]; rfl
  simp [hy]

/-- an operation behind a guard that does not hold. -/
theorem step_shut {P : Program} {ops : Array Oper} {Q : Exit → Act → World → Prop} {i : Nat} {o : Oper} {a : Act} {w : World} {J : Value → World → Prop} (hg : Region.wanted o (yielded ops a.tmps) = false) (hJ : J undef w) : StepI P ops Q i o a w J := by
  intro K hK
  rw [hg]
  simpa using hK undef w hJ
/-- an operation behind a guard that holds. -/
theorem step_run' {P : Program} {ops : Array Oper} {Q : Exit → Act → World → Prop} {i : Nat} {o : Oper} {a : Act} {w w' : World} {J : Value → World → Prop} {v : Value} (hg : Region.wanted o (yielded ops a.tmps) = true)
    (hr : (execOp a.eval o).run P w = .ok (.value v) w') (hJ : J v w') : StepI P ops Q i o a w J := by
  intro K hK
  rw [if_pos hg]
  unfold Oper.wp
  rw [hr]
  exact hK v w' hJ
theorem step_enter' {P : Program} {ops : Array Oper} {Q : Exit → Act → World → Prop} {i : Nat} {o : Oper} {a : Act} {w w' : World} {J : Value → World → Prop} {f : FuncId} {args : Array Value} (hg : Region.wanted o (yielded ops a.tmps) = true)
    (hr : (execOp a.eval o).run P w = .ok (.enter f args) w') (hC : Calls P f args w' fun e w'' => ∃ v, e = .returned v ∧ J v w'') : StepI P ops Q i o a w J := by
  intro K hK
  rw [if_pos hg]
  unfold Oper.wp
  rw [hr]
  refine hC.mono ?_
  rintro e w'' ⟨v, rfl, hJ⟩
  exact hK v w'' hJ
theorem stepI_skip' {P : Program} {ops : Array Oper} {Q : Exit → Act → World → Prop} {i : Nat} {o : Oper} {a : Act} {w w' : World} {J : Value → World → Prop} (hg : Region.wanted o (yielded ops a.tmps) = true)
    (hr : (execOp a.eval o).run P w = .ok .skip w') (hJ : J undef w') : StepI P ops Q i o a w J := by
  intro K hK
  rw [if_pos hg]
  unfold Oper.wp
  rw [hr]
  exact hK undef w' hJ
end Go.Gz
namespace Go.Proofs.Ytbhojddakmgdmaa
open Go.RowKit Go.Gz

theorem row_take {w : World} {p : Option Addr} {l : List UInt8} (h : Row w .u8 p (nums l)) (k : Nat) : Row w .u8 p (nums (l.take k)) := by
  rcases h with h | ⟨b, o, hp, hlt, hc⟩
  · refine Or.inl ?_
    rw [nums_take, h, List.take_nil]
  · refine Or.inr ⟨b, o, hp, hlt, fun j hj => ?_⟩
    rw [nums_length, List.length_take] at hj
    rw [hc j (by rw [nums_length]; omega), nums_getD _ _ (by omega), nums_getD _ _ (by rw [List.length_take]; omega)]
    simp [List.getD, show j < k by omega]
theorem own_mono {w : World} {B B' : Nat} {e : TypeId} {k : IntKind} {v : Value} {xs : List Int} (h : Own w B e k v xs) (hB : B' ≤ B) : Own w B' e k v xs := by
  obtain ⟨h1, h2⟩ := h
  refine ⟨h1, ?_⟩
  rcases h2 with h2 | ⟨g, cap, cur, e, hg, r⟩
  · exact Or.inl h2
  · exact Or.inr ⟨g, cap, cur, e, by omega, r⟩
def ownVP (B : Nat) (l : List UInt8) : VP := ⟨fun v w => Own w B 5 .u8 v (nums l), fun _ _ _ h hb => below_own h hb⟩

theorem own_empty8 (w : World) (B : Nat) (hB : B ≤ w.heap.size) : Own (w.alloc (.cells #[] 5)) B 5 .u8 (.slice (some ⟨w.heap.size, 0, none⟩) 0 0) [] :=
  World.ownsRow_made w #[] 0 hB (by unfold maxLen; omega) rfl
end Go.Proofs.Ytbhojddakmgdmaa
namespace Go.Proofs.Ytbhojddakmgdmaa
open Go.RowKit Go.Gz

def RetOwn (w : World) (l : List UInt8) (e : Ending) (w' : World) : Prop := ∃ v, e = .returned v ∧ Own w' w.heap.size 5 .u8 v (nums l) ∧ Below w.heap.size w w'
def CcR (A B : List UInt8) (k : Nat) (l : List UInt8) : Prop := (k = 0 ∧ l = []) ∨ (k = 1 ∧ l = A) ∨ (k = 2 ∧ l = A ++ B)

end Go.Proofs.Ytbhojddakmgdmaa
