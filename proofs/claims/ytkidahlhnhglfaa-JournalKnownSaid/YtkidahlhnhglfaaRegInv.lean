/-
  A region that draws its order, by an invariant: one proof for each operation, none for an order.
-/
import Derived.Test.YtkidahlhnhglfaaRows2
import Derived.Orders
namespace Go.Gz

def dstOf (ops : Array Oper) (i : Nat) : Option Tmp := (ops[i]?).bind (·.dst)
/-- no two operations yield into one slot; each waits for earlier ones alone; all slots are in the frame. -/
def invB (ops : Array Oper) (m : Nat) : Bool :=
  (List.range ops.size).all fun i => ((List.range ops.size).all fun j => i == j || match dstOf ops i, dstOf ops j with | some a, some b => a != b | _, _ => true) &&
    (match dstOf ops i with | some d => decide (d < m) | none => true) && ((ops[i]?).map fun o => o.after.all fun e => !(Region.binds .any e) || decide (e.on < i)).getD true
/-- the operation that has yielded into slot j. -/
def whoAt (ops : Array Oper) (L : Nat → Bool) (j : Nat) : Option Nat := (List.range ops.size).find? fun i => L i && (dstOf ops i == some j)
/-- the frame behind the operations of L, which yielded vals. -/
def frA (base : Act) (ops : Array Oper) (L : Nat → Bool) (vals : Nat → Value) : Act :=
  { base with tmps := base.tmps.mapIdx fun j x => match whoAt ops L j with | some i => vals i | none => x }
def updV (vals : Nat → Value) (i : Nat) (v : Value) : Nat → Value := fun j => if j = i then v else vals j
def updL (L : Nat → Bool) (i : Nat) : Nat → Bool := fun j => if j = i then true else L j

theorem whoAt_some {ops : Array Oper} {L : Nat → Bool} {j i : Nat} (h : whoAt ops L j = some i) : i < ops.size ∧ L i = true ∧ dstOf ops i = some j := by
  have h1 := List.find?_some h
  have h2 := List.mem_of_find?_eq_some h
  simp only [Bool.and_eq_true, beq_iff_eq] at h1
  exact ⟨List.mem_range.1 h2, h1.1, h1.2⟩
theorem dst_lt {ops : Array Oper} {i : Nat} {d : Tmp} (h : dstOf ops i = some d) : i < ops.size := by
  unfold dstOf at h
  cases h1 : ops[i]? with
  | none => rw [h1] at h; cases h
  | some o => exact (Array.getElem?_eq_some_iff.1 h1).1
theorem invB_apart {ops : Array Oper} {m : Nat} (h : invB ops m = true) {i j : Nat} {d : Tmp} (hi : dstOf ops i = some d) (hj : dstOf ops j = some d) : i = j := by
  unfold invB at h
  rw [List.all_eq_true] at h
  have h1 := h i (List.mem_range.2 (dst_lt hi))
  simp only [Bool.and_eq_true, List.all_eq_true] at h1
  have h2 := h1.1.1 j (List.mem_range.2 (dst_lt hj))
  rw [hi, hj] at h2
  simpa using h2
theorem invB_lt {ops : Array Oper} {m : Nat} (h : invB ops m = true) {i : Nat} {d : Tmp} (hi : dstOf ops i = some d) : d < m := by
  unfold invB at h
  rw [List.all_eq_true] at h
  have h1 := h i (List.mem_range.2 (dst_lt hi))
  simp only [Bool.and_eq_true] at h1
  have h2 := h1.1.2
  rw [hi] at h2
  simpa using h2
theorem invB_back {ops : Array Oper} {m : Nat} (h : invB ops m = true) {i : Nat} {o : Oper} (hi : ops[i]? = some o) : ∀ e ∈ o.after, Region.binds .any e = true → e.on < i := by
  unfold invB at h
  rw [List.all_eq_true] at h
  have h1 := h i (List.mem_range.2 (Array.getElem?_eq_some_iff.1 hi).1)
  simp only [Bool.and_eq_true] at h1
  have h2 := h1.2
  rw [hi] at h2
  simp only [Option.map_some, Option.getD_some] at h2
  intro e he hb
  have h3 := Array.all_eq_true_iff_forall_mem.1 h2 e he
  rw [hb] at h3
  exact of_decide_eq_true (by simpa using h3)
theorem whoAt_of {ops : Array Oper} {m : Nat} (h : invB ops m = true) {L : Nat → Bool} {j i : Nat} (hL : L i = true) (hd : dstOf ops i = some j) : whoAt ops L j = some i := by
  cases hw : whoAt ops L j with
  | some k =>
    obtain ⟨_, _, h3⟩ := whoAt_some hw
    rw [invB_apart h h3 hd]
  | none =>
    unfold whoAt at hw
    rw [List.find?_eq_none] at hw
    have := hw i (List.mem_range.2 (dst_lt hd))
    rw [hL, hd] at this
    simp at this
theorem whoAt_upd {ops : Array Oper} {L : Nat → Bool} {i j : Nat} (hd : dstOf ops i ≠ some j) : whoAt ops (updL L i) j = whoAt ops L j := by
  unfold whoAt
  congr 1
  funext k
  unfold updL
  by_cases hk : k = i
  · subst hk
    have : (dstOf ops k == some j) = false := by simpa using hd
    rw [this, Bool.and_false, Bool.and_false]
  · rw [if_neg hk]
theorem frA_put {base : Act} {ops : Array Oper} (h : invB ops base.tmps.size = true) {L : Nat → Bool} {vals : Nat → Value} {i : Nat} (hL : L i = false) (v : Value) :
    (frA base ops L vals).put (dstOf ops i) v = frA base ops (updL L i) (updV vals i v) := by
  have key : ∀ j, dstOf ops i ≠ some j → ∀ x : Value, (match whoAt ops L j with | some k => vals k | none => x) = (match whoAt ops (updL L i) j with | some k => updV vals i v k | none => x) := by
    intro j hj x
    rw [whoAt_upd hj]
    cases hw : whoAt ops L j with
    | none => rfl
    | some k =>
      obtain ⟨_, h2, _⟩ := whoAt_some hw
      have hk : k ≠ i := fun e => by rw [e, hL] at h2; cases h2
      show vals k = updV vals i v k
      unfold updV
      rw [if_neg hk]
  cases hd : dstOf ops i with
  | none =>
    unfold frA Act.put
    simp only
    congr 1
    apply Array.ext_getElem?
    intro j
    simp only [Array.getElem?_mapIdx]
    cases base.tmps[j]? with
    | none => rfl
    | some x => exact congrArg some (key j (by rw [hd]; simp) x)
  | some d =>
    have hlt := invB_lt h hd
    unfold frA Act.put
    simp only
    congr 1
    apply Array.ext_getElem?
    intro j
    by_cases hj : d = j
    · subst hj
      rw [Array.getElem?_setIfInBounds_self]
      simp only [Array.size_mapIdx, Array.getElem?_mapIdx]
      rw [if_pos hlt]
      have hw := whoAt_of h (L := updL L i) (by unfold updL; rw [if_pos rfl]) hd
      rw [Array.getElem?_eq_getElem hlt]
      show _ = some (match whoAt ops (updL L i) d with | some k => updV vals i v k | none => _)
      rw [hw]
      show some v = some (updV vals i v i)
      unfold updV
      rw [if_pos rfl]
    · rw [Array.getElem?_setIfInBounds_ne hj]
      simp only [Array.getElem?_mapIdx]
      cases base.tmps[j]? with
      | none => rfl
      | some x => exact congrArg some (key j (by rw [hd]; intro e; exact hj (Option.some.inj e)) x)
/-- what has been yielded is read. -/
theorem frA_done {base : Act} {ops : Array Oper} (h : invB ops base.tmps.size = true) {L : Nat → Bool} {vals : Nat → Value} {k : Nat} {t : Tmp} (hL : L k = true) (hd : dstOf ops k = some t) :
    (frA base ops L vals).tmps.getD t undef = vals k := by
  have hlt := invB_lt h hd
  unfold frA
  simp only [Array.getD_eq_getD_getElem?, Array.getElem?_mapIdx, Array.getElem?_eq_getElem hlt, Option.map_some, Option.getD_some]
  rw [whoAt_of h hL hd]
/-- what no operation yields into stays. -/
theorem frA_base {base : Act} {ops : Array Oper} {L : Nat → Bool} {vals : Nat → Value} {t : Tmp} (hn : (List.range ops.size).all (fun i => dstOf ops i != some t) = true) :
    (frA base ops L vals).tmps.getD t undef = base.tmps.getD t undef := by
  have hw : whoAt ops L t = none := by
    cases hw : whoAt ops L t with
    | none => rfl
    | some k =>
      obtain ⟨h1, _, h3⟩ := whoAt_some hw
      have := List.all_eq_true.1 hn k (List.mem_range.2 h1)
      rw [h3] at this
      simp at this
  unfold frA
  simp only [Array.getD_eq_getD_getElem?, Array.getElem?_mapIdx]
  rw [hw]
  cases base.tmps[t]? <;> rfl
/-- a slot into which only an operation yields that has not run. -/
theorem frA_wait {base : Act} {ops : Array Oper} (h : invB ops base.tmps.size = true) {L : Nat → Bool} {vals : Nat → Value} {t : Tmp} {k : Nat} (hd : dstOf ops k = some t) (hL : L k = false) :
    (frA base ops L vals).tmps.getD t undef = base.tmps.getD t undef := by
  have hw : whoAt ops L t = none := by
    cases hw : whoAt ops L t with
    | none => rfl
    | some j =>
      obtain ⟨_, h2, h3⟩ := whoAt_some hw
      rw [invB_apart h h3 hd, hL] at h2
      cases h2
  unfold frA
  simp only [Array.getD_eq_getD_getElem?, Array.getElem?_mapIdx]
  rw [hw]
  cases base.tmps[t]? <;> rfl
theorem frA_none (base : Act) (ops : Array Oper) (vals : Nat → Value) : frA base ops (fun _ => false) vals = base := by
  have hw : ∀ j, whoAt ops (fun _ => false) j = none := fun j => by
    unfold whoAt
    rw [List.find?_eq_none]
    intro x _
    simp
  unfold frA
  simp only [hw]
  cases base with
  | mk t d =>
    simp only [Act.mk.injEq, and_true]
    apply Array.ext_getElem?
    intro j
    simp only [Array.getElem?_mapIdx]
    cases t[j]? <;> rfl
def putsL (vals : Nat → Value) : List Oper → Nat → Act → Act
  | [], _, a => a
  | o :: r, i, a => putsL vals r (i + 1) (a.put o.dst (vals i))
theorem frA_all {base : Act} {l : List Oper} (h : invB l.toArray base.tmps.size = true) (vals : Nat → Value) : frA base l.toArray (fun i => decide (i < l.length)) vals = putsL vals l 0 base := by
  have go : ∀ (r : List Oper) (i : Nat), i + r.length = l.length → l.drop i = r → frA base l.toArray (fun j => decide (j < l.length)) vals = putsL vals r i (frA base l.toArray (fun j => decide (j < i)) vals) := by
    intro r
    induction r with
    | nil =>
      intro i hi _
      simp only [List.length_nil, Nat.add_zero] at hi
      rw [hi]; rfl
    | cons o r ih =>
      intro i hi hr
      simp only [List.length_cons] at hi
      have ho : dstOf l.toArray i = o.dst := by
        unfold dstOf
        rw [List.getElem?_toArray]
        have : l[i]? = some o := by
          have := congrArg (·[0]?) hr
          simpa [List.getElem?_drop] using this
        rw [this]; rfl
      have hp := frA_put h (L := fun j => decide (j < i)) (vals := vals) (i := i) (by simp) (vals i)
      have e1 : updV vals i (vals i) = vals := by funext j; unfold updV; split <;> simp_all
      have e2 : updL (fun j => decide (j < i)) i = fun j => decide (j < i + 1) := by
        funext j; unfold updL; by_cases hj : j = i
        · rw [if_pos hj, hj]; simp
        · rw [if_neg hj]; simp only [decide_eq_decide]; omega
      rw [e1, e2, ho] at hp
      rw [putsL, hp]
      exact ih (i + 1) (by omega) (by rw [← List.drop_drop, hr]; rfl)
  have := go l 0 (by omega) rfl
  rw [this]
  congr 1
  rw [show (fun j => decide (j < 0)) = fun _ => false by funext j; simp]
  exact frA_none base _ vals

/-- what is asked of one operation. -/
def StepI (P : Program) (ops : Array Oper) (Q : Exit → Act → World → Prop) (_i : Nat) (o : Oper) (a : Act) (w : World) (J : Value → World → Prop) : Prop :=
  ∀ K : Act → World → Prop, (∀ v w', J v w' → K (a.put o.dst v) w') → if Region.wanted o (yielded ops a.tmps) = true then o.wp P a w K Q else K (a.put o.dst undef) w

theorem wpAny_inv {P : Program} {base : Act} {l : List Oper} {Q : Exit → Act → World → Prop} (hB : invB l.toArray base.tmps.size = true) (I : (Nat → Bool) → (Nat → Value) → World → Prop)
    (hstep : ∀ i o L vals w, l[i]? = some o → L i = false → (∀ e ∈ o.after, Region.binds .any e = true → L e.on = true) → I L vals w →
      StepI P l.toArray Q i o (frA base l.toArray L vals) w fun v w' => I (updL L i) (updV vals i v) w')
    (hend : ∀ vals w, I (fun i => decide (i < l.length)) vals w → Q .normal (putsL vals l 0 base) w) :
    ∀ (fuel : Nat) (listed : Array Bool) (L : Nat → Bool) (vals : Nat → Value) (w : World), listed.size = l.length → (∀ j, listed.getD j false = L j) → ((List.range l.length).filter fun j => !L j).length ≤ fuel → I L vals w →
      wpAny P .any l.toArray Q fuel listed (frA base l.toArray L vals) w := by
  have hready : ∀ (listed : Array Bool) (L : Nat → Bool), listed.size = l.length → (∀ j, listed.getD j false = L j) → Region.ready .any l.toArray listed = [] → L = fun i => decide (i < l.length) := by
    intro listed L hs hL hr
    have hall : ∀ n, ∀ i, i < n → i < l.length → L i = true := by
      intro n
      induction n with
      | zero => intro i h; omega
      | succ n ih =>
        intro i hi hil
        cases hLi : L i with
        | true => rfl
        | false =>
          exfalso
          have hin : i ∈ Region.ready .any l.toArray listed := by
            unfold Region.ready
            rw [List.mem_filter]
            refine ⟨List.mem_range.2 (by simpa using hil), ?_⟩
            have h1 : listed.getD i true = false := by
              have := hL i
              rw [hLi] at this
              simp only [Array.getD_eq_getD_getElem?, Array.getElem?_eq_getElem (show i < listed.size by omega), Option.getD_some] at this ⊢
              exact this
            rw [h1]
            have ho : l.toArray[i]? = some l[i] := by simp [hil]
            rw [ho]
            simp only [Bool.not_false, Bool.true_and, Option.map_some, Option.getD_some]
            rw [Array.all_eq_true_iff_forall_mem]
            intro e he
            cases hbn : Region.binds .any e with
            | false => rfl
            | true =>
              have hb := invB_back hB ho e he hbn
              rw [hL e.on, ih e.on (by omega) (by omega), Bool.or_true]
          rw [hr] at hin
          cases hin
    funext i
    by_cases hi : i < l.length
    · rw [hall (i + 1) i (by omega) hi]; simp [hi]
    · have := hL i
      rw [← this]
      simp [Array.getElem?_eq_none (show listed.size ≤ i by omega), hi]
  intro fuel
  induction fuel with
  | zero =>
    intro listed L vals w hs hL hf hI
    have hnone : ∀ j, j < l.length → L j = true := by
      intro j hj
      cases hLj : L j with
      | true => rfl
      | false =>
        exfalso
        have : j ∈ (List.range l.length).filter fun j => !L j := List.mem_filter.2 ⟨List.mem_range.2 hj, by rw [hLj]; rfl⟩
        have := List.length_pos_of_mem this
        omega
    have hLa : L = fun i => decide (i < l.length) := by
      funext i
      by_cases hi : i < l.length
      · rw [hnone i hi]; simp [hi]
      · have := hL i
        rw [← this]
        simp [Array.getElem?_eq_none (show listed.size ≤ i by omega), hi]
    refine ⟨?_, ?_⟩
    · unfold Region.ready
      rw [List.filter_eq_nil_iff]
      intro i hi
      have hi' : i < l.length := by simpa using List.mem_range.1 hi
      have h1 : listed.getD i true = true := by
        have := hL i
        rw [hnone i hi'] at this
        simp only [Array.getD_eq_getD_getElem?, Array.getElem?_eq_getElem (show i < listed.size by omega), Option.getD_some] at this ⊢
        exact this
      rw [h1]
      simp
    · rw [hLa, frA_all hB]
      exact hend vals w (hLa ▸ hI)
  | succ fuel ih =>
    intro listed L vals w hs hL hf hI
    refine ⟨fun hr => ?_, fun i hi => ?_⟩
    · have hLa := hready listed L hs hL hr
      rw [hLa, frA_all hB]
      exact hend vals w (hLa ▸ hI)
    · unfold Region.ready at hi
      rw [List.mem_filter] at hi
      obtain ⟨hi1, hi2⟩ := hi
      have hil : i < l.length := by simpa using List.mem_range.1 hi1
      have ho : l.toArray[i]? = some l[i] := by simp [hil]
      rw [ho] at hi2
      simp only [Bool.and_eq_true, Option.map_some, Option.getD_some, Bool.not_eq_true', Array.all_eq_true_iff_forall_mem] at hi2
      have hLi : L i = false := by
        rw [← hL i]
        have := hi2.1
        simp only [Array.getD_eq_getD_getElem?, Array.getElem?_eq_getElem (show i < listed.size by omega), Option.getD_some] at this ⊢
        exact this
      have hdep : ∀ e ∈ l[i].after, Region.binds .any e = true → L e.on = true := fun e he hb => by
        have := hi2.2 e he
        rw [hb, hL e.on] at this
        simpa using this
      have hst := hstep i l[i] L vals w (by simp [hil]) hLi hdep hI
      have hd : dstOf l.toArray i = l[i].dst := by unfold dstOf; rw [ho]; rfl
      have hK : ∀ v w', I (updL L i) (updV vals i v) w' → wpAny P .any l.toArray Q fuel (listed.setIfInBounds i true) ((frA base l.toArray L vals).put l[i].dst v) w' := by
        intro v w' hI'
        rw [← hd, frA_put hB hLi v]
        refine ih _ _ _ _ (by simpa using hs) (fun j => ?_) ?_ hI'
        · unfold updL
          by_cases hj : j = i
          · rw [if_pos hj, hj]
            simp [show i < listed.size by omega]
          · rw [if_neg hj, getD_set_ne _ (fun e => hj e.symm)]
            exact hL j
        · have hsub : ((List.range l.length).filter fun j => !updL L i j).length < ((List.range l.length).filter fun j => !L j).length := by
            have e : ((List.range l.length).filter fun j => !updL L i j) = ((List.range l.length).filter fun j => !L j).filter fun j => j != i := by
              rw [List.filter_filter]
              congr 1
              funext j
              unfold updL
              by_cases hj : j = i
              · simp [hj]
              · simp [hj]
            rw [e]
            refine List.length_filter_lt_length_iff_exists.2 ⟨i, List.mem_filter.2 ⟨List.mem_range.2 hil, by rw [hLi]; rfl⟩, by simp⟩
          omega
      have hgo := hst _ hK
      unfold wpOp
      rw [ho]
      simp only
      by_cases hw : Region.wanted l[i] (yielded l.toArray (frA base l.toArray L vals).tmps) = true
      · rw [if_pos hw] at hgo ⊢
        exact Or.inl hgo
      · rw [if_neg hw] at hgo ⊢
        exact hgo

theorem wp_region_inv {P : Program} {id : Nat} {a : Act} {w : World} {l : List Oper} {Q : Exit → Act → World → Prop} (hm : P.follows .mixedOrders = true) (hB : invB l.toArray a.tmps.size = true) (I : (Nat → Bool) → (Nat → Value) → World → Prop)
    (h0 : ∀ vals, I (fun _ => false) vals w.drew)
    (hstep : ∀ i o L vals w, l[i]? = some o → L i = false → (∀ e ∈ o.after, Region.binds .any e = true → L e.on = true) → I L vals w →
      StepI P l.toArray Q i o (frA a l.toArray L vals) w fun v w' => I (updL L i) (updV vals i v) w')
    (hend : ∀ vals w, I (fun i => decide (i < l.length)) vals w → Q .normal (putsL vals l 0 a) w) : (Code.region id l.toArray true).wp P Q a w := by
  refine wp_region_any hm ?_
  have := wpAny_inv hB I hstep hend l.toArray.size (Array.replicate l.toArray.size false) (fun _ => false) (fun _ => undef) w.drew (by simp) (fun j => by
    simp only [Array.getD_eq_getD_getElem?, Array.getElem?_replicate]; split <;> rfl) (by simpa using List.length_filter_le (fun j => !(fun _ => false) j) (List.range l.length)) (h0 _)
  rw [frA_none] at this
  exact this

/-- .. where what has run has all behind it that it waited for. -/
def Closed (l : List Oper) (L : Nat → Bool) : Prop := ∀ j o, l[j]? = some o → L j = true → ∀ e ∈ o.after, Region.binds .any e = true → L e.on = true
theorem wp_region_invC {P : Program} {id : Nat} {a : Act} {w : World} {l : List Oper} {Q : Exit → Act → World → Prop} (hm : P.follows .mixedOrders = true) (hB : invB l.toArray a.tmps.size = true) (I : (Nat → Bool) → (Nat → Value) → World → Prop)
    (h0 : ∀ vals, I (fun _ => false) vals w.drew)
    (hstep : ∀ i o L vals w, l[i]? = some o → L i = false → (∀ e ∈ o.after, Region.binds .any e = true → L e.on = true) → Closed l L → I L vals w →
      StepI P l.toArray Q i o (frA a l.toArray L vals) w fun v w' => I (updL L i) (updV vals i v) w')
    (hend : ∀ vals w, I (fun i => decide (i < l.length)) vals w → Q .normal (putsL vals l 0 a) w) : (Code.region id l.toArray true).wp P Q a w := by
  refine wp_region_inv hm hB (fun L vals w => Closed l L ∧ I L vals w) (fun vals => ⟨fun j o _ h => (by cases h), h0 vals⟩) (fun i o L vals w hi hL hdep hI K hK => ?_) (fun vals w hI => hend vals w hI.2)
  refine hstep i o L vals w hi hL hdep hI.1 hI.2 K fun v w' hJ => hK v w' ⟨fun j o' hj hLj e he hb => ?_, hJ⟩
  unfold updL at hLj ⊢
  by_cases h1 : e.on = i
  · rw [if_pos h1]
  · rw [if_neg h1]
    by_cases h2 : j = i
    · subst h2
      rw [hi] at hj
      injection hj with hj
      subst hj
      exact hdep e he hb
    · rw [if_neg h2] at hLj
      exact hI.1 j o' hj hLj e he hb

/-- an operation that yields by itself. -/
theorem step_run {P : Program} {ops : Array Oper} {Q : Exit → Act → World → Prop} {i : Nat} {o : Oper} {a : Act} {w w' : World} {J : Value → World → Prop} {v : Value} (hg : o.guard = none)
    (hr : (execOp a.eval o).run P w = .ok (.value v) w') (hJ : J v w') : StepI P ops Q i o a w J := by
  intro K hK
  have hw : Region.wanted o (yielded ops a.tmps) = true := by simp [Region.wanted, hg]
  rw [if_pos hw]
  unfold Oper.wp
  rw [hr]
  exact hK v w' hJ
/-- an operation that yields nothing (a store). -/
theorem stepI_skip {P : Program} {ops : Array Oper} {Q : Exit → Act → World → Prop} {i : Nat} {o : Oper} {a : Act} {w w' : World} {J : Value → World → Prop} (hg : o.guard = none)
    (hr : (execOp a.eval o).run P w = .ok .skip w') (hJ : J undef w') : StepI P ops Q i o a w J := by
  intro K hK
  have hw : Region.wanted o (yielded ops a.tmps) = true := by simp [Region.wanted, hg]
  rw [if_pos hw]
  unfold Oper.wp
  rw [hr]
  exact hK undef w' hJ
/-- an operation that calls a Go function. -/
theorem step_enter {P : Program} {ops : Array Oper} {Q : Exit → Act → World → Prop} {i : Nat} {o : Oper} {a : Act} {w w' : World} {J : Value → World → Prop} {f : FuncId} {args : Array Value} (hg : o.guard = none)
    (hr : (execOp a.eval o).run P w = .ok (.enter f args) w') (hC : Calls P f args w' fun e w'' => ∃ v, e = .returned v ∧ J v w'') : StepI P ops Q i o a w J := by
  intro K hK
  have hw : Region.wanted o (yielded ops a.tmps) = true := by simp [Region.wanted, hg]
  rw [if_pos hw]
  unfold Oper.wp
  rw [hr]
  refine hC.mono ?_
  rintro e w'' ⟨v, rfl, hJ⟩
  exact hK v w'' hJ
#print axioms wp_region_inv
end Go.Gz
