/-
  Several texts in one: ArgRow, QuietBelow, SpMath, SpHas.
-/
import Derived.Test.YtfadpiipigkocaaMg09
import Derived.Test.YtfadpiipigkocaaMg01
import Derived.Lib.MinMaxS
import Derived.WalkLawsBesides
namespace Go.Gz
open Go.RowKit Go.ChangeShapes Go.WideShapes Go.Deep

theorem rowk_of {H α : Type} [Inhabited α] (K : SK α) {enc : TypeId × Value → H} {P : Program} {W : World} {t T : TypeId} {fuel : Nat} {cs : List Value} {x : DataW H × List MemPlace} (hT : P.underlying T = some (.slice t)) (hC : P.cellsOf t = K.n)
    (hel : ∀ (fuel : Nat) (cs : List Value) (x : DataW H × List MemPlace), DataW.trod enc P W 0 (fun _ => true) true fuel t cs = some x → ∃ r, cs = K.cf r)
    (h : DataW.trod enc P W 0 (fun _ => true) true fuel T cs = some x) : ∃ p L c, cs = [.slice p L.length c] ∧ RowK K W p L ∧ L.length ≤ 9223372036854775807 ∧ (p = none → c = 0) := by
  rcases open_slice hT h with ⟨h, _⟩ | ⟨a, len, cap, m, n, D, Pl, h, _, hl, hm, hmm, _, hi⟩
  · exact ⟨none, [], 0, h, Or.inl rfl, by simp, fun _ => rfl⟩
  · subst h
    simp only [if_true] at hmm
    subst hmm
    unfold maxLen at hm
    have each : ∀ i, i < len → ∃ r : α, (∀ z, z < K.n → W.cell? ((a.add (i * K.n)).add z) = (K.cf r)[z]?) := fun i hin => by
      obtain ⟨cs', hcs, ht⟩ := hi i (by omega)
      rw [hC] at hcs
      obtain ⟨r, rfl⟩ := hel _ _ _ ht
      obtain ⟨_, _, hat⟩ := World.cells?_some hcs
      exact ⟨r, hat⟩
    have pick : ∃ f : Nat → α, ∀ i, i < len → (∀ z, z < K.n → W.cell? ((a.add (i * K.n)).add z) = (K.cf (f i))[z]?) :=
      ⟨fun i => if h : i < len then Classical.choose (each i h) else default, fun i h => by simp only [dif_pos h]; exact Classical.choose_spec (each i h)⟩
    obtain ⟨f, hf2⟩ := pick
    have hget : ∀ j, j < len → ((List.range len).map f).getD j default = f j := fun j hj => by simp [List.getD, hj]
    refine ⟨some a, (List.range len).map f, m, by simp, ?_, by simp; omega, fun h => by cases h⟩
    by_cases h0 : len = 0
    · exact Or.inl (by subst h0; rfl)
    · have hc0 := hf2 0 (by omega) 0 K.pos
      obtain ⟨b, off, spot⟩ := a
      obtain ⟨v0, hv0⟩ : ∃ v, (K.cf (f 0))[0]? = some v := ⟨_, List.getElem?_eq_getElem (by rw [K.len]; exact K.pos)⟩
      rw [hv0] at hc0
      have hc0' : W.cell? ⟨b, off + 0 * K.n + 0, spot⟩ = some v0 := by
        have e : ((⟨b, off, spot⟩ : Addr).add (0 * K.n)).add 0 = ⟨b, off, spot⟩ := by simp [Addr.add]
        rw [e] at hc0
        simpa using hc0
      have hsp : spot = none := Go.Proofs.cell_spot hc0'
      subst hsp
      refine Or.inr ⟨b, off, rfl, World.block_lt_of_cell? W _ hc0', fun j hj i hi' => ?_⟩
      have hj' : j < len := by simpa using hj
      have hz := hf2 j hj' i hi'
      rw [hget j hj']
      simp only [Addr.add_lit] at hz
      exact hz
end Go.Gz
namespace Go.Gz
open Go.RowKit

structure BelowOf (w : World) where
  w' : World
  h : Below w.heap.size w w'

instance {w : World} : Inhabited (BelowOf w) := ⟨⟨w, Below.refl _ _⟩⟩

theorem wp_region_quiet_below {P : Program} {id : Nat} {Q : Exit → Act → World → Prop} {a : Act} {w : World} {l : List Oper} (hm : P.follows .mixedOrders = true) (hB : Region.lexB .any l.toArray = true)
    (h : wpQuiet P l.toArray (fun w' => ∃ p : BelowOf w, w' = p.w') (fun a' => ∀ w', (∃ p : BelowOf w, w' = p.w') → Q .normal a' w') l a) : (Code.region id l.toArray true).wp P Q a w :=
  wp_region_quiet (C := fun w' => ∃ p : BelowOf w, w' = p.w') hm hB ⟨⟨_, (Below.refl _ _).drew⟩, rfl⟩ (by simpa using h)
theorem BelowOf.cell {w : World} (p : BelowOf w) {a : Addr} {v : Value} (hb : a.block < w.heap.size) (h : w.cell? a = some v) : p.w'.cell? a = some v := by rw [p.h.cell hb]; exact h
theorem Calls.below_of {P : Program} {f : FuncId} {args : Array Value} {w : World} {v : Value} (p : BelowOf w) (h : Calls P f args p.w' fun e w' => e = .returned v ∧ Below p.w'.heap.size p.w' w') : Calls P f args p.w' fun e w'' => e = .returned v ∧ ∃ q : BelowOf w, w'' = q.w' :=
  h.mono fun _ _ ⟨he, hb⟩ => ⟨he, ⟨_, p.h.trans (hb.mono p.h.size)⟩, rfl⟩
end Go.Gz
namespace Go.Gz

/-- is text a less than b? -/
def slt (a b : ByteArray) : Bool := Op.bytesLess a.toList b.toList
def sem (a : ByteArray) : Bool := a.toList.isEmpty
theorem slt_eq (a b : ByteArray) : slt a b = decide (a.data.toList < b.data.toList) := by
  unfold slt; rw [Go.Proofs.bytesLess_eq, Lib.toList_data, Lib.toList_data]
theorem data_inj {a b : ByteArray} (h : a.data.toList = b.data.toList) : a = b := by
  cases a; cases b
  simp only [ByteArray.mk.injEq]
  exact Array.toList_inj.1 h
theorem slt_irrefl (a : ByteArray) : slt a a = false := by
  rw [slt_eq]; exact decide_eq_false (List.lt_irrefl _)
theorem slt_trans {a b c : ByteArray} (h : slt a b = true) (k : slt b c = true) : slt a c = true := by
  rw [slt_eq] at h k ⊢
  exact decide_eq_true (List.lt_trans (of_decide_eq_true h) (of_decide_eq_true k))
theorem slt_total {a b : ByteArray} (h : slt a b = false) (k : slt b a = false) : a = b := by
  rw [slt_eq] at h k
  exact data_inj (List.le_antisymm (of_decide_eq_false k) (of_decide_eq_false h))
theorem sem_iff (a : ByteArray) : sem a = true ↔ a = ByteArray.empty := by
  unfold sem
  rw [Lib.toList_data, List.isEmpty_iff]
  exact ⟨fun h => data_inj h, fun h => by rw [h]; rfl⟩
theorem slt_empty (a : ByteArray) : slt a ByteArray.empty = false := by
  rw [slt_eq]
  exact decide_eq_false (List.not_lt_nil _)

/-- a number for each text, by the order, among finitely many. -/
def rank (L : List ByteArray) (s : ByteArray) : Nat := (L.filter fun x => slt x s).length
theorem rank_mono (L : List ByteArray) {a b : ByteArray} (h : slt a b = true) : rank L a ≤ rank L b := by
  unfold rank
  induction L with
  | nil => exact Nat.le_refl _
  | cons x t ih =>
    simp only [List.filter_cons]
    by_cases hx : slt x a = true
    · rw [if_pos hx, if_pos (slt_trans hx h)]
      simpa using ih
    · rw [if_neg hx]
      by_cases hb : slt x b = true
      · rw [if_pos hb]; simp only [List.length_cons]; omega
      · rw [if_neg hb]; exact ih
theorem rank_lt (L : List ByteArray) {a b : ByteArray} (ha : a ∈ L) (h : slt a b = true) : rank L a < rank L b := by
  induction L with
  | nil => cases ha
  | cons x t ih =>
    have hm := rank_mono t h
    have e : ∀ s, rank (x :: t) s = (if slt x s = true then 1 else 0) + rank t s := fun s => by
      unfold rank
      simp only [List.filter_cons]
      by_cases hx : slt x s = true
      · rw [if_pos hx, if_pos hx, List.length_cons]; omega
      · rw [if_neg hx, if_neg hx]; omega
    rw [e, e]
    rcases List.mem_cons.1 ha with rfl | ha
    · rw [if_neg (by rw [slt_irrefl]; simp), if_pos h]; omega
    · have := ih ha
      by_cases hx : slt x a = true
      · rw [if_pos hx, if_pos (slt_trans hx h)]; omega
      · rw [if_neg hx]; split <;> omega
theorem slt_rank (L : List ByteArray) {a b : ByteArray} (ha : a ∈ L) (hb : b ∈ L) : slt a b = decide (rank L a < rank L b) := by
  cases h : slt a b with
  | true => exact (decide_eq_true (rank_lt L ha h)).symm
  | false =>
    symm
    refine decide_eq_false fun hc => ?_
    cases k : slt b a with
    | true => have := rank_lt L hb k; omega
    | false => obtain rfl := slt_total h k; omega
theorem eq_rank (L : List ByteArray) {a b : ByteArray} (ha : a ∈ L) (hb : b ∈ L) : a = b ↔ rank L a = rank L b := by
  refine ⟨fun h => by rw [h], fun h => slt_total ?_ ?_⟩
  · rw [slt_rank L ha hb]; exact decide_eq_false (by omega)
  · rw [slt_rank L hb ha]; exact decide_eq_false (by omega)
theorem sem_rank (L : List ByteArray) {a : ByteArray} (ha : a ∈ L) (he : ByteArray.empty ∈ L) : sem a = decide (rank L a = rank L ByteArray.empty) := by
  rw [Bool.eq_iff_iff, sem_iff, decide_eq_true_iff]
  exact eq_rank L ha he
theorem empty_rank (L : List ByteArray) {a : ByteArray} (ha : a ∈ L) (he : ByteArray.empty ∈ L) : rank L ByteArray.empty ≤ rank L a := by
  have h := slt_empty a
  rw [slt_rank L ha he] at h
  have := of_decide_eq_false h
  omega

/-- a span. -/
structure SP where
  f : ByteArray
  t : ByteArray
deriving Inhabited, DecidableEq

def hasB (s : SP) (k : ByteArray) : Bool := !slt k s.f && (sem s.t || slt k s.t)
def emptyB (s : SP) : Bool := !sem s.t && !slt s.f s.t
def firstEndS (a b : ByteArray) : ByteArray := if (sem a || (!sem b && slt b a)) = true then b else a
def maxS2 (a b : ByteArray) : ByteArray := if slt a b = true then b else a
def meetS (a b : SP) : SP := ⟨maxS2 a.f b.f, firstEndS a.t b.t⟩
def withinB (a b : SP) : Bool := emptyB a || (!slt a.f b.f && (sem b.t || (!sem a.t && !slt b.t a.t)))
def meetsB (a b : SP) : Bool := !emptyB a && !emptyB b && (sem a.t || slt b.f a.t) && (sem b.t || slt a.f b.t)

theorem hasB_self (s : SP) : hasB s s.f = !emptyB s := by
  unfold hasB emptyB
  rw [slt_irrefl]
  cases sem s.t <;> simp

/-- the law of two: what is in both. -/
theorem meet_has (a b : SP) (k : ByteArray) : hasB (meetS a b) k = (hasB a k && hasB b k) := by
  have m : ∀ x ∈ [a.f, a.t, b.f, b.t, k, ByteArray.empty], x ∈ [a.f, a.t, b.f, b.t, k, ByteArray.empty] := fun _ h => h
  simp only [List.forall_mem_cons] at m
  obtain ⟨m1, m2, m3, m4, m5, m6, _⟩ := m
  generalize hL : [a.f, a.t, b.f, b.t, k, ByteArray.empty] = L at m1 m2 m3 m4 m5 m6
  clear hL
  have e1 := empty_rank L m2 m6
  have e2 := empty_rank L m4 m6
  unfold hasB meetS maxS2 firstEndS
  simp only [sem_rank L m2 m6, sem_rank L m4 m6, slt_rank L m1 m3, slt_rank L m4 m2]
  rw [Bool.eq_iff_iff]
  by_cases h1 : rank L a.f < rank L b.f <;> by_cases h2 : rank L a.t = rank L ByteArray.empty <;> by_cases h3 : rank L b.t = rank L ByteArray.empty <;> by_cases h4 : rank L b.t < rank L a.t <;>
    simp [h1, h2, h3, h4, sem_rank L m2 m6, sem_rank L m4 m6, slt_rank L m5 m1, slt_rank L m5 m2, slt_rank L m5 m3, slt_rank L m5 m4] <;> omega
theorem meet_empty (a b : SP) : emptyB (meetS a b) = !meetsB a b := by
  have m : ∀ x ∈ [a.f, a.t, b.f, b.t, ByteArray.empty], x ∈ [a.f, a.t, b.f, b.t, ByteArray.empty] := fun _ h => h
  simp only [List.forall_mem_cons] at m
  obtain ⟨m1, m2, m3, m4, m6, _⟩ := m
  generalize hL : [a.f, a.t, b.f, b.t, ByteArray.empty] = L at m1 m2 m3 m4 m6
  clear hL
  have e1 := empty_rank L m2 m6
  have e2 := empty_rank L m4 m6
  unfold meetsB emptyB meetS maxS2 firstEndS
  simp only [sem_rank L m2 m6, sem_rank L m4 m6, slt_rank L m1 m3, slt_rank L m4 m2]
  rw [Bool.eq_iff_iff]
  by_cases h1 : rank L a.f < rank L b.f <;> by_cases h2 : rank L a.t = rank L ByteArray.empty <;> by_cases h3 : rank L b.t = rank L ByteArray.empty <;> by_cases h4 : rank L b.t < rank L a.t <;>
    simp [h1, h2, h3, h4, sem_rank L m2 m6, sem_rank L m4 m6, slt_rank L m1 m2, slt_rank L m1 m4, slt_rank L m3 m2, slt_rank L m3 m4] <;> omega
theorem meet_self {a b : SP} (h : emptyB a = false) : (meetS a b = a) ↔ (!slt a.f b.f && (sem b.t || (!sem a.t && !slt b.t a.t))) = true := by
  have m : ∀ x ∈ [a.f, a.t, b.f, b.t, ByteArray.empty], x ∈ [a.f, a.t, b.f, b.t, ByteArray.empty] := fun _ h => h
  simp only [List.forall_mem_cons] at m
  obtain ⟨m1, m2, m3, m4, m6, _⟩ := m
  generalize hL : [a.f, a.t, b.f, b.t, ByteArray.empty] = L at m1 m2 m3 m4 m6
  clear hL
  have e1 := empty_rank L m2 m6
  have e2 := empty_rank L m4 m6
  have q : (meetS a b = a) ↔ (maxS2 a.f b.f = a.f ∧ firstEndS a.t b.t = a.t) := by
    unfold meetS
    cases a
    simp
  rw [q]
  unfold maxS2 firstEndS
  simp only [sem_rank L m2 m6, sem_rank L m4 m6, slt_rank L m1 m3, slt_rank L m4 m2]
  have p1 : ∀ c : Prop, [Decidable c] → ((if c then b.f else a.f) = a.f ↔ (c → rank L b.f = rank L a.f)) := fun c _ => by
    by_cases hc : c <;> simp [hc, eq_rank L m3 m1]
  have p2 : ∀ c : Prop, [Decidable c] → ((if c then b.t else a.t) = a.t ↔ (c → rank L b.t = rank L a.t)) := fun c _ => by
    by_cases hc : c <;> simp [hc, eq_rank L m4 m2]
  rw [p1, p2]
  simp only [decide_eq_true_eq, Bool.or_eq_true, Bool.and_eq_true, Bool.not_eq_true', decide_eq_false_iff_not]
  omega
theorem within_eq (a b : SP) : (emptyB a || decide (meetS a b = a)) = withinB a b := by
  unfold withinB
  cases h : emptyB a with
  | true => rfl
  | false =>
    simp only [Bool.false_or]
    rw [Bool.eq_iff_iff, decide_eq_true_iff]
    exact meet_self h
end Go.Gz
namespace Go.Proofs.Ytfadpiipigkocaa
open Go.RowKit Go.Gz

theorem has_any (f t k : ByteArray) (w : World) : Calls Try.prog 82 #[.agg #[.string f, .string t], .string k] w fun e w' => e = .returned (.bool (hasB ⟨f, t⟩ k)) ∧ Below w.heap.size w w' := by
  go_enter Try.func82, Try.ntmps82
  go_wp2_with fail
  all_goals
    go_ret
    refine ⟨?_, (Below.refl _ _).alloc (Nat.le_refl _) _⟩
    simp_all [hasB, slt, sem]
theorem empty_any (f t : ByteArray) (w : World) : Calls Try.prog 79 #[.agg #[.string f, .string t]] w fun e w' => e = .returned (.bool (emptyB ⟨f, t⟩)) ∧ Below w.heap.size w w' := by
  have h := hasB_self ⟨f, t⟩
  have C := Lib.hid (fun w => has_any f t f w)
  obtain ⟨b, hb⟩ : ∃ b, hasB ⟨f, t⟩ f = b := ⟨_, rfl⟩
  rw [hb] at C
  have hx : emptyB ⟨f, t⟩ = !b := by rw [← hb, h]; simp
  have HX := Lib.hid hx
  clear hx h hb
  go_enter Try.func79, Try.ntmps79
  go_wp2_with fail
  refine (C.out _).mono ?_
  rintro e w' ⟨rfl, hb⟩
  go_wp2_with fail
  go_ret
  exact ⟨by rw [HX.out]; rfl, ((Below.refl _ _).alloc (Nat.le_refl _) _).trans (hb.mono (by simp))⟩
theorem refEmpty_any (f t : ByteArray) (w : World) : Calls Try.prog 66 #[.agg #[.string f, .string t]] w fun e w' => e = .returned (.bool (emptyB ⟨f, t⟩)) ∧ Below w.heap.size w w' := by
  go_enter Try.func66, Try.ntmps66
  go_wp2_with fail
  all_goals
    go_ret
    refine ⟨?_, (Below.refl _ _).alloc (Nat.le_refl _) _⟩
    simp_all [emptyB, slt, sem]
theorem maxS_eq (a b : ByteArray) : Lib.maxS a b = maxS2 a b := by
  unfold Lib.maxS maxS2
  rw [slt_eq]
  simp
end Go.Proofs.Ytfadpiipigkocaa
