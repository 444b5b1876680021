/-
  Layer grove, pure half of GroveRows: what the walk counts.
-/
import Derived.Test.YtaghflionakhhaaGvNum
namespace Go.Proofs.Ytaghflionakhhaa

theorem cmp_sub0 : Cmp (fun a b : Int => a - b) := ⟨fun a b => by omega, fun a b => by omega, fun a b d => by omega⟩

def rwF (s : Int × Int) (x : Int) (_ : Int) : (Int × Int) × Bool := ((x, s.2 + 1), true)
/-- an item that the law's function finds in order. -/
def rwA (at_ sN : Nat) (s : Int × Int) (p : Int × Int) : Prop := s.1 < p.1 ∧ (at_ : Int) ≤ p.1 ∧ 0 ≤ s.2 ∧ s.2 ≤ 100000 ∧ ∃ j : Nat, j < 1024 ∧ p = ((((j * sN) % 1024 : Nat) : Int), (j : Int))

theorem rw_run (at_ sN : Nat) (l : List (Int × Int)) : ∀ (last many : Int), (∀ p ∈ l, last < p.1) → Rise (fun a b : Int => a - b) l → (∀ p ∈ l, (at_ : Int) ≤ p.1 ∧ ∃ j : Nat, j < 1024 ∧ p = ((((j * sN) % 1024 : Nat) : Int), (j : Int))) → 0 ≤ many → many + l.length ≤ 10000 →
    RunOk rwF (rwA at_ sN) (last, many) l ∧ (runS rwF (last, many) l).1.2 = many + l.length := by
  induction l with
  | nil => intro last many _ _ _ _ _; exact ⟨trivial, by simp [runS]⟩
  | cons p l ih =>
    intro last many h1 h2 h3 h4 h5
    have hp := List.pairwise_cons.mp h2
    simp only [List.length_cons] at h5
    obtain ⟨i1, i2⟩ := ih p.1 (many + 1) (fun q hq => by have h7 : p.1 - q.1 < 0 := hp.1 q hq; omega) hp.2 (fun q hq => h3 q (List.mem_cons_of_mem _ hq)) (by omega) (by omega)
    have h6 := h3 p (List.mem_cons_self ..)
    refine ⟨⟨⟨h1 p (List.mem_cons_self ..), h6.1, h4, by show many ≤ 100000; omega, h6.2⟩, fun _ => i1⟩, ?_⟩
    show (runS rwF (p.1, many + 1) l).1.2 = _
    rw [i2, List.length_cons]
    omega

/-- how many of the first i keys are not less than at. -/
def cntR (sN at_ i : Nat) : Nat := ((List.range i).filter fun j => decide (at_ ≤ (j * sN) % 1024)).length
theorem cntR_succ (sN at_ i : Nat) : cntR sN at_ (i + 1) = cntR sN at_ i + if at_ ≤ (i * sN) % 1024 then 1 else 0 := by
  unfold cntR
  rw [List.range_succ, List.filter_append, List.length_append, List.filter_cons]
  by_cases h : at_ ≤ (i * sN) % 1024 <;> simp [h]
theorem cntR_le (sN at_ i : Nat) : cntR sN at_ i ≤ i := by
  unfold cntR
  have := List.length_filter_le (fun j => decide (at_ ≤ (j * sN) % 1024)) (List.range i)
  simpa using this

/-- the tree behind i puts. -/
structure Rows (sN i : Nat) (t : GT Int Int) : Prop where
  fine : Fine (fun a b : Int => a - b) t
  mem : ∀ p, p ∈ t.list ↔ ∃ j : Nat, j < i ∧ p = ((((j * sN) % 1024 : Nat) : Int), (j : Int))
  many : t.many = i
  cnt : ∀ at_ : Nat, (t.list.filter fun p => decide ((at_ : Int) ≤ p.1)).length = cntR sN at_ i
theorem Rows.nil (sN : Nat) : Rows sN 0 .nil := ⟨Fine.nil, fun p => ⟨fun h => (by cases h), fun ⟨j, h, _⟩ => absurd h (Nat.not_lt_zero _)⟩, rfl, fun _ => rfl⟩
theorem Rows.no {sN r i : Nat} {t : GT Int Int} (h : Rows sN i t) (hr : (sN * r) % 1024 = 1) (hi : i < 1024) : ∀ p ∈ t.list, p.1 ≠ (((i * sN) % 1024 : Nat) : Int) := fun p hp => by
  obtain ⟨j, hj, rfl⟩ := (h.mem p).mp hp
  intro e
  have e : (((j * sN) % 1024 : Nat) : Int) = (((i * sN) % 1024 : Nat) : Int) := e
  have := turn_inj hr (show j < 1024 by omega) hi (by omega)
  omega
theorem Rows.put {sN r i : Nat} {t : GT Int Int} (h : Rows sN i t) (hr : (sN * r) % 1024 = 1) (hi : i < 1024) : Rows sN (i + 1) (withT (fun a b : Int => a - b) (((i * sN) % 1024 : Nat) : Int) (i : Int) t) := by
  have hno := h.no hr hi
  refine ⟨h.fine.put cmp_sub0 _ _, fun p => ?_, ?_, fun at_ => ?_⟩
  · rw [mem_with cmp_sub0 _ _ _ h.fine.rise, h.mem p]
    constructor
    · rintro (e | ⟨⟨j, hj, e⟩, _⟩)
      · exact ⟨i, by omega, e⟩
      · exact ⟨j, by omega, e⟩
    · rintro ⟨j, hj, e⟩
      by_cases hji : j = i
      · exact .inl (by rw [e, hji])
      · exact .inr ⟨⟨j, by omega, e⟩, hno p ((h.mem p).mpr ⟨j, by omega, e⟩)⟩
  · rw [with_many cmp_sub0 _ _ _ h.fine.rise, hasK_no cmp_sub0 hno, h.many]; rfl
  · rw [with_count cmp_sub0 _ _ _ h.fine.rise hno, h.cnt at_, cntR_succ]
    congr 1
    by_cases e : at_ ≤ (i * sN) % 1024
    · rw [if_pos e, if_pos (by rw [decide_eq_true_eq]; show (at_ : Int) ≤ (((i * sN) % 1024 : Nat) : Int); omega)]
    · rw [if_neg e, if_neg (by rw [decide_eq_true_eq]; show ¬ (at_ : Int) ≤ (((i * sN) % 1024 : Nat) : Int); omega)]

/-- the tree when those of even numbers below q have been taken. -/
structure Half (sN k q : Nat) (t : GT Int Int) : Prop where
  fine : Fine (fun a b : Int => a - b) t
  mem : ∀ p, p ∈ t.list ↔ ∃ j : Nat, j < k ∧ ¬ (j % 2 = 0 ∧ j < q) ∧ p = ((((j * sN) % 1024 : Nat) : Int), (j : Int))
  many : t.many + (q + 1) / 2 = k ∨ (k ≤ q ∧ t.many = k / 2)
theorem Half.start {sN k : Nat} {t : GT Int Int} (h : Rows sN k t) : Half sN k 0 t :=
  ⟨h.fine, fun p => by rw [h.mem p]; exact ⟨fun ⟨j, a, b⟩ => ⟨j, a, fun ⟨_, c⟩ => absurd c (Nat.not_lt_zero _), b⟩, fun ⟨j, a, _, b⟩ => ⟨j, a, b⟩⟩, .inl (by rw [h.many]; omega)⟩
theorem Half.yes {sN k q : Nat} {t : GT Int Int} (h : Half sN k q t) (hq : q < k) (_he : q % 2 = 0) : ((((q * sN) % 1024 : Nat) : Int), (q : Int)) ∈ t.list := (h.mem _).mpr ⟨q, hq, fun ⟨_, c⟩ => absurd c (Nat.lt_irrefl _), rfl⟩
theorem Half.take {sN r k q : Nat} {t : GT Int Int} (h : Half sN k q t) (hr : (sN * r) % 1024 = 1) (hk : k ≤ 600) (hq : q < k) (he : q % 2 = 0) : Half sN k (q + 2) (takeT (fun a b : Int => a - b) (((q * sN) % 1024 : Nat) : Int) t) := by
  refine ⟨h.fine.take cmp_sub0 _, fun p => ?_, ?_⟩
  · rw [mem_take cmp_sub0 _ _ h.fine.rise, h.mem p]
    constructor
    · rintro ⟨⟨j, h1, h2, rfl⟩, h3⟩
      refine ⟨j, h1, fun ⟨a, b⟩ => ?_, rfl⟩
      have : j = q := by
        by_cases c : j < q
        · exact absurd ⟨a, c⟩ h2
        · omega
      exact h3 (by rw [this])
    · rintro ⟨j, h1, h2, rfl⟩
      refine ⟨⟨j, h1, fun ⟨a, b⟩ => h2 ⟨a, by omega⟩, rfl⟩, fun e => ?_⟩
      have e : (((j * sN) % 1024 : Nat) : Int) = (((q * sN) % 1024 : Nat) : Int) := e
      have := turn_inj hr (show j < 1024 by omega) (show q < 1024 by omega) (by omega)
      exact h2 ⟨by rw [this]; exact he, by omega⟩
  · have h1 := take_many cmp_sub0 ((((q * sN) % 1024 : Nat) : Int)) t h.fine.rise
    rw [hasK_yes cmp_sub0 (h.yes hq he), if_pos rfl] at h1
    rcases h.many with h2 | ⟨h2, _⟩
    · by_cases h3 : q + 2 ≤ k
      · exact .inl (by omega)
      · exact .inr ⟨by omega, by omega⟩
    · omega
theorem Half.zero {sN k q : Nat} {t : GT Int Int} (h : Half sN k q t) (hr : ∃ r, (sN * r) % 1024 = 1) (hk : k ≤ 600) (hk1 : 1 ≤ k) (hq : k ≤ q) : ∀ p ∈ t.list, p.1 ≠ 0 := fun p hp => by
  obtain ⟨r, hr⟩ := hr
  obtain ⟨j, h1, h2, rfl⟩ := (h.mem p).mp hp
  intro e
  have e : (((j * sN) % 1024 : Nat) : Int) = 0 := e
  have := turn_inj hr (show j < 1024 by omega) (show 0 < 1024 by decide) (by rw [Nat.zero_mul]; omega)
  exact h2 ⟨by rw [this], by omega⟩
end Go.Proofs.Ytaghflionakhhaa
