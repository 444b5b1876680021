/-
  Layer grove, pure half: trees whose keys rise: what is put, taken, found, by their lists.
-/
import Derived.Test.YtaghflionakhhaaGvMath
namespace Go.Proofs.Ytaghflionakhhaa
variable {κ ν : Type}

/-- an order by numbers. -/
structure Cmp (c : κ → κ → Int) : Prop where
  eq : ∀ a b, c a b = 0 ↔ a = b
  anti : ∀ a b, c a b < 0 ↔ 0 < c b a
  trans : ∀ a b d, c a b < 0 → c b d < 0 → c a d < 0

def Rise (c : κ → κ → Int) (l : List (κ × ν)) : Prop := l.Pairwise fun p q => c p.1 q.1 < 0

theorem rise_mid {c : κ → κ → Int} {a b : List (κ × ν)} {x : κ × ν} : Rise c (a ++ x :: b) ↔ Rise c a ∧ Rise c b ∧ (∀ p ∈ a, c p.1 x.1 < 0) ∧ (∀ p ∈ b, c x.1 p.1 < 0) ∧ ∀ p ∈ a, ∀ q ∈ b, c p.1 q.1 < 0 := by
  unfold Rise
  rw [List.pairwise_append, List.pairwise_cons]
  constructor
  · rintro ⟨h1, ⟨h2, h3⟩, h4⟩
    exact ⟨h1, h3, fun p hp => h4 p hp x (List.mem_cons_self ..), h2, fun p hp q hq => h4 p hp q (List.mem_cons_of_mem _ hq)⟩
  · rintro ⟨h1, h2, h3, h4, h5⟩
    refine ⟨h1, ⟨h4, h2⟩, fun p hp q hq => ?_⟩
    rcases List.mem_cons.mp hq with rfl | hq
    · exact h3 p hp
    · exact h5 p hp q hq

def below (c : κ → κ → Int) (k : κ) (l : List (κ × ν)) : List (κ × ν) := l.filter fun p => decide (c p.1 k < 0)
def above (c : κ → κ → Int) (k : κ) (l : List (κ × ν)) : List (κ × ν) := l.filter fun p => decide (c k p.1 < 0)
def apart (c : κ → κ → Int) (k : κ) (l : List (κ × ν)) : List (κ × ν) := l.filter fun p => decide (c k p.1 ≠ 0)
/-- what a walk from k on shows. -/
def from_ (c : κ → κ → Int) (k : κ) (l : List (κ × ν)) : List (κ × ν) := l.filter fun p => decide (¬ c p.1 k < 0)

theorem filter_none {α : Type} (f : α → Bool) (l : List α) (h : ∀ x ∈ l, f x = false) : l.filter f = [] :=
  List.filter_eq_nil_iff.mpr fun x hx => by rw [h x hx]; simp
theorem filter_whole {α : Type} (f : α → Bool) (l : List α) (h : ∀ x ∈ l, f x = true) : l.filter f = l :=
  List.filter_eq_self.mpr h

theorem Cmp.self {c : κ → κ → Int} (h : Cmp c) (a : κ) : c a a = 0 := (h.eq a a).mpr rfl
theorem Cmp.zero {c : κ → κ → Int} (h : Cmp c) {a b : κ} (e : c a b = 0) : a = b := (h.eq a b).mp e
theorem Cmp.pos {c : κ → κ → Int} (h : Cmp c) {a b : κ} (e : ¬ c a b = 0) (f : ¬ c a b < 0) : c b a < 0 := (h.anti b a).mpr (by omega)
theorem Cmp.no {c : κ → κ → Int} (h : Cmp c) {a b : κ} (e : c a b < 0) : ¬ c b a < 0 := fun f => by have := (h.anti b a).mp f; omega
theorem Cmp.ne {c : κ → κ → Int} (h : Cmp c) {a b : κ} (e : c a b < 0) : ¬ c b a = 0 := fun f => by rw [h.zero f, h.self] at e; omega

/-- with, by the list. -/
theorem with_list {c : κ → κ → Int} (hc : Cmp c) (k : κ) (v : ν) (t : GT κ ν) (h : Rise c t.list) :
    (withT c k v t).list = below c k t.list ++ (k, v) :: above c k t.list := by
  induction t with
  | nil => rfl
  | node xk xv l r hl hr =>
    obtain ⟨h1, h2, h3, h4, h5⟩ := rise_mid.mp h
    simp only [withT]
    split
    · rename_i e
      have e := hc.zero e
      subst e
      simp only [GT.list, below, above, List.filter_append, List.filter_cons, hc.self, Int.lt_irrefl, decide_false, Bool.false_eq_true, if_false]
      rw [filter_whole _ l.list fun p hp => by simpa using h3 p hp, filter_none _ r.list fun p hp => by simpa using hc.no (h4 p hp),
        filter_none _ l.list fun p hp => by simpa using hc.no (h3 p hp), filter_whole _ r.list fun p hp => by simpa using h4 p hp]
      simp
    · split
      · rename_i e1 e
        rw [list_even, list_mk, hl h1]
        simp only [GT.list, below, above, List.filter_append, List.filter_cons, cond_false, decide_eq_true e]
        rw [decide_eq_false (hc.no e), filter_none (fun p => decide (c p.1 k < 0)) r.list fun p hp => by simpa using hc.no (hc.trans _ _ _ e (h4 p hp)),
          filter_whole (fun p => decide (c k p.1 < 0)) r.list fun p hp => by simpa using hc.trans _ _ _ e (h4 p hp)]
        simp
      · rename_i e1 e2
        have e := hc.pos e1 e2
        rw [list_even, list_mk, hr h2]
        simp only [GT.list, below, above, List.filter_append, List.filter_cons, cond_true, decide_eq_true e]
        rw [decide_eq_false e2, filter_whole (fun p => decide (c p.1 k < 0)) l.list fun p hp => by simpa using hc.trans _ _ _ (h3 p hp) e,
          filter_none (fun p => decide (c k p.1 < 0)) l.list fun p hp => by simpa using hc.no (hc.trans _ _ _ (h3 p hp) e)]
        simp

theorem with_rise {c : κ → κ → Int} (hc : Cmp c) (k : κ) (v : ν) (t : GT κ ν) (h : Rise c t.list) : Rise c (withT c k v t).list := by
  rw [with_list hc k v t h, rise_mid]
  refine ⟨h.sublist List.filter_sublist, h.sublist List.filter_sublist, fun p hp => by simpa using (List.mem_filter.mp hp).2, fun p hp => by simpa using (List.mem_filter.mp hp).2, fun p hp q hq => ?_⟩
  exact hc.trans _ k _ (by simpa using (List.mem_filter.mp hp).2) (by simpa using (List.mem_filter.mp hq).2)

theorem mem_with {c : κ → κ → Int} (hc : Cmp c) (k : κ) (v : ν) (t : GT κ ν) (h : Rise c t.list) (p : κ × ν) :
    p ∈ (withT c k v t).list ↔ p = (k, v) ∨ (p ∈ t.list ∧ p.1 ≠ k) := by
  rw [with_list hc k v t h]
  simp only [below, above, List.mem_append, List.mem_filter, List.mem_cons, decide_eq_true_eq]
  constructor
  · rintro (⟨h1, h2⟩ | h1 | ⟨h1, h2⟩)
    · exact .inr ⟨h1, fun e => by rw [e, hc.self] at h2; omega⟩
    · exact .inl h1
    · exact .inr ⟨h1, fun e => by rw [e, hc.self] at h2; omega⟩
  · rintro (h1 | ⟨h1, h2⟩)
    · exact .inr (.inl h1)
    · by_cases e : c p.1 k < 0
      · exact .inl ⟨h1, e⟩
      · exact .inr (.inr ⟨h1, hc.pos (fun f => h2 (hc.zero f)) e⟩)

theorem split_len {c : κ → κ → Int} (hc : Cmp c) (k : κ) (l : List (κ × ν)) : (below c k l).length + (above c k l).length + (l.filter fun p => decide (c k p.1 = 0)).length = l.length := by
  induction l with
  | nil => rfl
  | cons x l ih =>
    simp only [below, above, List.filter_cons] at ih ⊢
    by_cases h0 : c k x.1 = 0
    · have e := hc.zero h0
      rw [← e]
      simp only [hc.self, Int.lt_irrefl, decide_false, Bool.false_eq_true, if_false, decide_true, if_true, List.length_cons]
      omega
    · by_cases h1 : c k x.1 < 0
      · rw [decide_eq_true h1, decide_eq_false (hc.no h1), decide_eq_false h0]
        simp only [Bool.false_eq_true, if_false, if_true, List.length_cons]; omega
      · rw [decide_eq_false h1, decide_eq_true (hc.pos h0 h1), decide_eq_false h0]
        simp only [Bool.false_eq_true, if_false, if_true, List.length_cons]; omega

/-- is there k? -/
def hasK (c : κ → κ → Int) (k : κ) (l : List (κ × ν)) : Bool := l.any fun p => decide (c k p.1 = 0)

theorem hasK_iff {c : κ → κ → Int} (hc : Cmp c) (k : κ) (l : List (κ × ν)) : hasK c k l = true ↔ ∃ v, (k, v) ∈ l := by
  simp only [hasK, List.any_eq_true, decide_eq_true_eq]
  constructor
  · rintro ⟨p, hp, e⟩
    exact ⟨p.2, by rw [hc.zero e]; exact hp⟩
  · rintro ⟨v, hv⟩
    exact ⟨_, hv, hc.self k⟩

theorem one_of {c : κ → κ → Int} (hc : Cmp c) (k : κ) (l : List (κ × ν)) (h : Rise c l) : (l.filter fun p => decide (c k p.1 = 0)).length = if hasK c k l then 1 else 0 := by
  induction l with
  | nil => rfl
  | cons x l ih =>
    have hx := List.pairwise_cons.mp h
    rw [show hasK c k (x :: l) = (decide (c k x.1 = 0) || hasK c k l) from rfl, List.filter_cons]
    by_cases h0 : c k x.1 = 0
    · have e := hc.zero h0
      rw [filter_none _ l fun p hp => by have := hx.1 p hp; rw [← e] at this; simpa using fun f => by omega]
      simp [h0]
    · simpa [h0] using ih hx.2

theorem with_many {c : κ → κ → Int} (hc : Cmp c) (k : κ) (v : ν) (t : GT κ ν) (h : Rise c t.list) : (withT c k v t).many = t.many + if hasK c k t.list then 0 else 1 := by
  rw [GT.many_list, GT.many_list, with_list hc k v t h, List.length_append, List.length_cons]
  have := split_len hc k t.list
  have := one_of hc k t.list h
  cases hq : hasK c k t.list <;> rw [hq] at this <;> simp only [Bool.false_eq_true, if_false, if_true] at this ⊢ <;> omega

/-! find -/
theorem find_val {c : κ → κ → Int} (hc : Cmp c) (k : κ) (t : GT κ ν) (h : Rise c t.list) : (∃ v, (findT c k t).val = some v ∧ (k, v) ∈ t.list) ∨ (findT c k t = .nil ∧ ∀ p ∈ t.list, p.1 ≠ k) := by
  induction t with
  | nil => exact .inr ⟨rfl, fun p hp => by cases hp⟩
  | node xk xv l r hl hr =>
    obtain ⟨h1, h2, h3, h4, h5⟩ := rise_mid.mp h
    simp only [findT]
    split
    · rename_i e
      exact .inl ⟨xv, rfl, by rw [hc.zero e]; simp [GT.list]⟩
    · rename_i e0
      split
      · rename_i e
        rcases hl h1 with ⟨v, q1, q2⟩ | ⟨q1, q2⟩
        · exact .inl ⟨v, q1, by simp only [GT.list]; exact List.mem_append_left _ q2⟩
        · refine .inr ⟨q1, fun p hp => ?_⟩
          simp only [GT.list, List.mem_append, List.mem_cons] at hp
          rcases hp with hp | rfl | hp
          · exact q2 p hp
          · exact fun f => e0 (by rw [← f]; exact hc.self _)
          · have := hc.trans _ _ _ e (h4 p hp)
            exact fun f => by rw [f, hc.self] at this; omega
      · rename_i e1
        have e := hc.pos e0 e1
        rcases hr h2 with ⟨v, q1, q2⟩ | ⟨q1, q2⟩
        · exact .inl ⟨v, q1, by simp only [GT.list]; exact List.mem_append_right _ (List.mem_cons_of_mem _ q2)⟩
        · refine .inr ⟨q1, fun p hp => ?_⟩
          simp only [GT.list, List.mem_append, List.mem_cons] at hp
          rcases hp with hp | rfl | hp
          · have := hc.trans _ _ _ (h3 p hp) e
            exact fun f => by rw [f, hc.self] at this; omega
          · exact fun f => e0 (by rw [← f]; exact hc.self _)
          · exact q2 p hp

theorem rise_one {c : κ → κ → Int} (hc : Cmp c) {l : List (κ × ν)} (h : Rise c l) {k : κ} {v v' : ν} (h1 : (k, v) ∈ l) (h2 : (k, v') ∈ l) : v = v' := by
  induction l with
  | nil => cases h1
  | cons x l ih =>
    have hx := List.pairwise_cons.mp h
    rcases List.mem_cons.mp h1 with e1 | e1 <;> rcases List.mem_cons.mp h2 with e2 | e2
    · rw [← e1] at e2; exact (Prod.mk.inj e2).2.symm
    · have := hx.1 _ e2; rw [← e1, hc.self] at this; omega
    · have := hx.1 _ e1; rw [← e2, hc.self] at this; omega
    · exact ih hx.2 e1 e2

/-! take -/
theorem cut_list (k : κ) (v : ν) (l r : GT κ ν) : (cutT k v l r).1 :: (cutT k v l r).2.list = (GT.node k v l r).list := by
  induction l generalizing k v r with
  | nil => rfl
  | node lk lv ll lr hl _ =>
    simp only [cutT]
    rw [list_even, list_mk, cond_true, show (GT.node k v (GT.node lk lv ll lr) r).list = (GT.node lk lv ll lr).list ++ (k, v) :: r.list from rfl, ← hl lk lv lr]
    rfl

theorem join_list (l r : GT κ ν) : (joinT l r).list = l.list ++ r.list := by
  cases r with
  | nil => simp [joinT, GT.list]
  | node k v a b => simp only [joinT]; rw [list_even, list_mk, cond_false, cut_list]

theorem cut_many (k : κ) (v : ν) (l r : GT κ ν) : (cutT k v l r).2.many + 1 = l.many + 1 + r.many := by
  have h := congrArg List.length (cut_list k v l r)
  rw [List.length_cons, ← GT.many_list, ← GT.many_list] at h
  exact h
theorem join_many (l r : GT κ ν) : (joinT l r).many = l.many + r.many := by
  rw [GT.many_list, join_list, List.length_append, ← GT.many_list, ← GT.many_list]
theorem take_many_le (c : κ → κ → Int) (k : κ) (t : GT κ ν) : (takeT c k t).many ≤ t.many := by
  induction t with
  | nil => exact Nat.le_refl _
  | node xk xv l r hl hr =>
    simp only [takeT]
    split
    · rw [join_many]; simp only [GT.many]; omega
    · split
      · split
        · exact Nat.le_refl _
        · rw [many_even]; simp only [GT.many]; omega
      · split
        · exact Nat.le_refl _
        · rw [many_even]; simp only [GT.many]; omega

theorem take_list {c : κ → κ → Int} (hc : Cmp c) (k : κ) (t : GT κ ν) (h : Rise c t.list) : (takeT c k t).list = apart c k t.list := by
  have nokey : ∀ (t : GT κ ν), (∀ p ∈ t.list, p.1 ≠ k) → apart c k t.list = t.list := fun t ht => filter_whole _ _ fun p hp => by simpa using fun e => ht p hp (hc.zero e).symm
  induction t with
  | nil => rfl
  | node xk xv l r hl hr =>
    obtain ⟨h1, h2, h3, h4, h5⟩ := rise_mid.mp h
    simp only [takeT]
    split
    · rename_i e
      have e := hc.zero e
      subst e
      rw [join_list]
      simp only [GT.list, apart, List.filter_append, List.filter_cons, hc.self, ne_eq, not_true, decide_false, Bool.false_eq_true, if_false]
      rw [filter_whole _ l.list fun p hp => by simpa using hc.ne (h3 p hp), filter_whole _ r.list fun p hp => by simpa using fun f => by have : c k p.1 < 0 := h4 p hp; omega]
    · rename_i e0
      split
      · rename_i e
        have rn : apart c k r.list = r.list := nokey r fun p hp => by
          have := hc.trans _ _ _ e (h4 p hp)
          exact fun f => by rw [f, hc.self] at this; omega
        have whole : (GT.node xk xv l r).list.filter (fun p => decide (c k p.1 ≠ 0)) = apart c k l.list ++ (xk, xv) :: r.list := by
          simp only [GT.list, List.filter_append, List.filter_cons]
          rw [show r.list.filter (fun p => decide (c k p.1 ≠ 0)) = r.list from rn]
          simp [e0, apart]
        rw [show apart c k (GT.node xk xv l r).list = _ from whole]
        rcases find_val hc k l h1 with ⟨v, q1, q2⟩ | ⟨q1, q2⟩
        · cases hf : findT c k l with
          | nil => rw [hf] at q1; cases q1
          | node a b x y => simp only []; rw [list_even, list_mk, cond_true, hl h1]
        · simp only [q1]; rw [nokey l q2]; rfl
      · rename_i e1
        have e := hc.pos e0 e1
        have ln : apart c k l.list = l.list := nokey l fun p hp => by
          have := hc.trans _ _ _ (h3 p hp) e
          exact fun f => by rw [f, hc.self] at this; omega
        have whole : (GT.node xk xv l r).list.filter (fun p => decide (c k p.1 ≠ 0)) = l.list ++ (xk, xv) :: apart c k r.list := by
          simp only [GT.list, List.filter_append, List.filter_cons]
          rw [show l.list.filter (fun p => decide (c k p.1 ≠ 0)) = l.list from ln]
          simp [e0, apart]
        rw [show apart c k (GT.node xk xv l r).list = _ from whole]
        rcases find_val hc k r h2 with ⟨v, q1, q2⟩ | ⟨q1, q2⟩
        · cases hf : findT c k r with
          | nil => rw [hf] at q1; cases q1
          | node a b x y => simp only []; rw [list_even, list_mk, cond_false, hr h2]
        · simp only [q1]; rw [nokey r q2]; rfl

theorem take_rise {c : κ → κ → Int} (hc : Cmp c) (k : κ) (t : GT κ ν) (h : Rise c t.list) : Rise c (takeT c k t).list := by
  rw [take_list hc k t h]; exact h.sublist List.filter_sublist

theorem mem_take {c : κ → κ → Int} (hc : Cmp c) (k : κ) (t : GT κ ν) (h : Rise c t.list) (p : κ × ν) : p ∈ (takeT c k t).list ↔ p ∈ t.list ∧ p.1 ≠ k := by
  rw [take_list hc k t h]
  simp only [apart, List.mem_filter, decide_eq_true_eq]
  exact ⟨fun ⟨a, b⟩ => ⟨a, fun e => b (by rw [e]; exact hc.self k)⟩, fun ⟨a, b⟩ => ⟨a, fun e => b (hc.zero e).symm⟩⟩

theorem take_many {c : κ → κ → Int} (hc : Cmp c) (k : κ) (t : GT κ ν) (h : Rise c t.list) : (takeT c k t).many + (if hasK c k t.list then 1 else 0) = t.many := by
  rw [GT.many_list, GT.many_list, take_list hc k t h, ← one_of hc k t.list h]
  have e : (apart c k t.list).length + (t.list.filter fun p => decide (c k p.1 = 0)).length = t.list.length := by
    induction t.list with
    | nil => rfl
    | cons x l ih =>
      simp only [apart, List.filter_cons] at ih ⊢
      by_cases h0 : c k x.1 = 0
      · simp only [h0, ne_eq, not_true, decide_false, Bool.false_eq_true, if_false, decide_true, if_true, List.length_cons] at ih ⊢; omega
      · simp only [h0, ne_eq, not_false_eq_true, decide_true, if_true, decide_false, Bool.false_eq_true, if_false, List.length_cons] at ih ⊢; omega
  exact e

/-- what a walk from k on shows, by the tree. -/
def fromT (c : κ → κ → Int) (k : κ) : GT κ ν → List (κ × ν)
  | .nil => []
  | .node xk xv l r => if c xk k < 0 then fromT c k r else fromT c k l ++ (xk, xv) :: r.list
theorem from_list {c : κ → κ → Int} (hc : Cmp c) (k : κ) (t : GT κ ν) (h : Rise c t.list) : fromT c k t = from_ c k t.list := by
  induction t with
  | nil => rfl
  | node xk xv l r hl hr =>
    obtain ⟨h1, h2, h3, h4, h5⟩ := rise_mid.mp h
    simp only [fromT, GT.list, from_, List.filter_append, List.filter_cons]
    split
    · rename_i e
      rw [hr h2, filter_none _ l.list fun p hp => by simpa using hc.trans _ _ _ (h3 p hp) e]
      simp [e, from_]
    · rename_i e
      have hall : r.list.filter (fun p => decide (¬ c p.1 k < 0)) = r.list := filter_whole _ _ fun p hp => by
        have h6 := h4 p hp
        simp only [decide_eq_true_eq]
        intro h7
        exact e (hc.trans _ _ _ h6 h7)
      rw [hl h1, hall]
      simp [e, from_]

/-! a walk: what is shown, by a machine that says when to stop -/
def runS {σ : Type} (f : σ → κ → ν → σ × Bool) : σ → List (κ × ν) → σ × Bool
  | s, [] => (s, true)
  | s, p :: ps => if (f s p.1 p.2).2 then runS f (f s p.1 p.2).1 ps else ((f s p.1 p.2).1, false)

theorem runS_append {σ : Type} (f : σ → κ → ν → σ × Bool) (s : σ) (a b : List (κ × ν)) : runS f s (a ++ b) = if (runS f s a).2 then runS f (runS f s a).1 b else ((runS f s a).1, false) := by
  induction a generalizing s with
  | nil => rfl
  | cons p ps ih =>
    simp only [List.cons_append, runS]
    by_cases h : (f s p.1 p.2).2 = true
    · simp only [h, if_true]; exact ih _
    · simp only [h, Bool.false_eq_true, if_false]

end Go.Proofs.Ytaghflionakhhaa
