/-
  Layer grove, pure half of its laws: odd numbers turn what is left over about; counting in trees.
-/
import Derived.Test.YtaghflionakhhaaGvRun
namespace Go.Proofs.Ytaghflionakhhaa

theorem odd_inv256 (h : Nat) (hh : h < 128) : ∃ r, r < 256 ∧ ((1 + 2 * h) * r) % 256 = 1 := by
  have key : ((List.range 128).all fun h => (List.range 256).any fun r => ((1 + 2 * h) * r) % 256 == 1) = true := by decide +kernel
  have k1 := List.all_eq_true.mp key h (List.mem_range.mpr hh)
  obtain ⟨r, hr, e⟩ := List.any_eq_true.mp k1
  exact ⟨r, List.mem_range.mp hr, by simpa using e⟩
theorem odd_inv1024 (h : Nat) (hh : h < 64) : ∃ r, r < 1024 ∧ ((1 + 2 * h) * r) % 1024 = 1 := by
  have key : ((List.range 64).all fun h => (List.range 1024).any fun r => ((1 + 2 * h) * r) % 1024 == 1) = true := by decide +kernel
  have k1 := List.all_eq_true.mp key h (List.mem_range.mpr hh)
  obtain ⟨r, hr, e⟩ := List.any_eq_true.mp k1
  exact ⟨r, List.mem_range.mp hr, by simpa using e⟩

theorem turn_back {m s r : Nat} (h : (s * r) % m = 1) (i : Nat) : ((i * s) % m * r) % m = i % m := by
  have e : (i * s) % m * r % m = i * (s * r) % m := by
    rw [Nat.mod_mul_mod, Nat.mul_assoc]
  rw [e, ← Nat.mul_mod_mod, h, Nat.mul_one]
theorem turn_inj {m s r : Nat} (h : (s * r) % m = 1) {i j : Nat} (hi : i < m) (hj : j < m) (e : (i * s) % m = (j * s) % m) : i = j := by
  have a := turn_back h i
  have b := turn_back h j
  rw [e, b, Nat.mod_eq_of_lt hi, Nat.mod_eq_of_lt hj] at a
  exact a.symm
theorem turn_onto {m s r : Nat} (h : (s * r) % m = 1) {j : Nat} (hj : j < m) : ((j * r) % m * s) % m = j := by
  have := turn_back (m := m) (s := r) (r := s) (by rw [Nat.mul_comm]; exact h) j
  rw [this, Nat.mod_eq_of_lt hj]

variable {κ ν : Type}
/-- how many there are of a kind, behind a put of what is new. -/
theorem with_count {c : κ → κ → Int} (hc : Cmp c) (k : κ) (v : ν) (t : GT κ ν) (h : Rise c t.list) (hn : ∀ p ∈ t.list, p.1 ≠ k) (f : κ × ν → Bool) :
    ((withT c k v t).list.filter f).length = (t.list.filter f).length + if f (k, v) then 1 else 0 := by
  rw [with_list hc k v t h, List.filter_append, List.filter_cons, List.length_append]
  have key : ∀ l : List (κ × ν), (∀ p ∈ l, p.1 ≠ k) → ((below c k l).filter f).length + ((above c k l).filter f).length = (l.filter f).length := by
    intro l
    induction l with
    | nil => intro _; rfl
    | cons x l ih =>
      intro hl
      have ih := ih fun p hp => hl p (List.mem_cons_of_mem _ hp)
      have hx := hl x (List.mem_cons_self ..)
      simp only [below, above, List.filter_cons] at ih ⊢
      by_cases h1 : c k x.1 < 0
      · rw [decide_eq_true h1, decide_eq_false (hc.no h1)]
        cases hf : f x <;> simp only [Bool.false_eq_true, if_false, if_true, List.filter_cons, hf, List.length_cons] <;> omega
      · rw [decide_eq_false h1, decide_eq_true (hc.pos (fun e => hx (hc.zero e).symm) h1)]
        cases hf : f x <;> simp only [Bool.false_eq_true, if_false, if_true, List.filter_cons, hf, List.length_cons] <;> omega
  have := key t.list hn
  cases hf : f (k, v) <;> simp only [Bool.false_eq_true, if_false, if_true, List.length_cons] <;> omega

theorem hasK_no {c : κ → κ → Int} (hc : Cmp c) {k : κ} {l : List (κ × ν)} (h : ∀ p ∈ l, p.1 ≠ k) : hasK c k l = false := by
  cases hq : hasK c k l with
  | false => rfl
  | true =>
    obtain ⟨v, hv⟩ := (hasK_iff hc k l).mp hq
    exact absurd rfl (h _ hv)
theorem hasK_yes {c : κ → κ → Int} (hc : Cmp c) {k : κ} {v : ν} {l : List (κ × ν)} (h : (k, v) ∈ l) : hasK c k l = true := (hasK_iff hc k l).mpr ⟨v, h⟩

/-- what is asked of a tree by the laws: it rises and is even. -/
structure Fine (c : κ → κ → Int) (t : GT κ ν) : Prop where
  rise : Rise c t.list
  bal : bal t
theorem Fine.nil {c : κ → κ → Int} : Fine c (.nil : GT κ ν) := ⟨List.Pairwise.nil, trivial⟩
theorem Fine.put {c : κ → κ → Int} (hc : Cmp c) {t : GT κ ν} (h : Fine c t) (k : κ) (v : ν) : Fine c (withT c k v t) := ⟨with_rise hc k v t h.rise, (with_bal c k v t h.bal).1⟩
theorem Fine.take {c : κ → κ → Int} (hc : Cmp c) {t : GT κ ν} (h : Fine c t) (k : κ) : Fine c (takeT c k t) := ⟨take_rise hc k t h.rise, (take_bal c k t h.bal).1⟩

theorem find_yes {c : κ → κ → Int} (hc : Cmp c) {t : GT κ ν} (h : Fine c t) {k : κ} {v : ν} (hv : (k, v) ∈ t.list) : ∃ a l r, findT c k t = .node a v l r := by
  rcases find_val hc k t h.rise with ⟨v', h1, h2⟩ | ⟨_, h2⟩
  · cases hf : findT c k t with
    | nil => rw [hf] at h1; cases h1
    | node a b l r =>
      rw [hf] at h1
      rw [rise_one hc h.rise hv h2, show b = v' from Option.some.inj h1]
      exact ⟨_, _, _, rfl⟩
  · exact absurd rfl (h2 _ hv)
theorem find_no {c : κ → κ → Int} (hc : Cmp c) {t : GT κ ν} (h : Fine c t) {k : κ} (hn : ∀ p ∈ t.list, p.1 ≠ k) : findT c k t = .nil := by
  rcases find_val hc k t h.rise with ⟨v', _, h2⟩ | ⟨h1, _⟩
  · exact absurd rfl (hn _ h2)
  · exact h1
theorem list_nil {t : GT κ ν} (h : ∀ p, p ∉ t.list) : t = .nil := by
  cases t with
  | nil => rfl
  | node k v l r => exact absurd (by simp [GT.list]) (h (k, v))
end Go.Proofs.Ytaghflionakhhaa
