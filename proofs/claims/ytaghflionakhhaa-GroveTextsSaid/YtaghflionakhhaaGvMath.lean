/-
  Layer grove, pure half: trees balanced by their depths: what they list, how deep they are.
-/
import Init
namespace Go.Proofs.Ytaghflionakhhaa

inductive GT (κ ν : Type) where
  | nil : GT κ ν
  | node (k : κ) (v : ν) (l r : GT κ ν) : GT κ ν

variable {κ ν : Type}

def GT.deep : GT κ ν → Nat
  | .nil => 0
  | .node _ _ l r => max l.deep r.deep + 1

def GT.many : GT κ ν → Nat
  | .nil => 0
  | .node _ _ l r => l.many + 1 + r.many

def GT.list : GT κ ν → List (κ × ν)
  | .nil => []
  | .node k v l r => l.list ++ (k, v) :: r.list

theorem GT.many_list (t : GT κ ν) : t.many = t.list.length := by
  induction t with
  | nil => rfl
  | node k v l r hl hr => simp only [GT.many, GT.list, hl, hr, List.length_append, List.length_cons]; omega

theorem GT.deep_many (t : GT κ ν) : t.deep ≤ t.many := by
  induction t with
  | nil => exact Nat.le_refl _
  | node k v l r hl hr => simp only [GT.many, GT.deep]; omega

theorem GT.deep_nil {t : GT κ ν} : t.deep = 0 ↔ t = .nil := by
  cases t with
  | nil => simp [GT.deep]
  | node k v l r => simp [GT.deep]

theorem GT.many_nil {t : GT κ ν} : t.many = 0 ↔ t = .nil := by
  cases t with
  | nil => simp [GT.many]
  | node k v l r => simp [GT.many]

/-- a node with near on the side s. -/
def mkT (s : Bool) (x : κ × ν) (near far : GT κ ν) : GT κ ν :=
  match s with
  | false => .node x.1 x.2 near far
  | true => .node x.1 x.2 far near

def evenT (s : Bool) (x : κ × ν) (near far : GT κ ν) : GT κ ν :=
  if near.deep ≤ far.deep + 1 then mkT s x near far else
  match near with
  | .nil => mkT s x .nil far
  | .node nk nv l r =>
    if (cond s l r).deep ≤ (cond s r l).deep then mkT s (nk, nv) (cond s r l) (mkT s x (cond s l r) far) else
    match (cond s l r) with
    | .nil => mkT s (nk, nv) (cond s r l) (mkT s x .nil far)
    | .node ik iv il ir => mkT s (ik, iv) (mkT s (nk, nv) (cond s r l) (cond s ir il)) (mkT s x (cond s il ir) far)

def bal : GT κ ν → Prop
  | .nil => True
  | .node _ _ l r => bal l ∧ bal r ∧ l.deep ≤ r.deep + 1 ∧ r.deep ≤ l.deep + 1

theorem list_mk (s : Bool) (x : κ × ν) (a b : GT κ ν) : (mkT s x a b).list = cond s (b.list ++ x :: a.list) (a.list ++ x :: b.list) := by
  cases s <;> rfl

theorem list_even (s : Bool) (x : κ × ν) (a b : GT κ ν) : (evenT s x a b).list = (mkT s x a b).list := by
  unfold evenT
  split
  · rfl
  · cases a with
    | nil => rfl
    | node nk nv l r =>
      cases s
      · simp only [cond_false]
        split
        · simp [mkT, GT.list]
        · cases r with
          | nil => simp [mkT, GT.list]
          | node ik iv il ir => simp [mkT, GT.list]
      · simp only [cond_true]
        split
        · simp [mkT, GT.list]
        · cases l with
          | nil => simp [mkT, GT.list]
          | node ik iv il ir => simp [mkT, GT.list]

theorem deep_mk (s : Bool) (x : κ × ν) (a b : GT κ ν) : (mkT s x a b).deep = max a.deep b.deep + 1 := by
  cases s <;> simp only [mkT, GT.deep] <;> omega

theorem bal_mk {s : Bool} {x : κ × ν} {a b : GT κ ν} : bal (mkT s x a b) ↔ bal a ∧ bal b ∧ a.deep ≤ b.deep + 1 ∧ b.deep ≤ a.deep + 1 := by
  cases s <;> simp only [mkT, bal] <;> constructor <;> (rintro ⟨h1, h2, h3, h4⟩; exact ⟨by assumption, by assumption, by assumption, by assumption⟩)

/-- what even makes of a node that is at most one level out. -/
theorem even_ok (s : Bool) (x : κ × ν) (a b : GT κ ν) (ha : bal a) (hb : bal b) (h1 : a.deep ≤ b.deep + 2) (h2 : b.deep ≤ a.deep + 1) :
    bal (evenT s x a b) ∧ (evenT s x a b).deep ≤ max a.deep b.deep + 1 ∧ max a.deep b.deep ≤ (evenT s x a b).deep ∧ (a.deep ≤ b.deep + 1 → (evenT s x a b).deep = max a.deep b.deep + 1) := by
  unfold evenT
  split
  · rename_i h
    rw [deep_mk]
    exact ⟨bal_mk.mpr ⟨ha, hb, h, h2⟩, Nat.le_refl _, by omega, fun _ => rfl⟩
  · rename_i h
    cases a with
    | nil => simp [GT.deep] at h
    | node nk nv l r =>
      have key : ∀ o i : GT κ ν, bal o → bal i → o.deep ≤ i.deep + 1 → i.deep ≤ o.deep + 1 → max o.deep i.deep + 1 = b.deep + 2 →
          bal (if i.deep ≤ o.deep then mkT s (nk, nv) o (mkT s x i b) else match i with
            | .nil => mkT s (nk, nv) o (mkT s x .nil b)
            | .node ik iv il ir => mkT s (ik, iv) (mkT s (nk, nv) o (cond s ir il)) (mkT s x (cond s il ir) b)) ∧
          (if i.deep ≤ o.deep then mkT s (nk, nv) o (mkT s x i b) else match i with
            | .nil => mkT s (nk, nv) o (mkT s x .nil b)
            | .node ik iv il ir => mkT s (ik, iv) (mkT s (nk, nv) o (cond s ir il)) (mkT s x (cond s il ir) b)).deep ≤ max (max o.deep i.deep + 1) b.deep + 1 ∧
          max (max o.deep i.deep + 1) b.deep ≤ (if i.deep ≤ o.deep then mkT s (nk, nv) o (mkT s x i b) else match i with
            | .nil => mkT s (nk, nv) o (mkT s x .nil b)
            | .node ik iv il ir => mkT s (ik, iv) (mkT s (nk, nv) o (cond s ir il)) (mkT s x (cond s il ir) b)).deep := by
        intro o i bo bi e1 e2 e3
        split
        · rename_i hle
          rw [deep_mk, deep_mk]
          refine ⟨bal_mk.mpr ⟨bo, bal_mk.mpr ⟨bi, hb, ?_, ?_⟩, ?_, ?_⟩, ?_, ?_⟩
          all_goals (try rw [deep_mk])
          all_goals omega
        · rename_i hle
          cases i with
          | nil => simp [GT.deep] at hle
          | node ik iv il ir =>
            obtain ⟨b1, b2, b3, b4⟩ := bi
            simp only [GT.deep] at e1 e2 e3 hle ⊢
            simp only [deep_mk]
            have c1 : (cond s ir il).deep ≤ max il.deep ir.deep ∧ max il.deep ir.deep ≤ (cond s ir il).deep + 1 ∧ bal (cond s ir il) := by cases s <;> exact ⟨by simp only [cond_true, cond_false]; omega, by simp only [cond_true, cond_false]; omega, by assumption⟩
            have c2 : (cond s il ir).deep ≤ max il.deep ir.deep ∧ max il.deep ir.deep ≤ (cond s il ir).deep + 1 ∧ bal (cond s il ir) := by cases s <;> exact ⟨by simp only [cond_true, cond_false]; omega, by simp only [cond_true, cond_false]; omega, by assumption⟩
            obtain ⟨c1, c1', b5⟩ := c1
            obtain ⟨c2, c2', b6⟩ := c2
            refine ⟨bal_mk.mpr ⟨bal_mk.mpr ⟨bo, b5, ?_, ?_⟩, bal_mk.mpr ⟨b6, hb, ?_, ?_⟩, ?_, ?_⟩, ?_, ?_⟩
            all_goals (try rw [deep_mk])
            all_goals (try rw [deep_mk])
            all_goals omega
      obtain ⟨bl, br, d1, d2⟩ := ha
      simp only [GT.deep] at h h1 h2 ⊢
      cases s
      · obtain ⟨k1, k2, k3⟩ := key l r bl br d1 d2 (by omega)
        exact ⟨k1, k2, k3, fun h3 => absurd h3 (by omega)⟩
      · obtain ⟨k1, k2, k3⟩ := key r l br bl d2 d1 (by omega)
        rw [Nat.max_comm r.deep l.deep] at k2 k3
        exact ⟨k1, k2, k3, fun h3 => absurd h3 (by omega)⟩

theorem bal_deep (t : GT κ ν) (h : bal t) : 2 ^ (t.deep / 2) ≤ t.many + 1 ∧ 2 ^ ((t.deep + 1) / 2) ≤ 2 * (t.many + 1) := by
  induction t with
  | nil => simp [GT.deep, GT.many]
  | node k v l r hl hr =>
    obtain ⟨bl, br, d1, d2⟩ := h
    have hl := hl bl
    have hr := hr br
    simp only [GT.deep, GT.many]
    have pw : ∀ a b : Nat, a ≤ b → 2 ^ a ≤ 2 ^ b := fun a b h => Nat.pow_le_pow_right (by omega) h
    have base : 2 ^ ((max l.deep r.deep + 1) / 2) ≤ l.many + 1 + r.many + 1 := by
      rcases Nat.le_total l.deep r.deep with hle | hle
      · rw [Nat.max_eq_right hle]
        have e := pw ((r.deep + 1) / 2) (l.deep / 2 + 1) (by omega)
        rw [Nat.pow_succ] at e
        by_cases hq : (r.deep + 1) / 2 = r.deep / 2
        · rw [hq]; omega
        · have e2 := pw (r.deep / 2) (r.deep / 2 + 1) (by omega)
          have e3 : (r.deep + 1) / 2 = r.deep / 2 + 1 := by omega
          have e4 : r.deep / 2 ≤ l.deep / 2 := by omega
          have e5 := pw _ _ e4
          rw [e3, Nat.pow_succ]
          omega
      · rw [Nat.max_eq_left hle]
        have e := pw ((l.deep + 1) / 2) (r.deep / 2 + 1) (by omega)
        rw [Nat.pow_succ] at e
        by_cases hq : (l.deep + 1) / 2 = l.deep / 2
        · rw [hq]; omega
        · have e3 : (l.deep + 1) / 2 = l.deep / 2 + 1 := by omega
          have e4 : l.deep / 2 ≤ r.deep / 2 := by omega
          have e5 := pw _ _ e4
          rw [e3, Nat.pow_succ]
          omega
    refine ⟨base, ?_⟩
    have e : (max l.deep r.deep + 1 + 1) / 2 ≤ (max l.deep r.deep + 1) / 2 + 1 := by omega
    have e2 := pw _ _ e
    rw [Nat.pow_succ] at e2
    omega

/-- the depth that P6.2 asks: L is the number of bits of many. -/
theorem deep_bits (t : GT κ ν) (h : bal t) (L : Nat) (hL : t.many < 2 ^ L) : t.deep ≤ 2 + 4 * L := by
  have h1 := (bal_deep t h).1
  have h2 : 2 ^ (t.deep / 2) < 2 ^ (L + 1) := by rw [Nat.pow_succ]; omega
  have h3 : t.deep / 2 < L + 1 := (Nat.pow_lt_pow_iff_right (by omega)).mp h2
  omega

/-! with, cut, join, without, find -/
def withT (c : κ → κ → Int) (k : κ) (v : ν) : GT κ ν → GT κ ν
  | .nil => .node k v .nil .nil
  | .node xk xv l r =>
    if c k xk = 0 then .node k v l r
    else if c k xk < 0 then evenT false (xk, xv) (withT c k v l) r
    else evenT true (xk, xv) (withT c k v r) l

/-- the least item of a node, and the tree without it. -/
def cutT (k : κ) (v : ν) (l r : GT κ ν) : (κ × ν) × GT κ ν :=
  match l with
  | .nil => ((k, v), r)
  | .node lk lv ll lr => ((cutT lk lv ll lr).1, evenT true (k, v) r (cutT lk lv ll lr).2)

def joinT (low high : GT κ ν) : GT κ ν :=
  match high with
  | .nil => low
  | .node k v l r => evenT false (cutT k v l r).1 low (cutT k v l r).2

/-- the node that has k. -/
def findT (c : κ → κ → Int) (k : κ) : GT κ ν → GT κ ν
  | .nil => .nil
  | .node xk xv l r =>
    if c k xk = 0 then .node xk xv l r
    else if c k xk < 0 then findT c k l
    else findT c k r

/-- what without answers: where there is no k, the tree itself. -/
def takeT (c : κ → κ → Int) (k : κ) : GT κ ν → GT κ ν
  | .nil => .nil
  | .node xk xv l r =>
    if c k xk = 0 then joinT l r
    else if c k xk < 0 then (match findT c k l with | .nil => .node xk xv l r | .node _ _ _ _ => evenT true (xk, xv) r (takeT c k l))
    else (match findT c k r with | .nil => .node xk xv l r | .node _ _ _ _ => evenT false (xk, xv) l (takeT c k r))

theorem take_nil (c : κ → κ → Int) (k : κ) (t : GT κ ν) (h : findT c k t = .nil) : takeT c k t = t := by
  cases t with
  | nil => rfl
  | node xk xv l r =>
    simp only [findT] at h
    simp only [takeT]
    split at h
    · cases h
    · rename_i e0
      split at h
      · rename_i e1
        rw [if_neg e0, if_pos e1, h]
      · rename_i e1
        rw [if_neg e0, if_neg e1, h]

def GT.val : GT κ ν → Option ν
  | .nil => none
  | .node _ v _ _ => some v

theorem even_node (s : Bool) (x : κ × ν) (a b : GT κ ν) : evenT s x a b ≠ .nil := fun h => by
  have := congrArg GT.many h
  rw [show (evenT s x a b).many = a.many + b.many + 1 by
    rw [GT.many_list, list_even, ← GT.many_list]; cases s <;> simp only [mkT, GT.many] <;> omega] at this
  simp [GT.many] at this
theorem with_node (c : κ → κ → Int) (k : κ) (v : ν) (t : GT κ ν) : ∃ a b l r, withT c k v t = .node a b l r := by
  cases t with
  | nil => exact ⟨k, v, .nil, .nil, rfl⟩
  | node xk xv l r =>
    simp only [withT]
    split
    · exact ⟨_, _, _, _, rfl⟩
    · split
      · cases h : evenT false (xk, xv) (withT c k v l) r with
        | nil => exact absurd h (even_node _ _ _ _)
        | node a b l r => exact ⟨_, _, _, _, rfl⟩
      · cases h : evenT true (xk, xv) (withT c k v r) l with
        | nil => exact absurd h (even_node _ _ _ _)
        | node a b l r => exact ⟨_, _, _, _, rfl⟩
theorem with_many_le (c : κ → κ → Int) (k : κ) (v : ν) (t : GT κ ν) : (withT c k v t).many ≤ t.many + 1 := by
  have me : ∀ (s : Bool) (x : κ × ν) (a b : GT κ ν), (evenT s x a b).many = a.many + b.many + 1 := fun s x a b => by
    rw [GT.many_list, list_even, ← GT.many_list]; cases s <;> simp only [mkT, GT.many] <;> omega
  induction t with
  | nil => simp [withT, GT.many]
  | node xk xv l r hl hr =>
    simp only [withT]
    split
    · simp only [GT.many]; omega
    · split <;> (rw [me]; simp only [GT.many]; omega)

theorem with_bal (c : κ → κ → Int) (k : κ) (v : ν) (t : GT κ ν) (h : bal t) : bal (withT c k v t) ∧ t.deep ≤ (withT c k v t).deep ∧ (withT c k v t).deep ≤ t.deep + 1 := by
  induction t with
  | nil => simp [withT, bal, GT.deep]
  | node xk xv l r hl hr =>
    obtain ⟨bl, br, d1, d2⟩ := h
    obtain ⟨l1, l2, l3⟩ := hl bl
    obtain ⟨r1, r2, r3⟩ := hr br
    simp only [withT]
    split
    · exact ⟨⟨bl, br, d1, d2⟩, by simp [GT.deep], by simp [GT.deep]⟩
    · split
      · obtain ⟨e1, e2, e3, e4⟩ := even_ok false (xk, xv) (withT c k v l) r l1 br (by omega) (by omega)
        refine ⟨e1, ?_, ?_⟩
        · simp only [GT.deep]
          by_cases hh : (withT c k v l).deep ≤ r.deep + 1
          · rw [e4 hh]; omega
          · omega
        · simp only [GT.deep]; omega
      · obtain ⟨e1, e2, e3, e4⟩ := even_ok true (xk, xv) (withT c k v r) l r1 bl (by omega) (by omega)
        refine ⟨e1, ?_, ?_⟩
        · simp only [GT.deep]
          by_cases hh : (withT c k v r).deep ≤ l.deep + 1
          · rw [e4 hh]; omega
          · omega
        · simp only [GT.deep]; omega

theorem cut_bal (k : κ) (v : ν) (l r : GT κ ν) (h : bal (.node k v l r)) : bal (cutT k v l r).2 ∧ (cutT k v l r).2.deep ≤ (GT.node k v l r).deep ∧ (GT.node k v l r).deep ≤ (cutT k v l r).2.deep + 1 := by
  induction l generalizing k v r with
  | nil =>
    obtain ⟨bl, br, d1, d2⟩ := h
    refine ⟨br, ?_, ?_⟩ <;> simp only [cutT, GT.deep] at * <;> omega
  | node lk lv ll lr hl _ =>
    obtain ⟨bl, br, d1, d2⟩ := h
    obtain ⟨c1, c2, c3⟩ := hl lk lv lr bl
    simp only [cutT]
    obtain ⟨e1, e2, e3, e4⟩ := even_ok true (k, v) r (cutT lk lv ll lr).2 br c1 (by omega) (by omega)
    refine ⟨e1, ?_, ?_⟩
    · simp only [GT.deep] at *; omega
    · rw [show (GT.node k v (GT.node lk lv ll lr) r).deep = max (GT.node lk lv ll lr).deep r.deep + 1 from rfl]
      by_cases hh : r.deep ≤ (cutT lk lv ll lr).2.deep + 1
      · rw [e4 hh]; omega
      · omega

theorem join_bal (l r : GT κ ν) (bl : bal l) (br : bal r) (d1 : l.deep ≤ r.deep + 1) (d2 : r.deep ≤ l.deep + 1) :
    bal (joinT l r) ∧ (joinT l r).deep ≤ max l.deep r.deep + 1 ∧ max l.deep r.deep ≤ (joinT l r).deep := by
  cases r with
  | nil => exact ⟨bl, by simp only [joinT]; omega, by simp only [joinT, GT.deep]; omega⟩
  | node k v a b =>
    obtain ⟨c1, c2, c3⟩ := cut_bal k v a b br
    simp only [joinT]
    obtain ⟨e1, e2, e3, e4⟩ := even_ok false (cutT k v a b).1 l (cutT k v a b).2 bl c1 (by omega) (by omega)
    refine ⟨e1, ?_, ?_⟩
    · omega
    · by_cases hh : l.deep ≤ (cutT k v a b).2.deep + 1
      · rw [e4 hh]; omega
      · omega

theorem take_bal (c : κ → κ → Int) (k : κ) (t : GT κ ν) (h : bal t) : bal (takeT c k t) ∧ (takeT c k t).deep ≤ t.deep ∧ t.deep ≤ (takeT c k t).deep + 1 := by
  induction t with
  | nil => simp [takeT, bal]
  | node xk xv l r hl hr =>
    have hh := h
    obtain ⟨bl, br, d1, d2⟩ := h
    obtain ⟨l1, l2, l3⟩ := hl bl
    obtain ⟨r1, r2, r3⟩ := hr br
    simp only [takeT]
    split
    · obtain ⟨j1, j2, j3⟩ := join_bal l r bl br d1 d2
      exact ⟨j1, j2, by simp only [GT.deep]; omega⟩
    · split
      · split
        · exact ⟨hh, by omega, by omega⟩
        · obtain ⟨e1, e2, e3, e4⟩ := even_ok true (xk, xv) r (takeT c k l) br l1 (by omega) (by omega)
          refine ⟨e1, by simp only [GT.deep]; omega, ?_⟩
          rw [show (GT.node xk xv l r).deep = max l.deep r.deep + 1 from rfl]
          by_cases hq : r.deep ≤ (takeT c k l).deep + 1
          · rw [e4 hq]; omega
          · omega
      · split
        · exact ⟨hh, by omega, by omega⟩
        · obtain ⟨e1, e2, e3, e4⟩ := even_ok false (xk, xv) l (takeT c k r) bl r1 (by omega) (by omega)
          refine ⟨e1, by simp only [GT.deep]; omega, ?_⟩
          rw [show (GT.node xk xv l r).deep = max l.deep r.deep + 1 from rfl]
          by_cases hq : l.deep ≤ (takeT c k r).deep + 1
          · rw [e4 hq]; omega
          · omega

theorem many_mk (s : Bool) (x : κ × ν) (a b : GT κ ν) : (mkT s x a b).many = a.many + b.many + 1 := by
  cases s <;> simp only [mkT, GT.many] <;> omega
theorem many_even (s : Bool) (x : κ × ν) (a b : GT κ ν) : (evenT s x a b).many = a.many + b.many + 1 := by
  rw [GT.many_list, list_even, ← GT.many_list, many_mk]
theorem even_small {s : Bool} {x : κ × ν} {a b : GT κ ν} (h : a.deep ≤ b.deep + 1) : evenT s x a b = mkT s x a b := by unfold evenT; rw [if_pos h]
theorem even_outer_false {x : κ × ν} {nk : κ} {nv : ν} {l r b : GT κ ν} (h : ¬ (GT.node nk nv l r).deep ≤ b.deep + 1) (h2 : r.deep ≤ l.deep) : evenT false x (.node nk nv l r) b = mkT false (nk, nv) l (mkT false x r b) := by
  unfold evenT; rw [if_neg h]; exact if_pos h2
theorem even_outer_true {x : κ × ν} {nk : κ} {nv : ν} {l r b : GT κ ν} (h : ¬ (GT.node nk nv l r).deep ≤ b.deep + 1) (h2 : l.deep ≤ r.deep) : evenT true x (.node nk nv l r) b = mkT true (nk, nv) r (mkT true x l b) := by
  unfold evenT; rw [if_neg h]; exact if_pos h2
theorem even_inner_false {x : κ × ν} {nk ik : κ} {nv iv : ν} {l il ir b : GT κ ν} (h : ¬ (GT.node nk nv l (.node ik iv il ir)).deep ≤ b.deep + 1) (h2 : ¬ (GT.node ik iv il ir).deep ≤ l.deep) :
    evenT false x (.node nk nv l (.node ik iv il ir)) b = mkT false (ik, iv) (mkT false (nk, nv) l il) (mkT false x ir b) := by
  unfold evenT; rw [if_neg h]; exact if_neg h2
theorem even_inner_true {x : κ × ν} {nk ik : κ} {nv iv : ν} {r il ir b : GT κ ν} (h : ¬ (GT.node nk nv (.node ik iv il ir) r).deep ≤ b.deep + 1) (h2 : ¬ (GT.node ik iv il ir).deep ≤ r.deep) :
    evenT true x (.node nk nv (.node ik iv il ir) r) b = mkT true (ik, iv) (mkT true (nk, nv) r ir) (mkT true x il b) := by
  unfold evenT; rw [if_neg h]; exact if_neg h2
end Go.Proofs.Ytaghflionakhhaa
