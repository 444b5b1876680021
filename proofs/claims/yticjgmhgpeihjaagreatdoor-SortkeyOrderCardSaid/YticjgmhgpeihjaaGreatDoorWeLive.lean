/-
  Plain mathematics of weigh: the places of a text that are not gone, linked; what a row takes from further on.
-/
import Derived.Test.YticjgmhgpeihjaaGreatDoorWeMath
namespace Go.Gz

/-! ### links -/
/-- from e on, next goes through L, and to n. -/
def Lk (nx : Nat → Nat) (n : Nat) : Nat → List Nat → Prop
  | e, [] => nx e = n
  | e, i :: t => nx e = i ∧ Lk nx n i t
/-- a is where L begins, and next goes through it. -/
def AtL (nx : Nat → Nat) (n : Nat) (a : Nat) : List Nat → Prop
  | [] => a = n
  | i :: t => a = i ∧ Lk nx n i t
def lastE : Nat → List Nat → Nat
  | e, [] => e
  | _, i :: t => lastE i t
def updN (nx : Nat → Nat) (a v : Nat) : Nat → Nat := fun i => if i = a then v else nx i

theorem lk_at {nx : Nat → Nat} {n e : Nat} : ∀ {L : List Nat}, Lk nx n e L → AtL nx n (nx e) L
  | [], h => h
  | _ :: _, h => h
theorem lk_append {nx : Nat → Nat} {n : Nat} {R : List Nat} : ∀ {P : List Nat} {e : Nat}, Lk nx n e (P ++ R) → Lk nx n (lastE e P) R
  | [], _, h => h
  | _ :: t, _, h => lk_append (P := t) h.2
theorem lk_congr {nx nx' : Nat → Nat} {n : Nat} : ∀ {L : List Nat} {e : Nat}, nx' e = nx e → (∀ i ∈ L, nx' i = nx i) → Lk nx n e L → Lk nx' n e L
  | [], _, he, _, h => he.trans h
  | i :: t, _, he, hL, h => ⟨he.trans h.1, lk_congr (hL i (by simp)) (fun j hj => hL j (by simp [hj])) h.2⟩
theorem lastE_mem : ∀ {P : List Nat} {e : Nat}, lastE e P ∈ e :: P
  | [], e => by simp [lastE]
  | i :: t, e => by
    have := lastE_mem (P := t) (e := i)
    exact List.mem_cons_of_mem _ this
theorem lastE_append : ∀ {P Q : List Nat} {e : Nat}, lastE e (P ++ Q) = lastE (lastE e P) Q
  | [], _, _ => rfl
  | _ :: t, _, _ => lastE_append (P := t)
theorem lk_remove {nx : Nat → Nat} {n p : Nat} {R : List Nat} : ∀ {P : List Nat} {e : Nat}, (e :: (P ++ p :: R)).Pairwise (· < ·) → Lk nx n e (P ++ p :: R) → Lk (updN nx (lastE e P) (nx p)) n e (P ++ R)
  | [], e, hs, h => by
    obtain ⟨_, h2⟩ := h
    have hlt := (List.pairwise_cons.1 hs).1
    have e1 : updN nx (lastE e []) (nx p) e = nx p := by simp [updN, lastE]
    cases R with
    | nil => exact e1.trans h2
    | cons r t =>
      refine ⟨e1.trans h2.1, lk_congr ?_ (fun i hi => ?_) h2.2⟩
      · have := hlt r (by simp)
        show (if r = e then nx p else nx r) = nx r; rw [if_neg (by omega)]
      · have := hlt i (by simp [hi])
        show (if i = e then nx p else nx i) = nx i; rw [if_neg (by omega)]
  | q :: P, e, hs, h => by
    obtain ⟨h1, h2⟩ := h
    have hlt := (List.pairwise_cons.1 hs).1
    refine ⟨?_, lk_remove (List.pairwise_cons.1 hs).2 h2⟩
    have hm : lastE q P ∈ q :: P := lastE_mem
    have := hlt (lastE q P) (by rw [List.cons_append]; rcases List.mem_cons.1 hm with h | h <;> simp [h])
    show (if e = lastE q P then nx p else nx e) = q
    rw [if_neg (by omega)]; exact h1
theorem at_range' (n : Nat) : ∀ (k s : Nat), s + k = n → AtL (fun i => i + 1) n s (List.range' s k)
  | 0, s, h => by simp [AtL]; omega
  | k + 1, s, h => by
    rw [List.range'_succ]
    refine ⟨rfl, ?_⟩
    have := at_range' n k (s + 1) (by omega)
    cases hL : List.range' (s + 1) k with
    | nil => rw [hL] at this; exact this
    | cons i t => rw [hL] at this; exact ⟨this.1, this.2⟩
theorem at_range (n : Nat) : AtL (fun i => i + 1) n 0 (List.range n) := by
  rw [List.range_eq_range']; exact at_range' n n 0 (by omega)
theorem atL_lt {nx : Nat → Nat} {n a : Nat} {L : List Nat} (h : AtL nx n a L) (hl : ∀ i ∈ L, i < n) : (L = [] ∧ a = n) ∨ ∃ t, L = a :: t ∧ a < n ∧ Lk nx n a t := by
  cases L with
  | nil => exact Or.inl ⟨rfl, h⟩
  | cons i t =>
    obtain ⟨rfl, h2⟩ := h
    exact Or.inr ⟨t, rfl, hl _ (by simp), h2⟩

/-! ### what is not gone -/
structure Lasts (c : Nat → Int) (la : Nat → Nat) (n : Nat) : Prop where
  le : ∀ i, i < n → i ≤ la i ∧ la i < n
  same : ∀ i, i < n → ∀ j, i ≤ j → j ≤ la i → c j = c i
  next : ∀ i, i < n → la i + 1 < n → c (la i + 1) ≠ c i
def Ord (c : Nat → Int) (n : Nat) : Prop := ∀ i, i + 1 < n → 0 < c (i + 1) → c i ≤ c (i + 1)
structure Live (c : Nat → Int) (la : Nat → Nat) (n : Nat) (I : List Nat) : Prop where
  srt : I.Pairwise (· < ·)
  lt : ∀ i ∈ I, i < n
  run : ∀ i ∈ I, ∀ j, i ≤ j → j ≤ la i → j ∈ I
  gone : ∀ i ∈ I, ∀ j, i < j → j < n → j ∉ I → 0 < c j

theorem ord_between {c : Nat → Int} {n : Nat} (h : Ord c n) : ∀ (d i : Nat), i + d < n → (∀ t, i < t → t ≤ i + d → 0 < c t) → c i ≤ c (i + d)
  | 0, _, _, _ => Int.le_refl _
  | d + 1, i, hn, hp => by
    have h1 := ord_between h d i (by omega) fun t h1 h2 => hp t h1 (by omega)
    have h2 := h (i + d) (by omega) (hp _ (by omega) (by omega))
    rw [← Nat.add_assoc]; omega
theorem live_range (c : Nat → Int) {la : Nat → Nat} {n : Nat} (hl : Lasts c la n) : Live c la n (List.range n) :=
  ⟨by rw [List.range_eq_range']; exact List.pairwise_lt_range', fun i hi => List.mem_range.1 hi, fun i hi j _ h2 => List.mem_range.2 (by have := (hl.le i (List.mem_range.1 hi)).2; omega), fun _ _ j _ h3 h4 => absurd (List.mem_range.2 h3) h4⟩
theorem live_back {c : Nat → Int} {la : Nat → Nat} {n : Nat} {P R : List Nat} (h : Live c la n (P ++ R)) : Live c la n R := by
  have hs := List.pairwise_append.1 h.srt
  refine ⟨hs.2.1, fun i hi => h.lt i (by simp [hi]), fun i hi j h1 h2 => ?_, fun i hi j h1 h2 h3 => ?_⟩
  · rcases List.mem_append.1 (h.run i (by simp [hi]) j h1 h2) with hj | hj
    · have := hs.2.2 j hj i hi; omega
    · exact hj
  · refine h.gone i (by simp [hi]) j h1 h2 fun hj => ?_
    rcases List.mem_append.1 hj with hj | hj
    · have := hs.2.2 j hj i hi; omega
    · exact h3 hj
theorem live_take {c : Nat → Int} {la : Nat → Nat} {n p : Nat} {P R : List Nat} (hl : Lasts c la n) (h : Live c la n (P ++ p :: R)) (hp : 0 < c p) (hc : ∀ x ∈ P, c x < c p) : Live c la n (P ++ R) := by
  have hs := List.pairwise_append.1 h.srt
  have hsub : ∀ i, i ∈ P ++ R → i ∈ P ++ p :: R := fun i hi => by
    rcases List.mem_append.1 hi with h | h <;> simp [h]
  refine ⟨List.pairwise_append.2 ⟨hs.1, (List.pairwise_cons.1 hs.2.1).2, fun a ha b hb => hs.2.2 a ha b (by simp [hb])⟩, fun i hi => h.lt i (hsub i hi), fun i hi j h1 h2 => ?_, fun i hi j h1 h2 h3 => ?_⟩
  · have hj := h.run i (hsub i hi) j h1 h2
    by_cases e : j = p
    · subst e
      rcases List.mem_append.1 hi with hi' | hi'
      · have h5 := hl.same i (h.lt i (hsub i hi)) j h1 h2
        have := hc i hi'; omega
      · have := (List.pairwise_cons.1 hs.2.1).1 i hi'; omega
    · rcases List.mem_append.1 hj with hj | hj
      · simp [hj]
      · rcases List.mem_cons.1 hj with hj | hj
        · exact absurd hj e
        · simp [hj]
  · by_cases e : j = p
    · subst e; exact hp
    · refine h.gone i (hsub i hi) j h1 h2 fun hj => h3 ?_
      rcases List.mem_append.1 hj with hj | hj
      · simp [hj]
      · rcases List.mem_cons.1 hj with hj | hj
        · exact absurd hj e
        · simp [hj]
/-- the class of the next one that is not gone. -/
theorem live_next {c : Nat → Int} {la : Nat → Nat} {n p m q : Nat} {P Q R : List Nat} (_ho : Ord c n) (h : Live c la n (P ++ Q ++ q :: R)) (hp : p ∈ Q) (hm : ∀ x ∈ Q, x ≤ m) (_hmq : m < q) (hpm : p ≤ m) (hq : 0 < c q) : ∀ t, m < t → t ≤ q → 0 < c t := by
  intro t h1 h2
  by_cases e : t = q
  · rw [e]; exact hq
  · refine h.gone p (by simp [hp]) t (by omega) (by have := h.lt q (by simp); omega) fun ht => ?_
    have hs := List.pairwise_append.1 h.srt
    have hs1 := List.pairwise_append.1 hs.1
    rcases List.mem_append.1 ht with ht | ht
    · rcases List.mem_append.1 ht with ht | ht
      · have := hs1.2.2 t ht p hp; omega
      · have := hm t ht; omega
    · rcases List.mem_cons.1 ht with ht | ht
      · exact e ht
      · have := (List.pairwise_cons.1 hs.2.1).1 t ht; omega
theorem mem_tw {p : Nat → Bool} : ∀ {l : List Nat} {x : Nat}, x ∈ l.takeWhile p → p x = true
  | [], _, h => by simp at h
  | y :: t, x, h => by
    rw [List.takeWhile_cons] at h
    split at h
    · rename_i hy
      rcases List.mem_cons.1 h with rfl | h
      · exact hy
      · exact mem_tw h
    · simp at h
theorem dw_head {p : Nat → Bool} : ∀ {l T : List Nat} {q : Nat}, l.dropWhile p = q :: T → p q = false
  | [], _, _, h => by simp at h
  | y :: t, T, q, h => by
    rw [List.dropWhile_cons] at h
    split at h
    · exact dw_head h
    · rename_i hy
      cases h; simpa using hy
theorem lastE_max {m : Nat} : ∀ {Q : List Nat} {e : Nat}, Q.Pairwise (· < ·) → m ∈ Q → (∀ x ∈ Q, x ≤ m) → lastE e Q = m
  | [], _, _, h, _ => by simp at h
  | [x], _, _, h, _ => by simp at h; simp [lastE, h]
  | x :: y :: t, _, hs, h, hle => by
    have h1 := (List.pairwise_cons.1 hs).1 y (by simp)
    have h2 := hle y (by simp)
    have hmem : m ∈ y :: t := by
      rcases List.mem_cons.1 h with h | h
      · omega
      · exact h
    have := lastE_max (e := x) (List.pairwise_cons.1 hs).2 hmem fun z hz => hle z (by simp [hz])
    exact this
/-- those of the class of p, beside it, that are not gone. -/
theorem live_jump {c : Nat → Int} {la : Nat → Nat} {n p : Nat} {P R : List Nat} (hl : Lasts c la n) (ho : Ord c n) (hn : ∀ i, i < n → 0 ≤ c i) (h : Live c la n (P ++ p :: R)) :
    ∃ Q T, R = Q ++ T ∧ lastE p Q = la p ∧ (∀ x ∈ Q, c x = c p) ∧ ∀ q T', T = q :: T' → c q = 0 ∨ c p < c q := by
  have hs := List.pairwise_append.1 h.srt
  have hpn := h.lt p (by simp)
  have hle := hl.le p hpn
  have hR := List.pairwise_cons.1 hs.2.1
  refine ⟨R.takeWhile fun i => decide (i ≤ la p), R.dropWhile fun i => decide (i ≤ la p), List.takeWhile_append_dropWhile.symm, ?_, fun x hx => ?_, fun q T' hT => ?_⟩
  · have hsplit := List.takeWhile_append_dropWhile (p := fun i => decide (i ≤ la p)) (l := R)
    have hm : la p ∈ p :: R := by
      rcases List.mem_append.1 (h.run p (by simp) (la p) hle.1 (Nat.le_refl _)) with hm | hm
      · have := hs.2.2 _ hm p (by simp); omega
      · exact hm
    have hall : ∀ x ∈ R.takeWhile (fun i => decide (i ≤ la p)), x ≤ la p := fun x hx => by simpa using mem_tw hx
    have hsT : (R.takeWhile fun i => decide (i ≤ la p)).Pairwise (· < ·) := hR.2.sublist (List.takeWhile_sublist _)
    rcases List.mem_cons.1 hm with hm | hm
    · cases hq : R.takeWhile (fun i => decide (i ≤ la p)) with
      | nil => exact hm.symm
      | cons y t =>
        have hy : y ∈ R.takeWhile (fun i => decide (i ≤ la p)) := by rw [hq]; simp
        have h1 := hall y hy
        have h2 := hR.1 y ((List.takeWhile_sublist _).subset hy)
        omega
    · refine lastE_max hsT ?_ hall
      rw [← hsplit] at hm
      rcases List.mem_append.1 hm with hm | hm
      · exact hm
      · cases hd : R.dropWhile (fun i => decide (i ≤ la p)) with
        | nil => rw [hd] at hm; simp at hm
        | cons y t =>
          have hy : ¬ y ≤ la p := by
            have := dw_head hd
            simpa using this
          rw [hd] at hm
          have hsd : (y :: t).Pairwise (· < ·) := hd ▸ hR.2.sublist (List.dropWhile_sublist _)
          rcases List.mem_cons.1 hm with hm | hm
          · omega
          · have := (List.pairwise_cons.1 hsd).1 _ hm; omega
  · have hxR := (List.takeWhile_sublist _).subset hx
    have := hR.1 x hxR
    exact hl.same p hpn x (by omega) (by simpa using mem_tw hx)
  · have hsplit := List.takeWhile_append_dropWhile (p := fun i => decide (i ≤ la p)) (l := R)
    have hq : ¬ q ≤ la p := by
      have := dw_head hT
      simpa using this
    have hqI : q ∈ P ++ p :: R := by
      have : q ∈ R := (List.dropWhile_sublist _).subset (by rw [hT]; simp)
      simp [this]
    have hqn := h.lt q hqI
    by_cases hc : c q = 0
    · exact Or.inl hc
    · right
      have hcq : 0 < c q := by have := hn q hqn; omega
      have h' : Live c la n (P ++ (p :: R.takeWhile fun i => decide (i ≤ la p)) ++ q :: T') := by
        rw [← hT, List.append_assoc, List.cons_append, hsplit]; exact h
      have hpos := live_next (m := la p) (p := p) ho h' (by simp) (fun x hx => by
        rcases List.mem_cons.1 hx with rfl | hx
        · exact hle.1
        · simpa using mem_tw hx) (by omega) hle.1 hcq
      have h1 := ho (la p) (by omega) (hpos _ (by omega) (by omega))
      have h2 := hl.next p hpn (by omega)
      have h3 := ord_between ho (q - (la p + 1)) (la p + 1) (by omega) fun t a b => hpos t (by omega) (by omega)
      rw [show la p + 1 + (q - (la p + 1)) = q by omega] at h3
      have h4 := hl.same p hpn (la p) hle.1 (Nat.le_refl _)
      omega

/-! ### what a row takes, place by place -/
section
variable (f : Nat → Int) (cls : Int → Int) (row : List Int → Option WR)
theorem lengthen_skip : ∀ (Q R : List Nat) (best : WR) (passed : Int), (∀ x ∈ Q, cls (f x) ≠ 0 ∧ cls (f x) ≤ passed) → lengthenG f cls row best passed (Q ++ R) = ((lengthenG f cls row best passed R).1, Q ++ (lengthenG f cls row best passed R).2)
  | [], R, best, passed, _ => rfl
  | q :: Q, R, best, passed, h => by
    have hq := h q (by simp)
    rw [List.cons_append, lengthenG, if_neg hq.1, if_pos hq.2, lengthen_skip Q R best passed fun x hx => h x (by simp [hx])]
    rfl
theorem lengthen_full (hrow : ∀ k : List Int, 3 < k.length → row k = none) : ∀ (l : List Nat) (best : WR) (passed : Int), 3 ≤ best.of.length → lengthenG f cls row best passed l = (best, l)
  | [], _, _, _ => rfl
  | r :: t, best, passed, h => by
    rw [lengthenG]
    split
    · rfl
    · split
      · rw [lengthen_full hrow t best passed h]
      · rw [hrow _ (by simp; omega), lengthen_full hrow t best _ h]

/-- the pass of lengthen, at some place. -/
structure LenInv (la : Nat → Nat) (n : Nat) (x0 : WR) (L : List Nat) (best : WR) (passed : Int) (P R : List Nat) : Prop where
  live : Live (fun i => cls (f i)) la n (P ++ R)
  le : ∀ x ∈ P, cls (f x) ≤ passed
  hd : ∀ p R', R = p :: R' → cls (f p) = 0 ∨ passed < cls (f p)
  eq : lengthenG f cls row x0 0 L = ((lengthenG f cls row best passed R).1, P ++ (lengthenG f cls row best passed R).2)
variable {f cls row} {la : Nat → Nat} {n : Nat} {x0 : WR} {L : List Nat} {best : WR} {passed : Int} {P R : List Nat} {p : Nat}
theorem LenInv.start (hn : ∀ i, i < n → 0 ≤ cls (f i)) (h : Live (fun i => cls (f i)) la n L) : LenInv f cls row la n x0 L x0 0 [] L :=
  ⟨h, fun x hx => by simp at hx, fun p R' e => by
    have := hn p (h.lt p (by rw [e]; simp)); omega, rfl⟩
theorem LenInv.take {x : WR} (hl : Lasts (fun i => cls (f i)) la n) (ho : Ord (fun i => cls (f i)) n) (hn : ∀ i, i < n → 0 ≤ cls (f i)) (h : LenInv f cls row la n x0 L best passed P (p :: R)) (hp : 0 < cls (f p)) (hx : row (best.of ++ [f p]) = some x) :
    LenInv f cls row la n x0 L x passed P R := by
  have hd := h.hd p R rfl
  have hpp : passed < cls (f p) := by omega
  refine ⟨live_take hl h.live hp fun x hx => by have := h.le x hx; show cls (f x) < cls (f p); omega, h.le, fun q R' e => ?_, ?_⟩
  · subst e
    have hqn := h.live.lt q (by simp)
    by_cases hc : cls (f q) = 0
    · exact Or.inl hc
    · right
      have hcq : 0 < cls (f q) := by have := hn q hqn; omega
      have hs := (List.pairwise_append.1 h.live.srt).2.1
      have hpq := (List.pairwise_cons.1 hs).1 q (by simp)
      have hpos := live_next (c := fun i => cls (f i)) (m := p) (p := p) (P := P) (Q := [p]) (q := q) (R := R') ho (by simpa using h.live) (by simp) (fun x hx => by simp at hx; omega) hpq (Nat.le_refl _) hcq
      have h3 := ord_between ho (q - p) p (by omega) fun t a b => hpos t (by omega) (by omega)
      rw [show p + (q - p) = q by omega] at h3
      omega
  · rw [h.eq, lengthenG, if_neg (by omega), if_neg (by omega), hx]
theorem LenInv.jump (hl : Lasts (fun i => cls (f i)) la n) (ho : Ord (fun i => cls (f i)) n) (hn : ∀ i, i < n → 0 ≤ cls (f i)) (h : LenInv f cls row la n x0 L best passed P (p :: R)) (hp : 0 < cls (f p)) (hx : row (best.of ++ [f p]) = none) :
    ∃ Q T, R = Q ++ T ∧ lastE p Q = la p ∧ LenInv f cls row la n x0 L best (cls (f p)) (P ++ p :: Q) T := by
  have hd := h.hd p R rfl
  have hpp : passed < cls (f p) := by omega
  obtain ⟨Q, T, rfl, h1, h2, h3⟩ := live_jump hl ho hn h.live
  refine ⟨Q, T, rfl, h1, ⟨by simpa using h.live, fun x hx => ?_, h3, ?_⟩⟩
  · rcases List.mem_append.1 hx with hx | hx
    · have := h.le x hx; omega
    · rcases List.mem_cons.1 hx with rfl | hx
      · exact Int.le_refl _
      · have := h2 x hx; omega
  · rw [h.eq, lengthenG, if_neg (by omega), if_neg (by omega), hx]
    dsimp only
    rw [lengthen_skip f cls row Q T best (cls (f p)) fun x hx => by have := h2 x hx; omega]
    simp
theorem LenInv.done (hrow : ∀ k : List Int, 3 < k.length → row k = none) (h : LenInv f cls row la n x0 L best passed P R) (hd : (∀ q T, R = q :: T → cls (f q) = 0) ∨ 3 ≤ best.of.length) : lengthenG f cls row x0 0 L = (best, P ++ R) := by
  rw [h.eq]
  rcases hd with hd | hd
  · cases R with
    | nil => rfl
    | cons q T => rw [lengthenG, if_pos (hd q T rfl)]
  · rw [lengthen_full f cls row hrow R best passed hd]
end
end Go.Gz
