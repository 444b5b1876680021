/-
  Plain mathematics of lore's order: rows sorted stably by a key, piece by piece.
-/
import Derived.Test.YticjgmhgpeihjaaGreatDoorStabMerge
namespace Go.Gz
open Go.Sort

def insK (key : Int → Int) (x : Int) : List Int → List Int
  | [] => [x]
  | y :: t => if key x ≤ key y then x :: y :: t else y :: insK key x t
/-- sorted by key, those of one key as they stood. -/
def isort (key : Int → Int) : List Int → List Int
  | [] => []
  | x :: t => insK key x (isort key t)

def SrtL (key : Int → Int) (l : List Int) : Prop := l.Pairwise fun a b => key a ≤ key b
def StbL (key : Int → Int) (l l' : List Int) : Prop := ∀ c, l'.filter (fun x => decide (key x = c)) = l.filter (fun x => decide (key x = c))

theorem insK_filter (key : Int → Int) (x : Int) (c : Int) : ∀ l : List Int, (insK key x l).filter (fun x => decide (key x = c)) = (x :: l).filter (fun x => decide (key x = c))
  | [] => rfl
  | y :: t => by
    unfold insK
    split
    · rfl
    · rename_i h
      have ih := insK_filter key x c t
      simp only [List.filter_cons] at ih ⊢
      rw [ih]
      by_cases h1 : key x = c <;> by_cases h2 : key y = c
      · omega
      · simp [h1, h2]
      · simp [h1, h2]
      · simp [h1, h2]
theorem isort_stb (key : Int → Int) : ∀ l : List Int, StbL key l (isort key l)
  | [] => fun _ => rfl
  | x :: t => fun c => by
    have ih := isort_stb key t c
    rw [isort, insK_filter, List.filter_cons, List.filter_cons, ih]
theorem mem_insK {key : Int → Int} {x z : Int} : ∀ {l : List Int}, z ∈ insK key x l → z = x ∨ z ∈ l
  | [], h => by simp [insK] at h; exact Or.inl h
  | y :: t, h => by
    unfold insK at h
    split at h
    · simpa using h
    · rcases List.mem_cons.1 h with h | h
      · exact Or.inr (by simp [h])
      · rcases mem_insK h with h | h
        · exact Or.inl h
        · exact Or.inr (by simp [h])
theorem insK_srt {key : Int → Int} {x : Int} : ∀ {l : List Int}, SrtL key l → SrtL key (insK key x l)
  | [], _ => by simp [insK, SrtL]
  | y :: t, h => by
    have h1 := (List.pairwise_cons.1 h).1
    have h2 := (List.pairwise_cons.1 h).2
    unfold insK
    split
    · rename_i hle
      refine List.pairwise_cons.2 ⟨fun z hz => ?_, h⟩
      rcases List.mem_cons.1 hz with rfl | hz
      · exact hle
      · have := h1 z hz; omega
    · rename_i hle
      refine List.pairwise_cons.2 ⟨fun z hz => ?_, insK_srt h2⟩
      rcases mem_insK hz with rfl | hz
      · omega
      · exact h1 z hz
theorem isort_srt (key : Int → Int) : ∀ l : List Int, SrtL key (isort key l)
  | [] => List.Pairwise.nil
  | _ :: t => insK_srt (isort_srt key t)

theorem srt_uniq {key : Int → Int} : ∀ {l l' : List Int}, SrtL key l → SrtL key l' → StbL key l l' → l' = l
  | [], [], _, _, _ => rfl
  | [], y :: t, _, _, hs => by have := hs (key y); simp at this
  | x :: t, [], _, _, hs => by have := hs (key x); simp at this
  | x :: t, y :: u, h1, h2, hs => by
    have a1 := (List.pairwise_cons.1 h1).1
    have b1 := (List.pairwise_cons.1 h2).1
    have hk : key x = key y := by
      rcases Int.lt_trichotomy (key x) (key y) with h | h | h
      · have e := hs (key x)
        have : (y :: u).filter (fun z => decide (key z = key x)) = [] := by
          apply List.filter_eq_nil_iff.2
          intro z hz
          rcases List.mem_cons.1 hz with rfl | hz
          · simp; omega
          · have := b1 z hz; simp; omega
        rw [this] at e
        simp at e
      · exact h
      · have e := hs (key y)
        have : (x :: t).filter (fun z => decide (key z = key y)) = [] := by
          apply List.filter_eq_nil_iff.2
          intro z hz
          rcases List.mem_cons.1 hz with rfl | hz
          · simp; omega
          · have := a1 z hz; simp; omega
        rw [this] at e
        simp at e
    have e := hs (key x)
    simp only [List.filter_cons] at e
    rw [if_pos (by simp [hk]), if_pos (by simp)] at e
    have hxy : y = x := (List.cons.inj e).1
    subst hxy
    have hs' : StbL key t u := fun c => by
      have e := hs c
      simp only [List.filter_cons] at e
      by_cases h : key y = c
      · simp only [h, decide_true, if_true] at e
        exact (List.cons.inj e).2
      · simpa [h] using e
    rw [srt_uniq (List.pairwise_cons.1 h1).2 (List.pairwise_cons.1 h2).2 hs']
theorem isort_uniq {key : Int → Int} {l l' : List Int} (h : SrtL key l') (hs : StbL key l l') : l' = isort key l :=
  srt_uniq (isort_srt key l) h fun c => (hs c).trans (isort_stb key l c).symm
theorem isort_same {key : Int → Int} {l : List Int} (h : SrtL key l) : isort key l = l := (isort_uniq h fun _ => rfl).symm
theorem isort_length (key : Int → Int) : ∀ l : List Int, (isort key l).length = l.length
  | [] => rfl
  | x :: t => by
    have h : ∀ l : List Int, (insK key x l).length = l.length + 1 := by
      intro l
      induction l with
      | nil => rfl
      | cons y u ih => unfold insK; split <;> simp [ih]
    rw [isort, h, isort_length key t]; rfl
theorem mem_isort {key : Int → Int} {z : Int} {l : List Int} : z ∈ isort key l ↔ z ∈ l := by
  have h := isort_stb key l (key z)
  constructor
  · intro hz
    have : z ∈ (isort key l).filter (fun x => decide (key x = key z)) := List.mem_filter.2 ⟨hz, by simp⟩
    rw [h] at this
    exact (List.mem_filter.1 this).1
  · intro hz
    have : z ∈ l.filter (fun x => decide (key x = key z)) := List.mem_filter.2 ⟨hz, by simp⟩
    rw [← h] at this
    exact (List.mem_filter.1 this).1
theorem count_isort {key : Int → Int} (z : Int) (l : List Int) : (isort key l).count z = l.count z := by
  have h := congrArg (List.count z) (isort_stb key l (key z))
  rwa [List.count_filter (by simp), List.count_filter (by simp)] at h

/-- in place: what was done is the stable sort. -/
theorem done_isort {key : Int → Int} {d d' : Array Int} (h : Done key 0 d.size d d') : d'.toList = isort key d.toList := by
  refine isort_uniq ?_ h.2.1
  unfold SrtL
  rw [List.pairwise_iff_getElem]
  intro i j hi hj hij
  have hs := h.1.1
  have := h.2.2 i j (Nat.zero_le _) hij (by simp at hj; omega)
  rw [getElem!_pos d' i (by simpa using hi), getElem!_pos d' j (by simpa using hj)] at this
  simpa using this

/-! ### order -/
def ordGo (key : Int → Int) (acc : List Int) : List Int → List Int
  | [] => isort key acc
  | r :: t => if key r ≤ 0 then isort key acc ++ r :: ordGo key [] t else ordGo key (acc ++ [r]) t
/-- runes of a class above 0 that stand beside one another sorted by class. -/
def orderL (key : Int → Int) (l : List Int) : List Int := ordGo key [] l

theorem ordGo_length (key : Int → Int) : ∀ (l acc : List Int), (ordGo key acc l).length = acc.length + l.length
  | [], acc => by rw [ordGo, isort_length]; rfl
  | r :: t, acc => by
    unfold ordGo
    split
    · rw [List.length_append, List.length_cons, isort_length, ordGo_length key t []]; simp
    · rw [ordGo_length key t]; simp; omega
theorem order_length (key : Int → Int) (l : List Int) : (orderL key l).length = l.length := by
  unfold orderL; rw [ordGo_length]; simp
theorem ordGo_part {key : Int → Int} {x : Int} (hx : key x ≤ 0) (b : List Int) : ∀ (a acc : List Int), ordGo key acc (a ++ x :: b) = ordGo key acc a ++ x :: orderL key b
  | [], acc => by
    simp only [List.nil_append, ordGo]
    rw [if_pos hx]; rfl
  | r :: t, acc => by
    simp only [List.cons_append, ordGo]
    split
    · rw [ordGo_part hx b t]; simp
    · exact ordGo_part hx b t _
theorem order_part {key : Int → Int} {x : Int} (hx : key x ≤ 0) (a b : List Int) : orderL key (a ++ x :: b) = orderL key a ++ x :: orderL key b := ordGo_part hx b a []
theorem count_ordGo {key : Int → Int} (z : Int) : ∀ (l acc : List Int), (ordGo key acc l).count z = acc.count z + l.count z
  | [], acc => by rw [ordGo, count_isort]; simp
  | r :: t, acc => by
    unfold ordGo
    split
    · rw [List.count_append, List.count_cons, count_isort, count_ordGo z t []]; simp [List.count_cons]
    · rw [count_ordGo z t]; simp [List.count_cons, List.count_append]; omega
theorem count_order {key : Int → Int} (z : Int) (l : List Int) : (orderL key l).count z = l.count z := by
  unfold orderL; rw [count_ordGo]; simp
theorem mem_order {key : Int → Int} {z : Int} {l : List Int} : z ∈ orderL key l ↔ z ∈ l := by
  rw [← List.count_pos_iff, ← List.count_pos_iff, count_order]

/-- in order: a rune with a class above 0 has none of a greater class ahead of it. -/
def InOrder (key : Int → Int) (l : List Int) : Prop := ∀ i, i + 1 < l.length → 0 < key (l.getD (i + 1) 0) → key (l.getD i 0) ≤ key (l.getD (i + 1) 0)
/-- put in order: marks only, sorted; parted by runes of no class. -/
inductive Parts (key : Int → Int) : List Int → Prop
  | last (m : List Int) : (∀ x ∈ m, 0 < key x) → SrtL key m → Parts key m
  | more (m : List Int) (r : Int) (t : List Int) : (∀ x ∈ m, 0 < key x) → SrtL key m → key r ≤ 0 → Parts key t → Parts key (m ++ r :: t)
theorem parts_ordGo {key : Int → Int} : ∀ (l acc : List Int), (∀ x ∈ acc, 0 < key x) → Parts key (ordGo key acc l)
  | [], acc, h => Parts.last _ (fun x hx => h x (mem_isort.1 hx)) (isort_srt _ _)
  | r :: t, acc, h => by
    unfold ordGo
    split
    · rename_i hr
      exact Parts.more _ r _ (fun x hx => h x (mem_isort.1 hx)) (isort_srt _ _) hr (parts_ordGo t [] fun x hx => by simp at hx)
    · rename_i hr
      exact parts_ordGo t (acc ++ [r]) fun x hx => by
        rcases List.mem_append.1 hx with hx | hx
        · exact h x hx
        · simp at hx; subst hx; omega
theorem ordGo_marks {key : Int → Int} : ∀ (m acc t : List Int), (∀ x ∈ m, 0 < key x) → ordGo key acc (m ++ t) = ordGo key (acc ++ m) t
  | [], acc, t, _ => by simp
  | r :: m, acc, t, h => by
    have hr := h r (by simp)
    rw [List.cons_append, ordGo, if_neg (by omega), ordGo_marks m _ t (fun x hx => h x (by simp [hx]))]
    simp
theorem order_parts {key : Int → Int} {l : List Int} (h : Parts key l) : orderL key l = l := by
  induction h with
  | last m h1 h2 =>
    have := ordGo_marks m [] [] h1
    rw [List.append_nil] at this
    unfold orderL
    rw [this, List.nil_append, ordGo, isort_same h2]
  | more m r t h1 h2 hr _ ih =>
    rw [order_part hr, ih]
    congr 1
    have := ordGo_marks m [] [] h1
    rw [List.append_nil] at this
    unfold orderL
    rw [this, List.nil_append, ordGo, isort_same h2]
theorem order_twice (key : Int → Int) (l : List Int) : orderL key (orderL key l) = orderL key l := order_parts (parts_ordGo l [] fun x hx => by simp at hx)
theorem parts_inOrder {key : Int → Int} {l : List Int} (h : Parts key l) : InOrder key l := by
  have srt : ∀ (m : List Int), SrtL key m → ∀ i, i + 1 < m.length → key (m.getD i 0) ≤ key (m.getD (i + 1) 0) := fun m hm i hi => by
    have := (List.pairwise_iff_getElem.1 hm) i (i + 1) (by omega) hi (by omega)
    simpa [List.getD, hi, show i < m.length by omega] using this
  induction h with
  | last m h1 h2 => exact fun i hi _ => srt m h2 i hi
  | more m r t h1 h2 hr ht ih =>
    intro i hi hpos
    have g : ∀ j, (m ++ r :: t).getD j 0 = if j < m.length then m.getD j 0 else if j = m.length then r else t.getD (j - m.length - 1) 0 := fun j => by
      by_cases c1 : j < m.length
      · rw [if_pos c1]; simp [List.getD, List.getElem?_append_left c1]
      · rw [if_neg c1]
        by_cases c2 : j = m.length
        · rw [if_pos c2]; simp [List.getD, c2]
        · rw [if_neg c2]
          simp only [List.getD, List.getElem?_append_right (show m.length ≤ j by omega)]
          rw [show j - m.length = (j - m.length - 1) + 1 by omega, List.getElem?_cons_succ]
          rfl
    rw [g i, g (i + 1)]
    rw [g (i + 1)] at hpos
    by_cases c1 : i + 1 < m.length
    · rw [if_pos c1, if_pos (by omega)]; exact srt m h2 i c1
    · rw [if_neg c1] at hpos ⊢
      by_cases c2 : i + 1 = m.length
      · rw [if_pos c2] at hpos; omega
      · rw [if_neg c2] at hpos ⊢
        rw [if_neg (by omega)]
        by_cases c3 : i = m.length
        · rw [if_pos c3]; omega
        · rw [if_neg c3]
          have hl : (m ++ r :: t).length = m.length + (t.length + 1) := by simp
          have e : i + 1 - m.length - 1 = (i - m.length - 1) + 1 := by omega
          rw [e] at hpos ⊢
          exact ih (i - m.length - 1) (by omega) hpos
theorem order_inOrder (key : Int → Int) (l : List Int) : InOrder key (orderL key l) := parts_inOrder (parts_ordGo l [] fun x hx => by simp at hx)
end Go.Gz
